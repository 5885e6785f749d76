/- At the landed commit, for any script: two memories of 12 cells, one told Swap, the other Read and Write, tell the same and have the same words behind every step. Conditions: the library's variable errors.errorType holds what the program's text lays (tied to the text by the card). -/
import Derived.Test.YtlmdnoeimegicaaDoorFrm
import Derived.Test.YtlmdnoeimegicaaDoorScript
import Derived.Test.YtlmdnoeimegicaaDoorCards
import Derived.Test.YtlmdnoeimegicaaDoorTie
namespace Go.Proofs.YtlmdnoeimegicaaDoor.cellSame
open Go.ChangeShapes Go.WideShapes Go.ChangeAt Go.RowKit
open Go.Proofs.YtlmdnoeimegicaaDoor.Cell

theorem why_zero {l : List Int} {i v : Int} (h : whyC l i v = 0) : swV l i v = rdV l i ∧ whyC l i 0 = 0 := by
  unfold whyC at h
  unfold swV rdV whyC
  by_cases h1 : inR l i 1 = true
  · by_cases h2 : okV v = true
    · simp [h1, h2, show okV 0 = true from rfl]
    · simp [h1, h2] at h
  · simp [h1] at h

/-- What holds at the head of each round. -/
def Inv (W : World) (ba ga bb gb : Nat) (k : Nat) (w : World) : Prop :=
  ∃ (l : List Int) (c d : Int), MemAt w ba ga l c ∧ MemAt w bb gb l d ∧ l.length = 12 ∧ 0 ≤ c ∧ c ≤ k ∧ 0 ≤ d ∧ d ≤ 2 * k ∧ Below W.heap.size W w

set_option maxHeartbeats 1000000 in
theorem walk (A : Option Addr) (n c : Nat) (s : Nat → St) (hn : n ≤ c) (hc : c ≤ 9223372036854775807) (W : World) (hg : Et W) (hs : Scr W A n s) :
    Calls Tryd.prog 10 #[.slice A n c] W fun e w' => e = .returned (.bool true) ∧ Below W.heap.size W w' := by
  have p0 := hg.pos
  have HS : Hid (Scr W A (min n 80) s) := hs.less (by omega)
  clear hs
  have hm80 : min n 80 ≤ 80 := by omega
  go_enter Tryd.func10, Tryd.ntmps10
  go_wp2_with fail
  refine (lives_any _ hg).mono ?_
  rintro e w1 ⟨rfl, hb1⟩
  go_wp2_with fail
  refine (new_any 12 _).mono ?_
  rintro e w2 ⟨rfl, hm2, hb2⟩
  go_wp2_with fail
  refine (new_any 12 _).mono ?_
  rintro e w3 ⟨rfl, hm3, hb3⟩
  have hm2' := hm2.below_ hb3
  have z1 := hb1.size
  have z2 := hm2.head.lt
  have z3 := hb2.size
  have HI : Hid (Inv W (w1.heap.size + 1) w1.heap.size (w2.heap.size + 1) w2.heap.size 0 w3) := ⟨zs 12, 0, 0, hm2', hm3, rfl, by omega, by omega, by omega, by omega, (hb1.trans (hb2.mono z1)).trans (hb3.mono (by omega))⟩
  generalize hba : w1.heap.size + 1 = ba at *
  generalize hga : w1.heap.size = ga at *
  generalize hbb : w2.heap.size + 1 = bb at *
  generalize hgb : w2.heap.size = gb at *
  have q1 : W.heap.size ≤ ga := z1
  have q2 : ga < ba := by omega
  have q3 : ba < gb := by omega
  have q4 : gb < bb := by omega
  clear hba hga hbb hgb hm2 hm2' hm3 hb1 hb2 hb3 z1 z2 z3
  go_wp2_with fail
  refine (early_any n c hn hc _).mono ?_
  rintro e w4 ⟨⟨c', rfl⟩, rfl⟩
  generalize min n 80 = m at *
  clear hn hc
  go_wp2
  go_loopw [5] (fun i wr => ∃ k : Nat, k ≤ m ∧ i = .int .i64 k ∧ Inv W ba ga bb gb k wr) (fun i _ => m - (intOf i).toNat)
  case atStart => exact ⟨0, by omega, rfl, HI.out⟩
  case round =>
    obtain ⟨k, hk, rfl, l, ca, cb, hma, hmb, hl, c0, c1, d0, d1, hbw⟩ := hrel
    have HL := Lib.hid hl
    have hl' : l.length ≤ 4096 := by omega
    clear hl
    by_cases hlt : k < m
    · obtain ⟨b, o, rfl, hbs, ⟨oki, okv⟩, hc1, hc2, hc3⟩ := HS.out.at_ hbw hlt
      generalize s k = x at *
      have gw : Et wr := hg.below hbw p0
      go_wp2
      go_quiet (fail)
      have hma1 := hma.drewN nq
      have hmb1 := hmb.drewN nq
      have gw1 := gw.drewN nq
      have hbw1 := drewN_below hbw nq
      clear hma hmb gw hbw hc1 hc2 hc3
      generalize wr.drewN nq = w0 at *
      have rb := rdN_bd l x.i cb
      have sa := swN_bd l x.i x.v ca
      have sb := swN_bd l x.i x.v (rdN l x.i cb)
      by_cases h0 : whyC l x.i x.v = 0
      · obtain ⟨hx, hf⟩ := why_zero h0
        have H0 := Lib.hid h0; clear h0
        have HX := Lib.hid hx; clear hx
        have HF := Lib.hid hf; clear hf
        go_wp2_with fail
        refine (swap_any hma1 gw1 hl' c0 (by omega) x.i x.v oki).mono ?_
        rintro e w5 ⟨rfl, hma5, hk5⟩
        rw [H0.out, HX.out]
        have hmb5 := hmb1.keep hk5 (by omega) (by omega) (by omega) (by omega)
        have gw5 := gw1.keep hk5 (by omega) (by omega)
        go_wp2_with fail
        refine (read_any hmb5 gw5 hl' d0 (by omega) x.i oki).mono ?_
        rintro e w6 ⟨rfl, hmb6, hk6⟩
        rw [HF.out]
        have hma6 := hma5.keep hk6 (by omega) (by omega) (by omega) (by omega)
        have gw6 := gw5.keep hk6 (by omega) (by omega)
        go_wp2_with fail
        refine (write_any hmb6 gw6 hl' (by omega) (by omega) x.i x.v oki).mono ?_
        rintro e w7 ⟨rfl, hmb7, hk7⟩
        rw [H0.out]
        have hma7 := hma6.keep hk7 (by omega) (by omega) (by omega) (by omega)
        have hbw7 := Below.keep (Below.keep (Below.keep hbw1 hk5 hbw1.size (by omega) (by omega)) hk6 (Nat.le_trans hbw1.size hk5.size) (by omega) (by omega)) hk7 (Nat.le_trans (Nat.le_trans hbw1.size hk5.size) hk6.size) (by omega) (by omega)
        have hz7 := hbw7.size
        clear hma1 hmb1 hma5 hmb5 hma6 hmb6 gw1 gw5 gw6 hk5 hk6 hk7 hbw1
        go_wp2_with fail
        refine (all_any hma7 (by rw [swL_length]; exact hl')).mono ?_
        rintro e w8 ⟨va, rfl, hva, hb8⟩
        go_wp2_with fail
        refine (all_any (hmb7.below_ hb8) (by rw [swL_length]; exact hl')).mono ?_
        rintro e w9 ⟨vb, rfl, hvb, hb9⟩
        go_wp2_with fail
        refine (same_lst (by rw [swL_length]; exact hl') (hva.below hb9) hvb).mono ?_
        rintro e w10 ⟨rfl, nd, hw10⟩
        have HW := Lib.hid hw10; clear hw10
        go_wp2
        go_roundw
        case rel =>
          have hs8 := hb8.size
          have hs9 := hb9.size
          have hbb := (((hbw7.trans (hb8.mono hz7)).trans (hb9.mono (by omega))))
          refine ⟨k + 1, by omega, by go_num, swL l x.i x.v, swN l x.i x.v ca, swN l x.i x.v (rdN l x.i cb), ?_, ?_, by rw [swL_length]; exact HL.out, ?_, ?_, ?_, ?_, ?_⟩
          · rw [HW.out]; exact ((hma7.below_ hb8).below_ hb9).drewN nd
          · rw [HW.out]; exact ((hmb7.below_ hb8).below_ hb9).drewN nd
          · omega
          · omega
          · omega
          · omega
          · rw [HW.out]; exact drewN_below hbb nd
        case measure => simp [intOf]; omega
      · have hne : (whyC l x.i x.v == 0) = false := beq_eq_false_iff_ne.2 h0
        clear h0
        go_wp2_with fail
        refine (swap_any hma1 gw1 hl' c0 (by omega) x.i x.v oki).mono ?_
        rintro e w5 ⟨rfl, hma5, hk5⟩
        have hmb5 := hmb1.keep hk5 (by omega) (by omega) (by omega) (by omega)
        have gw5 := gw1.keep hk5 (by omega) (by omega)
        go_wp2_with fail
        refine (read_any hmb5 gw5 hl' d0 (by omega) x.i oki).mono ?_
        rintro e w6 ⟨rfl, hmb6, hk6⟩
        have hma6 := hma5.keep hk6 (by omega) (by omega) (by omega) (by omega)
        have gw6 := gw5.keep hk6 (by omega) (by omega)
        go_wp2_with fail
        refine (write_any hmb6 gw6 hl' (by omega) (by omega) x.i x.v oki).mono ?_
        rintro e w7 ⟨rfl, hmb7, hk7⟩
        have hma7 := hma6.keep hk7 (by omega) (by omega) (by omega) (by omega)
        have hbw7 := Below.keep (Below.keep (Below.keep hbw1 hk5 hbw1.size (by omega) (by omega)) hk6 (Nat.le_trans hbw1.size hk5.size) (by omega) (by omega)) hk7 (Nat.le_trans (Nat.le_trans hbw1.size hk5.size) hk6.size) (by omega) (by omega)
        have hz7 := hbw7.size
        clear hma1 hmb1 hma5 hmb5 hma6 hmb6 gw1 gw5 gw6 hk5 hk6 hk7 hbw1
        go_wp2_with fail
        refine (all_any hma7 (by rw [swL_length]; exact hl')).mono ?_
        rintro e w8 ⟨va, rfl, hva, hb8⟩
        go_wp2_with fail
        refine (all_any (hmb7.below_ hb8) (by rw [swL_length]; exact hl')).mono ?_
        rintro e w9 ⟨vb, rfl, hvb, hb9⟩
        go_wp2_with fail
        refine (same_lst (by rw [swL_length]; exact hl') (hva.below hb9) hvb).mono ?_
        rintro e w10 ⟨rfl, nd, hw10⟩
        have HW := Lib.hid hw10; clear hw10
        go_wp2
        go_roundw
        case rel =>
          have hs8 := hb8.size
          have hs9 := hb9.size
          have hbb := (((hbw7.trans (hb8.mono hz7)).trans (hb9.mono (by omega))))
          refine ⟨k + 1, by omega, by go_num, swL l x.i x.v, swN l x.i x.v ca, swN l x.i x.v (rdN l x.i cb), ?_, ?_, by rw [swL_length]; exact HL.out, ?_, ?_, ?_, ?_, ?_⟩
          · rw [HW.out]; exact ((hma7.below_ hb8).below_ hb9).drewN nd
          · rw [HW.out]; exact ((hmb7.below_ hb8).below_ hb9).drewN nd
          · omega
          · omega
          · omega
          · omega
          · rw [HW.out]; exact drewN_below hbb nd
        case measure => simp [intOf]; omega
    · have hL : ((l.length : Nat) : Int) = 12 := by rw [HL.out]; rfl
      go_wp2_with fail
      refine (len_any hma).mono ?_
      rintro e w8 ⟨rfl, rfl⟩
      go_wp2
      go_ret
      exact ⟨rfl, hbw⟩

/-! ### The row -/
set_option maxHeartbeats 400000 in
set_option maxRecDepth 100000 in
theorem lifted (os : Os) (started : os.Started) (H : Type) (enc : TypeId × Value → H) :
    ReturnsInHanded {} Tryd.checked os 10 .any (fun w args => (Rows.cellSameSpec.pre enc Tryd.prog Tryd.f10 [] false w args ∧ laidMetH Tryd.prog laidL w) ∧ sizedMet enc Tryd.prog Tryd.f10 (OpenSpec.ofChange Rows.cellSameSpec) false w args)
      (Rows.cellSameSpec.post enc Tryd.prog Tryd.f10 false true false false) := by
  refine returnsInHanded_of_change_and (C := Tryd.checked) (X := fun w _ => laidMetH Tryd.prog laidL w) (fun _ _ _ hh h => h.of_heap hh) own started (by kernel_rfl) Tryd.func10
    (ChangeSpec.witness_at (enc := enc) (C := Tryd.checked) (os := os) (X := fun w _ => laidMetH Tryd.prog laidL w) false (laidWorld os) #[.slice none 0 0] 8 rfl (by kernel_rfl) (by kernel_rfl) (by kernel_rfl) (by kernel_rfl) (by kernel_rfl) (laidWorld_met os _)) ?_
  intro W base args ds gs before hval0 hW _ _ hL _
  have hval : ∀ (j : Nat) t v, Tryd.f10.params[j]? = some t → args[j]? = some v → Value.okWide Tryd.prog W .any base t v := hval0
  have hW' := hW
  obtain ⟨p, q, hA0, hV, rfl, hfz, hnd⟩ := hW
  have hA : DataW.TrodAll enc Tryd.prog W 0 (fun _ => true) true Tryd.f10.params.toList args.toList ds p := hA0
  rw [Tryd.params10] at hA hval
  obtain ⟨v0, vs0, d0, ds0, p0, q0, hargs, rfl, rfl, h0, r0⟩ := trodAll_cons hA
  obtain ⟨rfl, rfl, rfl⟩ := trodAll_nil r0
  obtain rfl : args = #[v0] := by cases args; simp_all
  obtain ⟨rfl, rfl⟩ := trodVars_none hV
  obtain ⟨A0, n0, c0, s0, rfl, hn0, hc0, hs0⟩ := open_script (hval 0 22 v0 rfl rfl) h0
  clear hA0 hval0
  refine (walk A0 n0 c0 s0 hn0 hc0 W (et_of_laid hL) hs0).mono fun e W' ⟨he, hb⟩ => ?_
  subst he
  exact ⟨_, rfl, post_true hW' rfl rfl (by kernel_rfl) rfl hb⟩

theorem over : Rows.cellSameRow.holds Tryd.pinned (OpenSpec.ofChange Rows.cellSameSpec) :=
  OpenClaim.holds_of_wide 10 Tryd.f10 rfl rfl rfl rfl rfl rfl rfl ⟨rfl, rfl, rfl, rfl, rfl⟩ rfl rfl rfl rfl rfl (by kernel_rfl) Tryd.func10 (by kernel_rfl)
    (of_decide_eq_true (by kernel_rfl)) (by unfold Func.isWrapper; first | (rw [if_pos (by decide +kernel)]; kernel_rfl) | (rw [if_neg (by decide +kernel)]; exact ⟨rfl, rfl⟩))
    (fun os started H enc _ => lifted os started H enc)

theorem proved : Rows.CellSameCardSaid :=
  Claim7.holds_tied_plain_at .later [] [.handle] true (true, "8ad22192271aa5699a4cc611ddacb8a0f4adb4f459bf1e79af938f539e6c2f82") true
    over (fun _ h => by cases h) (by kernel_rfl) (fun _ h => by cases h) cellSame_row_tie rfl ⟨rfl, rfl⟩ (by kernel_rfl) rfl
    (fun f fn hf hfn => by
      obtain rfl : f = 10 := Option.some.inj ((show Tryd.prog.funcNamed "empennage/empennagelaw02.CellSame" = some 10 by kernel_rfl).symm.trans hf) |>.symm
      obtain rfl : fn = Tryd.f10 := (Option.some.inj (Tryd.func10.symm.trans hfn)).symm
      exact ⟨by kernel_rfl, fun j t ht => by
        rw [Tryd.params10] at ht
        rcases j with _ | j
        · obtain rfl : t = 22 := by simpa using ht.symm
          exact (show Tryd.prog.wantsStandIn 22 = false by kernel_rfl)
        · simp at ht⟩)
    (by kernel_rfl)
end Go.Proofs.YtlmdnoeimegicaaDoor.cellSame
namespace Go.Proofs.YtlmdnoeimegicaaDoor
theorem cellSame_holds : Rows.CellSameCardSaid := cellSame.proved
#print axioms cellSame_holds
end Go.Proofs.YtlmdnoeimegicaaDoor
