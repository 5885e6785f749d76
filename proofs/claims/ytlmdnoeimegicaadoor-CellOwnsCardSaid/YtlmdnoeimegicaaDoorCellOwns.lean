/- At the landed commit, for any three numbers: what All tells of a memory (of cells up to 40, behind one Write) hangs on no memory: counting up every word of a list that it told changes neither the memory nor another list that it told. Conditions: the library's variable errors.errorType holds what the program's text lays (tied to the text by the card). -/
import Derived.Test.YtlmdnoeimegicaaDoorFrm
import Derived.Test.YtlmdnoeimegicaaDoorScript
import Derived.Test.YtlmdnoeimegicaaDoorCards
import Derived.Test.YtlmdnoeimegicaaDoorTie
namespace Go.Proofs.YtlmdnoeimegicaaDoor.cellOwns
open Go.ChangeShapes Go.WideShapes Go.ChangeAt Go.RowKit
open Go.Proofs.YtlmdnoeimegicaaDoor.Cell

theorem form {w : World} {B : Nat} {A : Option Addr} {n c : Nat} {l : List Int} (h : Lst w B (.slice A n c) l) (hn : n = l.length) (h0 : 0 < n) : ∃ g, A = some ⟨g, 0, none⟩ ∧ B ≤ g ∧ g < w.heap.size := by
  rcases h.2 with ⟨e, h1⟩ | ⟨g, cap, cur, e, hB, hh, _⟩
  · omega
  · injection e with e1 e2 e3
    refine ⟨g, e1, hB, ?_⟩
    rcases Nat.lt_or_ge g w.heap.size with h' | h'
    · exact h'
    · rw [Array.getElem?_eq_none h'] at hh; cases hh

def Inv (W : World) (b g Bl Bw : Nat) (A : Option Addr) (ca : Nat) (vw : Value) (L : List Int) (c : Int) (w : World) : Prop :=
  ∃ l2 : List Int, l2.length = L.length ∧ Lst w Bl (.slice A L.length ca) l2 ∧ MemAt w b g L c ∧ Lst w Bw vw L ∧ Below W.heap.size W w ∧ (∀ gl, A = some ⟨gl, 0, none⟩ → gl < Bw)

set_option maxHeartbeats 1000000 in
theorem walk (a0 a1 a2 : Int) (hi : a1 ≤ 9223372036854775807) (W : World) (hg : Et W) :
    Calls Tryd.prog 8 #[.int .i64 a0, .int .i64 a1, .int .i64 a2] W fun e w' => e = .returned (.bool true) ∧ Below W.heap.size W w' := by
  have p0 := hg.pos
  obtain ⟨q, hq, q0, q1⟩ : ∃ q, (IntKind.u64.wrap a0).tmod 41 = q ∧ 0 ≤ q ∧ q < 41 := ⟨_, rfl, modU_bd a0 41 (by decide)⟩
  go_enter Tryd.func8, Tryd.ntmps8
  go_wp2_with fail
  refine (lives_any _ hg).mono ?_
  rintro e w1 ⟨rfl, hb1⟩
  have g1 := hg.below hb1 p0
  go_wp2_with fail
  refine (new_any q _).mono ?_
  rintro e w2 ⟨rfl, hm2, hb2⟩
  have g2 := g1.below hb2 g1.pos
  have hl2 : (zs (clampN q)).length ≤ 4096 := by rw [zs_length]; unfold clampN; omega
  clear hq
  go_wp2_with fail
  refine (write_any hm2 g2 hl2 (by omega) (by omega) a1 a2 hi).mono ?_
  rintro e w3 ⟨rfl, hm3, hk3⟩
  have hl3 : (swL (zs (clampN q)) a1 a2).length ≤ 4096 := by rw [swL_length]; exact hl2
  generalize swL (zs (clampN q)) a1 a2 = L at *
  generalize swN (zs (clampN q)) a1 a2 0 = c at *
  have z1 := hb1.size
  have z2 := hm2.head.lt
  have hbw3 := Below.keep (hb1.trans (hb2.mono z1)) hk3 (by omega) (by omega) z1
  have z3 := hm3.head.lt
  generalize hb : w1.heap.size + 1 = b at *
  generalize hgg : w1.heap.size = g at *
  have r1 : g < b := by omega
  clear hb hgg hm2 hb1 hb2 hk3 hl2 g1 g2
  go_wp2_with fail
  refine (all_any hm3 hl3).mono ?_
  rintro e w4 ⟨vl, rfl, hvl, hb4⟩
  go_wp2_with fail
  refine (all_any (hm3.below_ hb4) hl3).mono ?_
  rintro e w5 ⟨vw, rfl, hvw, hb5⟩
  obtain ⟨A, ca, rfl, _, _⟩ := lst_rd hvl
  obtain ⟨Aw, cw, rfl, _, _⟩ := lst_rd hvw
  have z4 := hb4.size
  have z5 := hb5.size
  have HI : Hid (Inv W b g w3.heap.size w4.heap.size A ca (.slice Aw L.length cw) L c w5) :=
    ⟨L, rfl, hvl.below hb5, (hm3.below_ hb4).below_ hb5, hvw, (hbw3.trans (hb4.mono (by omega))).trans (hb5.mono (by omega)), fun gl e => by
      subst e
      rcases Nat.eq_zero_or_pos L.length with h0 | h0
      · rcases hvl.2 with ⟨e, _⟩ | ⟨g', cap, cur, e, hB, hh, _⟩
        · cases e
        · injection e with e1 _ _; injection e1 with e1; injection e1 with e1
          subst e1
          rcases Nat.lt_or_ge gl w4.heap.size with h' | h'
          · exact h'
          · rw [Array.getElem?_eq_none h'] at hh; cases hh
      · obtain ⟨g', e, _, h⟩ := form hvl rfl h0
        injection e with e; injection e with e; omega⟩
  generalize w3.heap.size = Bl at *
  generalize w4.heap.size = Bw at *
  clear hvl hvw hb4 hb5 hm3 hbw3
  go_wp2
  go_loopw [10] (fun i wr => ∃ k : Nat, k ≤ L.length ∧ i = .int .i64 k ∧ Inv W b g Bl Bw A ca (.slice Aw L.length cw) L c wr) (fun i _ => L.length - (intOf i).toNat)
  case atStart => exact ⟨0, by omega, rfl, HI.out⟩
  case round =>
    obtain ⟨k, hk, rfl, l2, h2, hv2, hm, hw, hbw, hA⟩ := hrel
    have H2 := Lib.hid h2; clear h2
    by_cases hlt : k < L.length
    · obtain ⟨gl, rfl, hB, hgl⟩ := form hv2 H2.out.symm (by omega)
      have hgw := hA gl rfl
      clear hA
      have hv2' : wr.ownsRow Bl 3 1 (.slice (some ⟨gl, 0, none⟩) L.length ca) L.length (l2.map (Value.int .i64)) := by
        have := hv2; unfold Lst at this; rw [H2.out] at this; exact this
      have hc1 : wr.cell? ⟨gl, k, none⟩ = some (.int .i64 (nth l2 k)) := by
        have := hv2'.cellAt k (by omega)
        rw [this]; simp [nth, show k < l2.length by rw [H2.out]; exact hlt]
      have hf1 := hv2'.frozenAt k
      have key : ∀ X : Int, Inv W b g Bl Bw (some ⟨gl, 0, none⟩) ca (.slice Aw L.length cw) L c (wr.setCell ⟨gl, k, none⟩ (.int .i64 X)) := fun X => by
        refine ⟨l2.set k X, by rw [List.length_set]; exact H2.out, ?_, ⟨hm.head.far (p := ⟨gl, k, none⟩) (by show b ≠ gl; omega) _, hm.words.far (p := ⟨gl, k, none⟩) (by show g ≠ gl; omega) _⟩, hw.block (fun j hj _ => Below.heap_setCell _ _ _ _ (by show j ≠ gl; omega)), hbw.setCell (by show W.heap.size ≤ gl; omega) _, fun gl' e => by injection e with e; injection e with e; omega⟩
        unfold Lst
        rw [List.length_set, H2.out, List.map_set]
        exact (hv2'.stored k _).1
      have KEY := Lib.hid key; clear key
      go_wp2
      go_roundw
      case rel => exact ⟨k + 1, by omega, by go_num, KEY.out _⟩
      case measure => simp [intOf]; omega
    · go_wp2_with fail
      refine (all_any hm hl3).mono ?_
      rintro e w8 ⟨v8, rfl, hv8, hb8⟩
      go_wp2_with fail
      refine (same_lst hl3 hv8 (hw.below hb8)).mono ?_
      rintro e w9 ⟨rfl, nd, hw9⟩
      have HW := Lib.hid hw9; clear hw9
      go_wp2_with fail
      refine (len_any (l := L) (c := c) (b := b) (g := g) ?_).mono ?_
      · rw [HW.out]; exact (hm.below_ hb8).drewN nd
      rintro e w10 ⟨rfl, rfl⟩
      go_wp2
      go_ret
      exact ⟨rfl, by rw [HW.out]; exact drewN_below (hbw.trans (hb8.mono hbw.size)) nd⟩

/-! ### The row -/
set_option maxHeartbeats 400000 in
set_option maxRecDepth 100000 in
theorem lifted (os : Os) (started : os.Started) (H : Type) (enc : TypeId × Value → H) :
    ReturnsInHanded {} Tryd.checked os 8 .any (fun w args => (Rows.cellOwnsSpec.pre enc Tryd.prog Tryd.f8 [] false w args ∧ laidMetH Tryd.prog laidL w) ∧ sizedMet enc Tryd.prog Tryd.f8 (OpenSpec.ofChange Rows.cellOwnsSpec) false w args)
      (Rows.cellOwnsSpec.post enc Tryd.prog Tryd.f8 false true false false) := by
  refine returnsInHanded_of_change_and (C := Tryd.checked) (X := fun w _ => laidMetH Tryd.prog laidL w) (fun _ _ _ hh h => h.of_heap hh) own started (by kernel_rfl) Tryd.func8
    (ChangeSpec.witness_at (enc := enc) (C := Tryd.checked) (os := os) (X := fun w _ => laidMetH Tryd.prog laidL w) false (laidWorld os) #[.int .i64 0, .int .i64 0, .int .i64 0] 8 rfl (by kernel_rfl) (by kernel_rfl) (by kernel_rfl) (by kernel_rfl) (by kernel_rfl) (laidWorld_met os _)) ?_
  intro W base args ds gs before hval0 hW _ _ hL _
  have hval : ∀ (j : Nat) t v, Tryd.f8.params[j]? = some t → args[j]? = some v → Value.okWide Tryd.prog W .any base t v := hval0
  have hW' := hW
  obtain ⟨p, q, hA0, hV, rfl, hfz, hnd⟩ := hW
  have hA : DataW.TrodAll enc Tryd.prog W 0 (fun _ => true) true Tryd.f8.params.toList args.toList ds p := hA0
  rw [Tryd.params8] at hA hval
  obtain ⟨v0, vs0, d0, ds0, p0, q0, hargs, rfl, rfl, h0, r0⟩ := trodAll_cons hA
  obtain ⟨v1, vs1, d1, ds1, p1, q1, rfl, rfl, rfl, h1, r1⟩ := trodAll_cons r0
  obtain ⟨v2, vs2, d2, ds2, p2, q2, rfl, rfl, rfl, h2, r2⟩ := trodAll_cons r1
  obtain ⟨rfl, rfl, rfl⟩ := trodAll_nil r2
  obtain rfl : args = #[v0, v1, v2] := by cases args; simp_all
  obtain ⟨rfl, rfl⟩ := trodVars_none hV
  obtain ⟨a0, rfl, rfl, rfl, w0⟩ := open_int Tryd.underlying3 (hval 0 3 v0 rfl rfl) h0
  obtain ⟨a1, rfl, rfl, rfl, w1⟩ := open_int Tryd.underlying3 (hval 1 3 v1 rfl rfl) h1
  obtain ⟨a2, rfl, rfl, rfl, w2⟩ := open_int Tryd.underlying3 (hval 2 3 v2 rfl rfl) h2
  clear hA0 hval0
  refine (walk a0 a1 a2 (bounds_i64 w1).2 W (et_of_laid hL)).mono fun e W' ⟨he, hb⟩ => ?_
  subst he
  exact ⟨_, rfl, post_true hW' rfl rfl (by kernel_rfl) rfl hb⟩

theorem over : Rows.cellOwnsRow.holds Tryd.pinned (OpenSpec.ofChange Rows.cellOwnsSpec) :=
  OpenClaim.holds_of_wide 8 Tryd.f8 rfl rfl rfl rfl rfl rfl rfl ⟨rfl, rfl, rfl, rfl, rfl⟩ rfl rfl rfl rfl rfl (by kernel_rfl) Tryd.func8 (by kernel_rfl)
    (of_decide_eq_true (by kernel_rfl)) (by unfold Func.isWrapper; first | (rw [if_pos (by decide +kernel)]; kernel_rfl) | (rw [if_neg (by decide +kernel)]; exact ⟨rfl, rfl⟩))
    (fun os started H enc _ => lifted os started H enc)

theorem proved : Rows.CellOwnsCardSaid :=
  Claim7.holds_tied_plain_at .later [] [.handle] true (true, "8ad22192271aa5699a4cc611ddacb8a0f4adb4f459bf1e79af938f539e6c2f82") true
    over (fun _ h => by cases h) (by kernel_rfl) (fun _ h => by cases h) cellOwns_row_tie rfl ⟨rfl, rfl⟩ (by kernel_rfl) rfl
    (fun f fn hf hfn => by
      obtain rfl : f = 8 := Option.some.inj ((show Tryd.prog.funcNamed "empennage/empennagelaw02.CellOwns" = some 8 by kernel_rfl).symm.trans hf) |>.symm
      obtain rfl : fn = Tryd.f8 := (Option.some.inj (Tryd.func8.symm.trans hfn)).symm
      exact ⟨by kernel_rfl, fun j t ht => by
        rw [Tryd.params8] at ht
        rcases j with _ | _ | _ | j
        · obtain rfl : t = 3 := by simpa using ht.symm
          exact (show Tryd.prog.wantsStandIn 3 = false by kernel_rfl)
        · obtain rfl : t = 3 := by simpa using ht.symm
          exact (show Tryd.prog.wantsStandIn 3 = false by kernel_rfl)
        · obtain rfl : t = 3 := by simpa using ht.symm
          exact (show Tryd.prog.wantsStandIn 3 = false by kernel_rfl)
        · simp at ht⟩)
    (by kernel_rfl)
end Go.Proofs.YtlmdnoeimegicaaDoor.cellOwns
namespace Go.Proofs.YtlmdnoeimegicaaDoor
theorem cellOwns_holds : Rows.CellOwnsCardSaid := cellOwns.proved
#print axioms cellOwns_holds
end Go.Proofs.YtlmdnoeimegicaaDoor
