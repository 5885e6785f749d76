/- At the landed commit, for any writes to a memory of 30 cells and any two numbers: behind a Reset just those cells have 0 and all others what they had, it is refused just where the cells aren't all there, and it counts nothing. Conditions: the library's variable errors.errorType holds what the program's text lays (tied to the text by the card). -/
import Derived.Test.YtlmdnoeimegicaaDoorFrm
import Derived.Test.YtlmdnoeimegicaaDoorScript
import Derived.Test.YtlmdnoeimegicaaDoorCards
import Derived.Test.YtlmdnoeimegicaaDoorTie
import Derived.StillTailTactics
namespace Go.Proofs.YtlmdnoeimegicaaDoor.cellResets
open Go.ChangeShapes Go.WideShapes Go.ChangeAt Go.RowKit
open Go.Proofs.YtlmdnoeimegicaaDoor.Cell

theorem MemAt.drew {w : World} {b g : Nat} {l : List Int} {c : Int} (h : MemAt w b g l c) : MemAt w.drew b g l c := ⟨h.head, h.words⟩
theorem lst30 {w : World} {B : Nat} {v : Value} {l : List Int} (h : Lst w B v l) (hl : l.length = 30) : ∃ b o c : Nat, v = .slice (some ⟨b, o, none⟩) 30 c ∧ ∀ j, j < 30 → w.cell? ⟨b, o + j, none⟩ = some (.int .i64 (nth l j)) := by
  obtain ⟨A, c, rfl, hA, _⟩ := lst_rd h
  obtain ⟨b, o, rfl, hc⟩ := hA (by omega)
  exact ⟨b, o, c, by rw [hl], fun j hj => hc j (by omega)⟩
theorem reset_nth (l : List Int) (hl : l.length = 30) (f m : Nat) (j : Nat) (hj : j < 30) : nth (rsL l f m) j = if f + m ≤ 30 ∧ f ≤ j ∧ j < f + m then 0 else nth l j := by
  unfold rsL
  by_cases h : f + m ≤ 30
  · rw [if_pos (show inR l f m = true from decide_eq_true (by omega)), Int.toNat_natCast, Int.toNat_natCast, zr_nth _ _ _ _ (by omega)]
    simp [h]
  · rw [if_neg (by rw [show inR l f m = false from decide_eq_false (by omega)]; decide), if_neg (fun h' => h h'.1)]
theorem reset_code (l : List Int) (hl : l.length = 30) (f m : Nat) : rsE l f m = if f + m ≤ 30 then 0 else 7 := by
  unfold rsE
  by_cases h : f + m ≤ 30
  · rw [if_pos (show inR l f m = true from decide_eq_true (by omega)), if_pos h]
  · rw [if_neg (by rw [show inR l f m = false from decide_eq_false (by omega)]; decide), if_neg h]
/-- What holds at the head of each round of the first loop. -/
def Inv (W : World) (b g : Nat) (k : Nat) (w : World) : Prop :=
  ∃ (l : List Int) (c : Int), MemAt w b g l c ∧ l.length = 30 ∧ 0 ≤ c ∧ c ≤ k ∧ Below W.heap.size W w

set_option maxRecDepth 100000 in
set_option maxHeartbeats 2000000 in
theorem walk (A : Option Addr) (n c : Nat) (s : Nat → St) (_hn : n ≤ c) (_hc : c ≤ 9223372036854775807) (a1 a2 : Int) (W : World) (hg : Et W) (hs : Scr W A n s) :
    Calls Tryd.prog 6 #[.slice A n c, .int .i64 a1, .int .i64 a2] W fun e w' => e = .returned (.bool true) ∧ Below W.heap.size W w' := by
  have p0 := hg.pos
  have HS := Lib.hid hs; clear hs
  go_enter Tryd.func6, Tryd.ntmps6
  go_wp2_with fail
  refine (lives_any _ hg).mono ?_
  rintro e w1 ⟨rfl, hb1⟩
  go_wp2_with fail
  refine (new_any 30 _).mono ?_
  rintro e w2 ⟨rfl, hm2, hb2⟩
  have z1 := hb1.size
  have HI : Hid (Inv W (w1.heap.size + 1) w1.heap.size 0 w2) := ⟨zs 30, 0, hm2, rfl, by omega, by omega, hb1.trans (hb2.mono z1)⟩
  generalize hba : w1.heap.size + 1 = b at *
  generalize hga : w1.heap.size = g at *
  have q1 : W.heap.size ≤ g := z1
  have q2 : g < b := by omega
  clear hba hga hm2 hb1 hb2 z1
  go_wp2
  go_loopw [8] (fun i wr => ∃ k : Nat, k ≤ 60 ∧ k ≤ n ∧ i = .int .i64 k ∧ Inv W b g k wr) (fun i _ => 60 - (intOf i).toNat)
  case atStart => exact ⟨0, by omega, by omega, rfl, HI.out⟩
  case round =>
    obtain ⟨k, hk60, hkn, rfl, l, cc, hm, hl, c0, c1, hbw⟩ := hrel
    have HL := Lib.hid hl
    have hl' : l.length ≤ 4096 := by omega
    clear hl HI
    by_cases hgo : k < n ∧ k < 60
    · obtain ⟨hlt, hlt6⟩ := hgo
      obtain ⟨b', o, rfl, hbs, ⟨oki, okv⟩, hc1, hc2, hc3⟩ := HS.out.at_ hbw hlt
      generalize s k = x at *
      have gw : Et wr := hg.below hbw p0
      obtain ⟨q, hq, hq0, hq1⟩ : ∃ q, (IntKind.u64.wrap x.i).tmod 30 = q ∧ 0 ≤ q ∧ q < 30 := ⟨_, rfl, modU_bd x.i 30 (by decide)⟩
      have sb := swN_bd l q x.v cc
      have hqi : IntKind.i64.wrap q = q := IntWalk.i64_in _ (by omega)
      go_wp2
      go_still_tail 14, (by kernel_rfl)
      clear hq hqi hc1 hc2 hc3
      go_wp2_with fail
      refine (write_any (w := wr.drew) (MemAt.drew hm) (show Et wr.drew from gw) hl' c0 (by omega) q x.v (by omega)).mono ?_
      rintro e w5 ⟨rfl, hm5, hk5⟩
      have hbw5 := Below.keep (hbw.drew) hk5 hbw.size (by omega) (by omega)
      go_wp2
      go_roundw
      case rel => exact ⟨k + 1, by omega, by omega, by go_num, swL l q x.v, swN l q x.v cc, hm5, by rw [swL_length]; exact HL.out, by omega, by omega, hbw5⟩
      case measure => simp [intOf]; omega
    · have hx : n ≤ k ∨ (k < n ∧ 60 ≤ k) := by omega
      clear hgo
      obtain ⟨ff, hff, hf31⟩ : ∃ kk : Nat, (IntKind.u64.wrap a1).tmod 31 = (kk : Int) ∧ kk < 31 := by
        have h := modU_bd a1 31 (by decide)
        obtain ⟨kk, e⟩ := Int.eq_ofNat_of_zero_le h.1
        exact ⟨kk, e, by omega⟩
      obtain ⟨mm, hmm, hm31⟩ : ∃ kk : Nat, (IntKind.u64.wrap a2).tmod 31 = (kk : Int) ∧ kk < 31 := by
        have h := modU_bd a2 31 (by decide)
        obtain ⟨kk, e⟩ := Int.eq_ofNat_of_zero_le h.1
        exact ⟨kk, e, by omega⟩
      rcases hx with h6 | ⟨h6, h7⟩
      all_goals
        go_wp2_with fail
        refine (all_any hm hl').mono ?_
        rintro e w5 ⟨v1, rfl, hv1, hb5⟩
        have hm5 := hm.below_ hb5
        have hbw5 := hbw.trans (hb5.mono hbw.size)
        have g5 : Et w5 := hg.below hbw5 p0
        go_wp2_with fail
        refine (count_any hm5).mono ?_
        rintro e w6 ⟨rfl, rfl⟩
        by_cases hin : ff + mm ≤ 30
        · skip
          have HE : Hid (rsE l ff mm = 0) := by show rsE l ff mm = 0; rw [reset_code l HL.out]; simp [hin]
          go_wp2_with fail
          refine (reset_any hm5 g5 hl' ff mm (by omega)).mono ?_
          rintro e w7 ⟨rfl, hm7, hk7⟩
          rw [HE.out]
          have hv7 := hv1.keep hk7 (by have := hm5.head.lt; have := hm.head.lt; omega) (by have := hm.head.lt; omega)
          have hR : (rsL l ff mm).length = 30 := by rw [rsL_length]; exact HL.out
          have HR := Lib.hid hR
          have hbw7 := Below.keep hbw5 hk7 hbw5.size (by omega) (by omega)
          clear hR
          go_wp2_with fail
          refine (all_any hm7 (by rw [HR.out]; omega)).mono ?_
          rintro e w8 ⟨v2, rfl, hv2, hb8⟩
          have hbw8 := hbw7.trans (hb8.mono hbw7.size)
          obtain ⟨b1, o1, ca1, rfl, r1⟩ := lst30 (hv7.below hb8) HL.out
          obtain ⟨b2, o2, ca2, rfl, r2⟩ := lst30 hv2 HR.out
          have H1 := Lib.hid r1; clear r1
          have H2 := Lib.hid r2; clear r2
          go_wp2_with fail
          refine (count_any (hm7.below_ hb8)).mono ?_
          rintro e w9 ⟨rfl, rfl⟩
          clear hv1 hv7 hv2 hm5 hm7 hk7 hb8 hbw7 hb5
          go_wp2
          go_loopw [13] (fun i w9 => ∃ j nd : Nat, j ≤ 30 ∧ i = .int .i64 j ∧ w9 = w8.drewN nd) (fun i _ => 30 - (intOf i).toNat)
          case atStart => exact ⟨0, 0, by omega, rfl, rfl⟩
          case round =>
            obtain ⟨j, nd, hj, rfl, hw9⟩ := hrel
            have HW := Lib.hid hw9; clear hw9
            by_cases hj30 : j < 30
            · have d1 : wr.cell? ⟨b1, o1 + j, none⟩ = some (.int .i64 (nth l j)) := by rw [HW.out]; exact H1.out j hj30
              have d2 : wr.cell? ⟨b2, o2 + j, none⟩ = some (.int .i64 (nth (rsL l ff mm) j)) := by rw [HW.out]; exact H2.out j hj30
              have hnth := reset_nth l HL.out ff mm j hj30
              rw [hnth] at d2
              clear hnth
              by_cases h1 : ff ≤ j
              · by_cases h2 : j < ff + mm
                · rw [if_pos ⟨hin, h1, h2⟩] at d2
                  have hd : decide ((j : Int) < (ff : Int) + (mm : Int)) = true := decide_eq_true (by omega)
                  have hd1 : decide (ff ≤ j) = true := decide_eq_true h1
                  go_wp2
                  go_quiet (fail)
                  go_wp2
                  go_roundw
                  case rel => exact ⟨j + 1, nd + nq, by omega, by go_num, by rw [HW.out, World.drewN_drewN]⟩
                  case measure => simp [intOf]; omega
                · rw [if_neg (fun h => h2 h.2.2)] at d2
                  have hd : decide ((j : Int) < (ff : Int) + (mm : Int)) = false := decide_eq_false (by omega)
                  have hd1 : decide (ff ≤ j) = true := decide_eq_true h1
                  go_wp2
                  go_quiet (fail)
                  go_wp2
                  go_roundw
                  case rel => exact ⟨j + 1, nd + nq, by omega, by go_num, by rw [HW.out, World.drewN_drewN]⟩
                  case measure => simp [intOf]; omega
              · rw [if_neg (fun h => h1 h.2.1)] at d2
                have hd : decide (ff ≤ j) = false := decide_eq_false h1
                go_wp2
                go_quiet (fail)
                go_wp2
                go_roundw
                case rel => exact ⟨j + 1, nd + nq, by omega, by go_num, by rw [HW.out, World.drewN_drewN]⟩
                case measure => simp [intOf]; omega
            · go_wp2
              go_ret
              exact ⟨rfl, by rw [HW.out]; exact drewN_below hbw8 nd⟩
        · skip
          have HE : Hid (rsE l ff mm = 7) := by show rsE l ff mm = 7; rw [reset_code l HL.out]; simp [hin]
          go_wp2_with fail
          refine (reset_any hm5 g5 hl' ff mm (by omega)).mono ?_
          rintro e w7 ⟨rfl, hm7, hk7⟩
          rw [HE.out]
          have hv7 := hv1.keep hk7 (by have := hm5.head.lt; have := hm.head.lt; omega) (by have := hm.head.lt; omega)
          have hR : (rsL l ff mm).length = 30 := by rw [rsL_length]; exact HL.out
          have HR := Lib.hid hR
          have hbw7 := Below.keep hbw5 hk7 hbw5.size (by omega) (by omega)
          clear hR
          go_wp2_with fail
          refine (all_any hm7 (by rw [HR.out]; omega)).mono ?_
          rintro e w8 ⟨v2, rfl, hv2, hb8⟩
          have hbw8 := hbw7.trans (hb8.mono hbw7.size)
          obtain ⟨b1, o1, ca1, rfl, r1⟩ := lst30 (hv7.below hb8) HL.out
          obtain ⟨b2, o2, ca2, rfl, r2⟩ := lst30 hv2 HR.out
          have H1 := Lib.hid r1; clear r1
          have H2 := Lib.hid r2; clear r2
          go_wp2_with fail
          refine (count_any (hm7.below_ hb8)).mono ?_
          rintro e w9 ⟨rfl, rfl⟩
          clear hv1 hv7 hv2 hm5 hm7 hk7 hb8 hbw7 hb5
          go_wp2
          go_loopw [13] (fun i w9 => ∃ j nd : Nat, j ≤ 30 ∧ i = .int .i64 j ∧ w9 = w8.drewN nd) (fun i _ => 30 - (intOf i).toNat)
          case atStart => exact ⟨0, 0, by omega, rfl, rfl⟩
          case round =>
            obtain ⟨j, nd, hj, rfl, hw9⟩ := hrel
            have HW := Lib.hid hw9; clear hw9
            by_cases hj30 : j < 30
            · have d1 : wr.cell? ⟨b1, o1 + j, none⟩ = some (.int .i64 (nth l j)) := by rw [HW.out]; exact H1.out j hj30
              have d2 : wr.cell? ⟨b2, o2 + j, none⟩ = some (.int .i64 (nth (rsL l ff mm) j)) := by rw [HW.out]; exact H2.out j hj30
              have hnth := reset_nth l HL.out ff mm j hj30
              rw [hnth] at d2
              clear hnth
              · rw [if_neg (fun h => hin h.1)] at d2
                go_wp2
                go_quiet (fail)
                go_wp2
                go_roundw
                case rel => exact ⟨j + 1, nd + nq, by omega, by go_num, by rw [HW.out, World.drewN_drewN]⟩
                case measure => simp [intOf]; omega
            · go_wp2
              go_ret
              exact ⟨rfl, by rw [HW.out]; exact drewN_below hbw8 nd⟩

/-! ### The row -/
set_option maxHeartbeats 400000 in
set_option maxRecDepth 100000 in
theorem lifted (os : Os) (started : os.Started) (H : Type) (enc : TypeId × Value → H) :
    ReturnsInHanded {} Tryd.checked os 6 .any (fun w args => (Rows.cellResetsSpec.pre enc Tryd.prog Tryd.f6 [] false w args ∧ laidMetH Tryd.prog laidL w) ∧ sizedMet enc Tryd.prog Tryd.f6 (OpenSpec.ofChange Rows.cellResetsSpec) false w args)
      (Rows.cellResetsSpec.post enc Tryd.prog Tryd.f6 false true false false) := by
  refine returnsInHanded_of_change_and (C := Tryd.checked) (X := fun w _ => laidMetH Tryd.prog laidL w) (fun _ _ _ hh h => h.of_heap hh) own started (by kernel_rfl) Tryd.func6
    (ChangeSpec.witness_at (enc := enc) (C := Tryd.checked) (os := os) (X := fun w _ => laidMetH Tryd.prog laidL w) false (laidWorld os) #[.slice none 0 0, .int .i64 0, .int .i64 0] 8 rfl (by kernel_rfl) (by kernel_rfl) (by kernel_rfl) (by kernel_rfl) (by kernel_rfl) (laidWorld_met os _)) ?_
  intro W base args ds gs before hval0 hW _ _ hL _
  have hval : ∀ (j : Nat) t v, Tryd.f6.params[j]? = some t → args[j]? = some v → Value.okWide Tryd.prog W .any base t v := hval0
  have hW' := hW
  obtain ⟨p, q, hA0, hV, rfl, hfz, hnd⟩ := hW
  have hA : DataW.TrodAll enc Tryd.prog W 0 (fun _ => true) true Tryd.f6.params.toList args.toList ds p := hA0
  rw [Tryd.params6] at hA hval
  obtain ⟨v0, vs0, d0, ds0, p0, q0, hargs, rfl, rfl, h0, r0⟩ := trodAll_cons hA
  obtain ⟨v1, vs1, d1, ds1, p1, q1, rfl, rfl, rfl, h1, r1⟩ := trodAll_cons r0
  obtain ⟨v2, vs2, d2, ds2, p2, q2, rfl, rfl, rfl, h2, r2⟩ := trodAll_cons r1
  obtain ⟨rfl, rfl, rfl⟩ := trodAll_nil r2
  obtain rfl : args = #[v0, v1, v2] := by cases args; simp_all
  obtain ⟨rfl, rfl⟩ := trodVars_none hV
  obtain ⟨A0, n0, c0, s0, rfl, hn0, hc0, hs0⟩ := open_script (hval 0 22 v0 rfl rfl) h0
  obtain ⟨a1, rfl, rfl, rfl, w1⟩ := open_int Tryd.underlying3 (hval 1 3 v1 rfl rfl) h1
  obtain ⟨a2, rfl, rfl, rfl, w2⟩ := open_int Tryd.underlying3 (hval 2 3 v2 rfl rfl) h2
  clear hA0 hval0
  refine (walk A0 n0 c0 s0 hn0 hc0 a1 a2 W (et_of_laid hL) hs0).mono fun e W' ⟨he, hb⟩ => ?_
  subst he
  exact ⟨_, rfl, post_true hW' rfl rfl (by kernel_rfl) rfl hb⟩

theorem over : Rows.cellResetsRow.holds Tryd.pinned (OpenSpec.ofChange Rows.cellResetsSpec) :=
  OpenClaim.holds_of_wide 6 Tryd.f6 rfl rfl rfl rfl rfl rfl rfl ⟨rfl, rfl, rfl, rfl, rfl⟩ rfl rfl rfl rfl rfl (by kernel_rfl) Tryd.func6 (by kernel_rfl)
    (of_decide_eq_true (by kernel_rfl)) (by unfold Func.isWrapper; first | (rw [if_pos (by decide +kernel)]; kernel_rfl) | (rw [if_neg (by decide +kernel)]; exact ⟨rfl, rfl⟩))
    (fun os started H enc _ => lifted os started H enc)

theorem proved : Rows.CellResetsCardSaid :=
  Claim7.holds_tied_plain_at .later [] [.handle] true (true, "8ad22192271aa5699a4cc611ddacb8a0f4adb4f459bf1e79af938f539e6c2f82") true
    over (fun _ h => by cases h) (by kernel_rfl) (fun _ h => by cases h) cellResets_row_tie rfl ⟨rfl, rfl⟩ (by kernel_rfl) rfl
    (fun f fn hf hfn => by
      obtain rfl : f = 6 := Option.some.inj ((show Tryd.prog.funcNamed "empennage/empennagelaw02.CellResets" = some 6 by kernel_rfl).symm.trans hf) |>.symm
      obtain rfl : fn = Tryd.f6 := (Option.some.inj (Tryd.func6.symm.trans hfn)).symm
      exact ⟨by kernel_rfl, fun j t ht => by
        rw [Tryd.params6] at ht
        rcases j with _ | _ | _ | j
        · obtain rfl : t = 22 := by simpa using ht.symm
          exact (show Tryd.prog.wantsStandIn 22 = false by kernel_rfl)
        · obtain rfl : t = 3 := by simpa using ht.symm
          exact (show Tryd.prog.wantsStandIn 3 = false by kernel_rfl)
        · obtain rfl : t = 3 := by simpa using ht.symm
          exact (show Tryd.prog.wantsStandIn 3 = false by kernel_rfl)
        · simp at ht⟩)
    (by kernel_rfl)
end Go.Proofs.YtlmdnoeimegicaaDoor.cellResets
namespace Go.Proofs.YtlmdnoeimegicaaDoor
theorem cellResets_holds : Rows.CellResetsCardSaid := cellResets.proved
#print axioms cellResets_holds
end Go.Proofs.YtlmdnoeimegicaaDoor
