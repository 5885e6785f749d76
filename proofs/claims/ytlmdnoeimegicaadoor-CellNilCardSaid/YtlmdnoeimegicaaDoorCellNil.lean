/- At the landed commit, for any two numbers: a memory that isn't there (nil) refuses Read, Swap, Write and Reset with ErrRange and has no cells, no accesses and no words. Conditions: the library's variable errors.errorType holds what the program's text lays (tied to the text by the card). -/
import Derived.Test.YtlmdnoeimegicaaDoorFrm
import Derived.Test.YtlmdnoeimegicaaDoorCards
import Derived.Test.YtlmdnoeimegicaaDoorTie
namespace Go.Proofs.YtlmdnoeimegicaaDoor.cellNil
open Go.ChangeShapes Go.WideShapes Go.ChangeAt Go.RowKit
open Go.Proofs.YtlmdnoeimegicaaDoor.Cell

theorem walk (a0 a1 : Int) (w : World) (hg : Et w) :
    Calls Tryd.prog 9 #[.int .i64 a0, .int .i64 a1] w fun e w' => e = .returned (.bool true) ∧ Below w.heap.size w w' := by
  have p0 := hg.pos
  go_enter Tryd.func9, Tryd.ntmps9
  go_wp2_with fail
  refine (lives_any _ hg).mono ?_
  rintro e w1 ⟨rfl, hb1⟩
  have g1 := hg.below hb1 p0
  go_wp2_with fail
  refine (read_nil _ _ g1).mono ?_
  rintro e w2 ⟨rfl, hb2⟩
  have g2 := g1.below hb2 g1.pos
  go_wp2_with fail
  refine (swap_nil _ _ _ g2).mono ?_
  rintro e w3 ⟨rfl, hb3⟩
  have g3 := g2.below hb3 g2.pos
  go_wp2_with fail
  refine (write_nil _ _ _ g3).mono ?_
  rintro e w4 ⟨rfl, hb4⟩
  have g4 := g3.below hb4 g3.pos
  go_wp2_with fail
  refine (reset_nil _ _ _ g4).mono ?_
  rintro e w5 ⟨rfl, hb5⟩
  go_wp2_with (first | (go_at_call 24; refine (len_nil _).mono ?_; rintro e w' ⟨rfl, rfl⟩) | (go_at_call 25; refine (count_nil _).mono ?_; rintro e w' ⟨rfl, rfl⟩) | (go_at_call 27; refine (all_nil _).mono ?_; rintro e w' ⟨rfl, rfl⟩))
  go_ret
  have s1 := hb1.size; have s2 := hb2.size; have s3 := hb3.size; have s4 := hb4.size
  exact ⟨rfl, (((hb1.trans (hb2.mono s1)).trans (hb3.mono (by omega))).trans (hb4.mono (by omega))).trans (hb5.mono (by omega))⟩

set_option maxRecDepth 100000 in
theorem lifted (os : Os) (started : os.Started) (H : Type) (enc : TypeId × Value → H) :
    ReturnsInHanded {} Tryd.checked os 9 .any (fun w args => (Rows.cellNilSpec.pre enc Tryd.prog Tryd.f9 [] false w args ∧ laidMetH Tryd.prog laidL w) ∧ sizedMet enc Tryd.prog Tryd.f9 (OpenSpec.ofChange Rows.cellNilSpec) false w args)
      (Rows.cellNilSpec.post enc Tryd.prog Tryd.f9 false true false false) := by
  refine returnsInHanded_of_change_and (C := Tryd.checked) (X := fun w _ => laidMetH Tryd.prog laidL w) (fun _ _ _ hh h => h.of_heap hh) own started (by kernel_rfl) Tryd.func9
    (ChangeSpec.witness_at (enc := enc) (C := Tryd.checked) (os := os) (X := fun w _ => laidMetH Tryd.prog laidL w) false (laidWorld os) #[.int .i64 0, .int .i64 0] 8 rfl (by kernel_rfl) (by kernel_rfl) (by kernel_rfl) (by kernel_rfl) (by kernel_rfl) (laidWorld_met os _)) ?_
  intro W base args ds gs before hval0 hW _ _ hL _
  have hval : ∀ (j : Nat) t v, Tryd.f9.params[j]? = some t → args[j]? = some v → Value.okWide Tryd.prog W .any base t v := hval0
  have hW' := hW
  obtain ⟨p, q, hA0, hV, rfl, hfz, hnd⟩ := hW
  have hA : DataW.TrodAll enc Tryd.prog W 0 (fun _ => true) true Tryd.f9.params.toList args.toList ds p := hA0
  rw [Tryd.params9] at hA hval
  obtain ⟨v0, vs0, d0, ds0, p0, q0, hargs, rfl, rfl, h0, r0⟩ := trodAll_cons hA
  obtain ⟨v1, vs1, d1, ds1, p1, q1, rfl, rfl, rfl, h1, r1⟩ := trodAll_cons r0
  obtain ⟨rfl, rfl, rfl⟩ := trodAll_nil r1
  obtain rfl : args = #[v0, v1] := by cases args; simp_all
  obtain ⟨rfl, rfl⟩ := trodVars_none hV
  obtain ⟨a0, rfl, rfl, rfl, w0⟩ := open_int Tryd.underlying3 (hval 0 3 v0 rfl rfl) h0
  obtain ⟨a1, rfl, rfl, rfl, w1⟩ := open_int Tryd.underlying3 (hval 1 3 v1 rfl rfl) h1
  clear hA0 hval0
  simp only [List.append_nil] at hW'
  refine (walk a0 a1 W (et_of_laid hL)).mono fun e W' ⟨he, hb⟩ => ?_
  subst he
  exact ⟨_, rfl, post_true hW' rfl rfl (by kernel_rfl) rfl hb⟩

theorem over : Rows.cellNilRow.holds Tryd.pinned (OpenSpec.ofChange Rows.cellNilSpec) :=
  OpenClaim.holds_of_wide 9 Tryd.f9 rfl rfl rfl rfl rfl rfl rfl ⟨rfl, rfl, rfl, rfl, rfl⟩ rfl rfl rfl rfl rfl (by kernel_rfl) Tryd.func9 (by kernel_rfl)
    (of_decide_eq_true (by kernel_rfl)) (by unfold Func.isWrapper; first | (rw [if_pos (by decide +kernel)]; kernel_rfl) | (rw [if_neg (by decide +kernel)]; exact ⟨rfl, rfl⟩))
    (fun os started H enc _ => lifted os started H enc)

theorem proved : Rows.CellNilCardSaid :=
  Claim7.holds_tied_plain_at .later [] [.handle] true (true, "8ad22192271aa5699a4cc611ddacb8a0f4adb4f459bf1e79af938f539e6c2f82") true
    over (fun _ h => by cases h) (by kernel_rfl) (fun _ h => by cases h) cellNil_row_tie rfl ⟨rfl, rfl⟩ (by kernel_rfl) rfl
    (fun f fn hf hfn => by
      obtain rfl : f = 9 := Option.some.inj ((show Tryd.prog.funcNamed "empennage/empennagelaw02.CellNil" = some 9 by kernel_rfl).symm.trans hf) |>.symm
      obtain rfl : fn = Tryd.f9 := (Option.some.inj (Tryd.func9.symm.trans hfn)).symm
      exact ⟨by kernel_rfl, fun j t ht => by
        rw [Tryd.params9] at ht
        have h3 : t = 3 := by
          rcases j with _ | _ | j
          · simpa using ht.symm
          · simpa using ht.symm
          · simp at ht
        subst h3
        exact (show Tryd.prog.wantsStandIn 3 = false by kernel_rfl)⟩)
    (by kernel_rfl)
end Go.Proofs.YtlmdnoeimegicaaDoor.cellNil
namespace Go.Proofs.YtlmdnoeimegicaaDoor
theorem cellNil_holds : Rows.CellNilCardSaid := cellNil.proved
#print axioms cellNil_holds
end Go.Proofs.YtlmdnoeimegicaaDoor
