/- At the landed commit, for any two numbers: a sum is no less than each and the same either way, a difference no more than the first, and what is taken away from a sum that was not cut leaves the other one. Conditions: none. -/
import Derived.Test.YtomakdlhalmlbaaSat
import Derived.WalkKit
import Derived.ProofKit
import Derived.OpenShut
namespace Go.Proofs.Ytomakdlhalmlbaa.satOrder
open Go.ChangeShapes Go.WideShapes Go.ChangeAt Go.RowKit
open Go.Proofs.Ytomakdlhalmlbaa.Sat

theorem le_add_left (a b : Int) : cut a ≤ add a b := by
  have h1 := cut_bd a; have h2 := cut_bd b
  unfold add; rw [cut_as (cut a + cut b)]; split <;> (try split) <;> omega
theorem le_add_right (a b : Int) : cut b ≤ add a b := by
  have h1 := cut_bd a; have h2 := cut_bd b
  unfold add; rw [cut_as (cut a + cut b)]; split <;> (try split) <;> omega
theorem add_comm' (a b : Int) : add a b = add b a := by unfold add; rw [Int.add_comm]
theorem sub_le (a b : Int) : sub a b ≤ cut a := by
  have h1 := cut_bd a; have h2 := cut_bd b
  unfold sub; rw [cut_as (cut a - cut b)]; split <;> (try split) <;> omega
theorem add_sub (a b : Int) (h : ¬ sub a b = 0) : add (sub a b) b = cut a := by
  have h1 := cut_bd a; have h2 := cut_bd b
  have h3 : sub a b = cut a - cut b := by
    unfold sub at h ⊢; rw [cut_as (cut a - cut b)] at h ⊢; split at h <;> (try split at h) <;> (try split) <;> (try split) <;> omega
  have h4 : 0 ≤ sub a b := (cut_bd _).1
  unfold add; rw [cut_id (sub a b) (by omega) (by omega), h3, cut_id _ (by omega) (by omega)]; omega
theorem sub_add (a b : Int) (h : ¬ add a b = 4611686018427387904) : sub (add a b) b = cut a := by
  have h1 := cut_bd a; have h2 := cut_bd b
  have h3 : add a b = cut a + cut b := by
    unfold add at h ⊢; rw [cut_as (cut a + cut b)] at h ⊢; split at h <;> (try split at h) <;> (try split) <;> (try split) <;> omega
  have h4 : add a b ≤ 4611686018427387904 := (cut_bd _).2
  unfold sub; rw [cut_id (add a b) (by omega) (by omega), h3, cut_id _ (by omega) (by omega)]; omega
set_option linter.unusedVariables false      -- a walk need not use every 'w<i>' (that an integer argument fits its kind)

theorem own : ownKnob Try.prog.godebug = none := by kernel_rfl

/-! ### The walk -/
theorem walk (a0 : Int) (a1 : Int) (w0 : (Lit.int .i64 a0).wf = true) (w1 : (Lit.int .i64 a1).wf = true) (w : World) :
    Calls Try.prog 6 #[.int .i64 a0, .int .i64 a1] w fun e w' => e = .returned (.bool true) ∧ Grown w w' := by
  have f1 : cut a0 ≤ add a0 a1 := le_add_left a0 a1
  have f2 : cut a1 ≤ add a0 a1 := le_add_right a0 a1
  have f3 : (add a0 a1 == add a1 a0) = true := by rw [beq_iff_eq]; exact add_comm' a0 a1
  have f4 : sub a0 a1 ≤ cut a0 := sub_le a0 a1
  have f5 : 0 ≤ sub a0 a1 := (cut_bd _).1
  have f6 : add a0 a1 ≤ 4611686018427387904 := (cut_bd _).2
  have f9 : cut a0 ≤ cut (add a0 a1) := by unfold add; rw [cut_cut]; exact f1
  by_cases g1 : add a0 a1 = 4611686018427387904
  · have g1' : (add a0 a1 == 4611686018427387904) = true := by rw [beq_iff_eq]; exact g1
    clear g1
    by_cases g2 : sub a0 a1 = 0
    · have g2' : (sub a0 a1 == 0) = true := by rw [beq_iff_eq]; exact g2
      clear g2
      go_enter Try.func6, Try.ntmps6
      go_wp2_with (first | (go_at_call 10; refine (lives_any _).mono ?_; rintro e w' ⟨rfl, rfl⟩) | (go_at_call 11; refine (cut_any _ _).mono ?_; rintro e w' ⟨rfl, rfl⟩) | (go_at_call 13; refine (add_any _ _ _).mono ?_; rintro e w' ⟨rfl, rfl⟩) | (go_at_call 15; refine (sub_any _ _ _).mono ?_; rintro e w' ⟨rfl, rfl⟩) | (go_at_call 26; refine (late_any _ _ _).mono ?_; rintro e w' ⟨rfl, rfl⟩))
      go_ret
      exact ⟨rfl, Grown.refl _⟩
    · have g2' : (sub a0 a1 == 0) = false := by rw [beq_eq_false_iff_ne]; exact g2
      have g3 : (add (sub a0 a1) a1 == cut a0) = true := by rw [beq_iff_eq]; exact add_sub a0 a1 g2
      clear g2
      go_enter Try.func6, Try.ntmps6
      go_wp2_with (first | (go_at_call 10; refine (lives_any _).mono ?_; rintro e w' ⟨rfl, rfl⟩) | (go_at_call 11; refine (cut_any _ _).mono ?_; rintro e w' ⟨rfl, rfl⟩) | (go_at_call 13; refine (add_any _ _ _).mono ?_; rintro e w' ⟨rfl, rfl⟩) | (go_at_call 15; refine (sub_any _ _ _).mono ?_; rintro e w' ⟨rfl, rfl⟩) | (go_at_call 26; refine (late_any _ _ _).mono ?_; rintro e w' ⟨rfl, rfl⟩))
      go_ret
      exact ⟨rfl, Grown.refl _⟩
  · have g1' : (add a0 a1 == 4611686018427387904) = false := by rw [beq_eq_false_iff_ne]; exact g1
    have g4 : (sub (add a0 a1) a1 == cut a0) = true := by rw [beq_iff_eq]; exact sub_add a0 a1 g1
    clear g1
    by_cases g2 : sub a0 a1 = 0
    · have g2' : (sub a0 a1 == 0) = true := by rw [beq_iff_eq]; exact g2
      clear g2
      go_enter Try.func6, Try.ntmps6
      go_wp2_with (first | (go_at_call 10; refine (lives_any _).mono ?_; rintro e w' ⟨rfl, rfl⟩) | (go_at_call 11; refine (cut_any _ _).mono ?_; rintro e w' ⟨rfl, rfl⟩) | (go_at_call 13; refine (add_any _ _ _).mono ?_; rintro e w' ⟨rfl, rfl⟩) | (go_at_call 15; refine (sub_any _ _ _).mono ?_; rintro e w' ⟨rfl, rfl⟩) | (go_at_call 26; refine (late_any _ _ _).mono ?_; rintro e w' ⟨rfl, rfl⟩))
      go_ret
      exact ⟨rfl, Grown.refl _⟩
    · have g2' : (sub a0 a1 == 0) = false := by rw [beq_eq_false_iff_ne]; exact g2
      have g3 : (add (sub a0 a1) a1 == cut a0) = true := by rw [beq_iff_eq]; exact add_sub a0 a1 g2
      clear g2
      go_enter Try.func6, Try.ntmps6
      go_wp2_with (first | (go_at_call 10; refine (lives_any _).mono ?_; rintro e w' ⟨rfl, rfl⟩) | (go_at_call 11; refine (cut_any _ _).mono ?_; rintro e w' ⟨rfl, rfl⟩) | (go_at_call 13; refine (add_any _ _ _).mono ?_; rintro e w' ⟨rfl, rfl⟩) | (go_at_call 15; refine (sub_any _ _ _).mono ?_; rintro e w' ⟨rfl, rfl⟩) | (go_at_call 26; refine (late_any _ _ _).mono ?_; rintro e w' ⟨rfl, rfl⟩))
      go_ret
      exact ⟨rfl, Grown.refl _⟩

/-! ### THE ROW's STEP: WRITTEN OUT: LEAVE IT -/
set_option maxRecDepth 100000 in
theorem lifted (os : Os) (started : os.Started) (H : Type) (enc : TypeId × Value → H) :
    ReturnsInHanded {} Try.checked os 6 .any (Rows.satOrderSpec.pre6 enc Try.prog Try.f6 Rows.satOrderRow.domain false) (Rows.satOrderSpec.post enc Try.prog Try.f6 false true false false) := by
  refine returnsInHanded_of_change (C := Try.checked) own started (by kernel_rfl) Try.func6
    (ChangeSpec.witness6 (enc := enc) (C := Try.checked) false ⟨#[], #[.int .i64 0, .int .i64 0], []⟩ 8 (by kernel_rfl) (by kernel_rfl) (by kernel_rfl) (by kernel_rfl)) ?_
  intro W base args ds gs before hval0 hW hcnd _
  have hval : ∀ (j : Nat) t v, Try.f6.params[j]? = some t → args[j]? = some v → Value.okWide Try.prog W .any base t v := hval0
  have hW' := hW
  obtain ⟨p, q, hA0, hV, rfl, hfz, hnd⟩ := hW
  have hA : DataW.TrodAll enc Try.prog W 0 (fun _ => true) true Try.f6.params.toList args.toList ds p := hA0
  rw [Try.params6] at hA hval
  obtain ⟨v0, vs0, d0, ds0, p0, q0, hargs, rfl, rfl, h0, r0⟩ := trodAll_cons hA
  obtain ⟨v1, vs1, d1, ds1, p1, q1, rfl, rfl, rfl, h1, r1⟩ := trodAll_cons r0
  obtain ⟨rfl, rfl, rfl⟩ := trodAll_nil r1
  obtain rfl : args = #[v0, v1] := by cases args; simp_all
  obtain ⟨rfl, rfl⟩ := trodVars_none hV
  obtain ⟨a0, rfl, rfl, rfl, w0⟩ := open_int Try.underlying3 (hval 0 3 v0 rfl rfl) h0
  obtain ⟨a1, rfl, rfl, rfl, w1⟩ := open_int Try.underlying3 (hval 1 3 v1 rfl rfl) h1
  clear hA0 hval0
  simp only [List.append_nil] at hW'
  refine (walk a0 a1 w0 w1 W).mono fun e W' ⟨he, hg⟩ => ?_
  subst he
  exact ⟨_, rfl, post_of_same (pa := []) (pv := []) hW' (fun _ _ _ => (trodAll_cons_mk (shut_bool Try.underlying4 _) trodAll_mk0)) (fun sp _ => (trodAll_cons_mk (shut_int Try.underlying3 w0) (trodAll_cons_mk (shut_int Try.underlying3 w1) trodAll_mk0))) (fun _ _ => rfl) rfl
    (hg.frame _) hg.2.1 (ok_one (by kernel_rfl) rfl (okWide_bool_mk Try.underlying4 _))⟩

theorem over : Rows.satOrderRow.holds Try.pinned (OpenSpec.ofChange Rows.satOrderSpec) :=
  OpenClaim.holds_of_wide 6 Try.f6 rfl rfl rfl rfl rfl rfl rfl ⟨rfl, rfl, rfl, rfl, rfl⟩ rfl rfl rfl rfl rfl (by kernel_rfl) Try.func6 (by kernel_rfl)
    (of_decide_eq_true (by kernel_rfl)) (by unfold Func.isWrapper; first | (rw [if_pos (by decide +kernel)]; kernel_rfl) | (rw [if_neg (by decide +kernel)]; exact ⟨rfl, rfl⟩))
    (fun os started H enc _ => lifted os started H enc)

/-- ████ THE STATEMENT ████ -/
theorem proved : Rows.SatOrderSaid :=
  over
end Go.Proofs.Ytomakdlhalmlbaa.satOrder
namespace Go.Proofs.Ytomakdlhalmlbaa
theorem satOrder_holds : Rows.SatOrderSaid := satOrder.proved
#print axioms satOrder_holds
end Go.Proofs.Ytomakdlhalmlbaa
