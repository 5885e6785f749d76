/- At the landed commit, for any tick, frame and phase (made of any number): the next tick of a phase is no less than now, less than a frame behind it, of that phase if it was not cut, and none between is. Conditions: none. -/
import Derived.Test.YtomakdlhalmlbaaSatNx
import Derived.WalkKit
import Derived.ProofKit
import Derived.OpenShut
namespace Go.Proofs.Ytomakdlhalmlbaa.satNext
open Go.ChangeShapes Go.WideShapes Go.ChangeAt Go.RowKit
open Go.Proofs.Ytomakdlhalmlbaa.Sat
set_option linter.unusedVariables false      -- a walk need not use every 'w<i>' (that an integer argument fits its kind)

theorem own : ownKnob Try.prog.godebug = none := by kernel_rfl

/-! ### The walk -/
theorem walk (a0 : Int) (a1 : Int) (a2 : Int) (w0 : (Lit.int .i64 a0).wf = true) (w1 : (Lit.int .i64 a1).wf = true) (w2 : (Lit.int .i64 a2).wf = true) (w : World) :
    Calls Try.prog 8 #[.int .i64 a0, .int .i64 a1, .int .i64 a2] w fun e w' => e = .returned (.bool true) ∧ Grown w w' := by
  obtain ⟨q, hq, q0, q1⟩ := some_rest a1 64 (by decide)
  obtain ⟨p, hp, p0, p1⟩ := some_rest a2 (1 + q) (by omega)
  have hc := cut_bd a0
  have hf := fr_id (1 + q) (by omega) (by omega)
  have ha := ahead_bd a0 (1 + q) p
  rw [hf] at ha
  have hw : wit p 0 (fr (1 + q) - 1) = p := by rw [hf]; exact wit_in p0 (by omega)
  obtain ⟨N, hN⟩ : ∃ N, nxt a0 (1 + q) p = N := ⟨_, rfl⟩
  obtain ⟨hn1, hn2, hn3, hn4⟩ : cut a0 ≤ N ∧ N - cut a0 < 1 + q ∧ N ≤ 4611686018427387904 ∧ (N ≠ 4611686018427387904 → N = cut a0 + Sat.ahead a0 (1 + q) p) := by
    unfold nxt add at hN
    rw [cut_id (Sat.ahead a0 (1 + q) p) ha.1 (by omega), cut_as (cut a0 + Sat.ahead a0 (1 + q) p)] at hN
    split at hN <;> (try split at hN) <;> omega
  by_cases ht : N = 4611686018427387904
  · have ht' : (N == 4611686018427387904) = true := by rw [beq_iff_eq]; exact ht
    have ht2 : 4611686018427387904 - (1 + q) < cut a0 := by omega
    clear ht hf hw hn4
    go_enter Try.func8, Try.ntmps8
    go_wp2_with (first | (go_at_call 10; refine (lives_any _).mono ?_; rintro e w' ⟨rfl, rfl⟩) | (go_at_call 23; refine (nxt_any _ _ _ _).mono ?_; rintro e w' ⟨rfl, rfl⟩) | (go_at_call 11; refine (cut_any _ _).mono ?_; rintro e w' ⟨rfl, rfl⟩))
    go_ret
    exact ⟨rfl, Grown.refl _⟩
  · have ht' : (N == 4611686018427387904) = false := by rw [beq_eq_false_iff_ne]; exact ht
    have HN := Lib.hid (hn4 ht)
    have HF := Lib.hid hf
    have HW := Lib.hid hw
    clear ht hf hw hn4
    go_enter Try.func8, Try.ntmps8
    go_wp2_with (first | (go_at_call 10; refine (lives_any _).mono ?_; rintro e w' ⟨rfl, rfl⟩) | (go_at_call 23; refine (nxt_any _ _ _ _).mono ?_; rintro e w' ⟨rfl, rfl⟩) | (go_at_call 11; refine (cut_any _ _).mono ?_; rintro e w' ⟨rfl, rfl⟩))
    go_loop [11] (fun s => ∃ i : Int, cut a0 ≤ i ∧ i ≤ N ∧ s = .int .i64 i) (fun s => (N - intOf s).toNat)
    case atStart => exact ⟨_, by omega, by omega, rfl⟩
    case round =>
      obtain ⟨i, hi1, hi2, rfl⟩ := hrel
      have HI : Hid (pha i (1 + q) = p ↔ i = N) := by
        have e1 := pha_step a0 (1 + q) (i - cut a0) (by omega) (by omega)
        have e2 := at_ahead a0 (1 + q) p (i - cut a0) (by omega) (by rw [HF.out]; omega)
        rw [HW.out, ← e1] at e2
        have e3 : cut a0 + (i - cut a0) = i := by omega
        rw [e3] at e2
        have e4 := HN.out
        exact e2.trans ⟨fun h => by omega, fun h => by omega⟩
      by_cases hlt : i < N
      · have hx : (pha i (1 + q) == p) = false := by
          rw [beq_eq_false_iff_ne]; intro h; have := HI.out.mp h; omega
        go_wp2_with (first | (go_at_call 19; refine (pha_any _ _ _).mono ?_; rintro e w' ⟨rfl, rfl⟩))
        go_round
        case rel => exact ⟨i + 1, by omega, by omega, rfl⟩
        case measure => simp [intOf]; omega
      · obtain rfl : i = N := by omega
        have hx : (pha i (1 + q) == p) = true := by rw [beq_iff_eq]; exact HI.out.mpr rfl
        go_wp2_with (first | (go_at_call 19; refine (pha_any _ _ _).mono ?_; rintro e w' ⟨rfl, rfl⟩))
        go_ret
        exact ⟨rfl, Grown.refl _⟩

/-! ### THE ROW's STEP: WRITTEN OUT: LEAVE IT -/
set_option maxRecDepth 100000 in
theorem lifted (os : Os) (started : os.Started) (H : Type) (enc : TypeId × Value → H) :
    ReturnsInHanded {} Try.checked os 8 .any (Rows.satNextSpec.pre6 enc Try.prog Try.f8 Rows.satNextRow.domain false) (Rows.satNextSpec.post enc Try.prog Try.f8 false true false false) := by
  refine returnsInHanded_of_change (C := Try.checked) own started (by kernel_rfl) Try.func8
    (ChangeSpec.witness6 (enc := enc) (C := Try.checked) false ⟨#[], #[.int .i64 0, .int .i64 0, .int .i64 0], []⟩ 8 (by kernel_rfl) (by kernel_rfl) (by kernel_rfl) (by kernel_rfl)) ?_
  intro W base args ds gs before hval0 hW hcnd _
  have hval : ∀ (j : Nat) t v, Try.f8.params[j]? = some t → args[j]? = some v → Value.okWide Try.prog W .any base t v := hval0
  have hW' := hW
  obtain ⟨p, q, hA0, hV, rfl, hfz, hnd⟩ := hW
  have hA : DataW.TrodAll enc Try.prog W 0 (fun _ => true) true Try.f8.params.toList args.toList ds p := hA0
  rw [Try.params8] at hA hval
  obtain ⟨v0, vs0, d0, ds0, p0, q0, hargs, rfl, rfl, h0, r0⟩ := trodAll_cons hA
  obtain ⟨v1, vs1, d1, ds1, p1, q1, rfl, rfl, rfl, h1, r1⟩ := trodAll_cons r0
  obtain ⟨v2, vs2, d2, ds2, p2, q2, rfl, rfl, rfl, h2, r2⟩ := trodAll_cons r1
  obtain ⟨rfl, rfl, rfl⟩ := trodAll_nil r2
  obtain rfl : args = #[v0, v1, v2] := by cases args; simp_all
  obtain ⟨rfl, rfl⟩ := trodVars_none hV
  obtain ⟨a0, rfl, rfl, rfl, w0⟩ := open_int Try.underlying3 (hval 0 3 v0 rfl rfl) h0
  obtain ⟨a1, rfl, rfl, rfl, w1⟩ := open_int Try.underlying3 (hval 1 3 v1 rfl rfl) h1
  obtain ⟨a2, rfl, rfl, rfl, w2⟩ := open_int Try.underlying3 (hval 2 3 v2 rfl rfl) h2
  clear hA0 hval0
  simp only [List.append_nil] at hW'
  refine (walk a0 a1 a2 w0 w1 w2 W).mono fun e W' ⟨he, hg⟩ => ?_
  subst he
  exact ⟨_, rfl, post_of_same (pa := []) (pv := []) hW' (fun _ _ _ => (trodAll_cons_mk (shut_bool Try.underlying4 _) trodAll_mk0)) (fun sp _ => (trodAll_cons_mk (shut_int Try.underlying3 w0) (trodAll_cons_mk (shut_int Try.underlying3 w1) (trodAll_cons_mk (shut_int Try.underlying3 w2) trodAll_mk0)))) (fun _ _ => rfl) rfl
    (hg.frame _) hg.2.1 (ok_one (by kernel_rfl) rfl (okWide_bool_mk Try.underlying4 _))⟩

theorem over : Rows.satNextRow.holds Try.pinned (OpenSpec.ofChange Rows.satNextSpec) :=
  OpenClaim.holds_of_wide 8 Try.f8 rfl rfl rfl rfl rfl rfl rfl ⟨rfl, rfl, rfl, rfl, rfl⟩ rfl rfl rfl rfl rfl (by kernel_rfl) Try.func8 (by kernel_rfl)
    (of_decide_eq_true (by kernel_rfl)) (by unfold Func.isWrapper; first | (rw [if_pos (by decide +kernel)]; kernel_rfl) | (rw [if_neg (by decide +kernel)]; exact ⟨rfl, rfl⟩))
    (fun os started H enc _ => lifted os started H enc)

/-- ████ THE STATEMENT ████ -/
theorem proved : Rows.SatNextSaid :=
  over
end Go.Proofs.Ytomakdlhalmlbaa.satNext
namespace Go.Proofs.Ytomakdlhalmlbaa
theorem satNext_holds : Rows.SatNextSaid := satNext.proved
#print axioms satNext_holds
end Go.Proofs.Ytomakdlhalmlbaa
