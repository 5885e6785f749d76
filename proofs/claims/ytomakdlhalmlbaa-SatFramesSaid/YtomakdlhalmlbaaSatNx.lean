/- What the document's own answer for the next tick of a phase returns: the same as the program's, and it leaves the memory alone. No conditions. -/
import Derived.Test.YtomakdlhalmlbaaSat
import Derived.LoopTactic
import Derived.Deep.QuietTactic
import Derived.BigQuiet
import Derived.Lib.Hide
import Derived.IntWalk
namespace Go.Proofs.Ytomakdlhalmlbaa.Sat
open Go.ChangeShapes Go.WideShapes Go.ChangeAt Go.RowKit

/-- A callee that leaves the world alone, met behind some draws. -/
theorem quiet_left {P : Program} {f : FuncId} {args : Array Value} {w : World} {n : Nat} {v : Value}
    (h : Calls P f args (w.drewN n) fun e w' => e = .returned v ∧ w.drewN n = w') : Calls P f args (w.drewN n) fun e w'' => e = .returned v ∧ ∃ m, w'' = w.drewN m :=
  h.mono fun _ _ ⟨he, hm⟩ => ⟨he, n, hm.symm⟩

theorem rnxt_any (n f p : Int) (w : World) : Calls Try.prog 24 #[.int .i64 n, .int .i64 f, .int .i64 p] w fun e w' => e = .returned (.int .i64 (nxt n f p)) ∧ ∃ m, w' = w.drewN m := by
  have ha := cut_bd n
  have h1 := pha_bd n f
  have h2 := fr_bd f
  have h4 := ahead_bd n f p
  by_cases hp : p < 0
  · have HP := Lib.hid (wit_lo (m := fr f - 1) hp)
    have hp' : p ≤ 0 := by omega
    have hf : 0 ≤ fr f - 1 := by omega
    go_enter Try.func24, Try.ntmps24
    go_wp2_with (go_at_call 29; refine (rfr_any _ _).mono ?_; rintro e w' ⟨rfl, rfl⟩)
    go_loopw [8] (fun i wr => ∃ (k m : Nat), (k : Int) ≤ ahead n f p ∧ i = .int .i64 k ∧ wr = w.drewN m) (fun i _ => 64 - (intOf i).toNat)
    case atStart => exact ⟨0, 0, by omega, rfl, rfl⟩
    case round =>
      obtain ⟨k, m, hk, rfl, hw⟩ := hrel
      have HW := Lib.hid hw
      clear hw
      have hlt : (k : Int) < 64 := by omega
      by_cases hq : (k : Int) = ahead n f p
      · have HQ := Lib.hid hq
        have e1 : (cut n).tmod (fr f) = pha n f := Int.tmod_eq_emod_of_nonneg ha.1
        have e2 : IntKind.i64.wrap (pha n f + k) = pha n f + k := IntWalk.i64_in _ (by omega)
        have e3 : (pha n f + k).tmod (fr f) = 0 := by rw [Int.tmod_eq_emod_of_nonneg (by omega), (at_ahead n f p k (by omega) (by omega)).mpr hq, HP.out]
        have e4 : (fr f == 0) = false := by rw [beq_eq_false_iff_ne]; omega
        clear hq
        go_wp2
        go_quiet (first | (go_at_call 12; exact quiet_left (rcut_any _ _)) | (go_at_call 29; exact quiet_left (rfr_any _ _)))
        go_wp2_with (go_at_call 14; refine (radd_any _ _ _).mono ?_; rintro e w' ⟨rfl, rfl⟩)
        go_ret
        exact ⟨ret_int (by rw [HQ.out]; rfl), _, by rw [HW.out, World.drewN_drewN]⟩
      · obtain ⟨t, ht, hne⟩ : ∃ t : Int, (pha n f + k).tmod (fr f) = t ∧ (t == 0) = false := by
          refine ⟨_, rfl, ?_⟩
          rw [beq_eq_false_iff_ne, Int.tmod_eq_emod_of_nonneg (by omega), ← HP.out]
          exact fun h => hq ((at_ahead n f p k (by omega) (by omega)).mp h)
        have e1 : (cut n).tmod (fr f) = pha n f := Int.tmod_eq_emod_of_nonneg ha.1
        have e2 : IntKind.i64.wrap (pha n f + k) = pha n f + k := IntWalk.i64_in _ (by omega)
        have e4 : (fr f == 0) = false := by rw [beq_eq_false_iff_ne]; omega
        have HQ := Lib.hid hq
        clear hq
        go_wp2
        go_quiet (first | (go_at_call 12; exact quiet_left (rcut_any _ _)) | (go_at_call 29; exact quiet_left (rfr_any _ _)))
        clear e1 e2 ht
        go_wp2
        go_roundw
        case rel => exact ⟨k + 1, m + nq, by have := HQ.out; omega, by go_num, by rw [HW.out, World.drewN_drewN]⟩
        case measure => simp [intOf]; omega

  by_cases hp2 : fr f - 1 < p
  · have HP := Lib.hid (wit_hi (show 0 ≤ p by omega) hp2)
    go_enter Try.func24, Try.ntmps24
    go_wp2_with (go_at_call 29; refine (rfr_any _ _).mono ?_; rintro e w' ⟨rfl, rfl⟩)
    go_loopw [8] (fun i wr => ∃ (k m : Nat), (k : Int) ≤ ahead n f p ∧ i = .int .i64 k ∧ wr = w.drewN m) (fun i _ => 64 - (intOf i).toNat)
    case atStart => exact ⟨0, 0, by omega, rfl, rfl⟩
    case round =>
      obtain ⟨k, m, hk, rfl, hw⟩ := hrel
      have HW := Lib.hid hw
      clear hw
      have hlt : (k : Int) < 64 := by omega
      by_cases hq : (k : Int) = ahead n f p
      · have HQ := Lib.hid hq
        have e1 : (cut n).tmod (fr f) = pha n f := Int.tmod_eq_emod_of_nonneg ha.1
        have e2 : IntKind.i64.wrap (pha n f + k) = pha n f + k := IntWalk.i64_in _ (by omega)
        have e3 : (pha n f + k).tmod (fr f) = fr f - 1 := by rw [Int.tmod_eq_emod_of_nonneg (by omega), (at_ahead n f p k (by omega) (by omega)).mpr hq, HP.out]
        have e4 : (fr f == 0) = false := by rw [beq_eq_false_iff_ne]; omega
        clear hq
        go_wp2
        go_quiet (first | (go_at_call 12; exact quiet_left (rcut_any _ _)) | (go_at_call 29; exact quiet_left (rfr_any _ _)))
        go_wp2_with (go_at_call 14; refine (radd_any _ _ _).mono ?_; rintro e w' ⟨rfl, rfl⟩)
        go_ret
        exact ⟨ret_int (by rw [HQ.out]; rfl), _, by rw [HW.out, World.drewN_drewN]⟩
      · obtain ⟨t, ht, hne⟩ : ∃ t : Int, (pha n f + k).tmod (fr f) = t ∧ (t == fr f - 1) = false := by
          refine ⟨_, rfl, ?_⟩
          rw [beq_eq_false_iff_ne, Int.tmod_eq_emod_of_nonneg (by omega), ← HP.out]
          exact fun h => hq ((at_ahead n f p k (by omega) (by omega)).mp h)
        have e1 : (cut n).tmod (fr f) = pha n f := Int.tmod_eq_emod_of_nonneg ha.1
        have e2 : IntKind.i64.wrap (pha n f + k) = pha n f + k := IntWalk.i64_in _ (by omega)
        have e4 : (fr f == 0) = false := by rw [beq_eq_false_iff_ne]; omega
        have HQ := Lib.hid hq
        clear hq
        go_wp2
        go_quiet (first | (go_at_call 12; exact quiet_left (rcut_any _ _)) | (go_at_call 29; exact quiet_left (rfr_any _ _)))
        clear e1 e2 ht
        go_wp2
        go_roundw
        case rel => exact ⟨k + 1, m + nq, by have := HQ.out; omega, by go_num, by rw [HW.out, World.drewN_drewN]⟩
        case measure => simp [intOf]; omega

  · have HP := Lib.hid (wit_in (show 0 ≤ p by omega) (show p ≤ fr f - 1 by omega))
    go_enter Try.func24, Try.ntmps24
    go_wp2_with (go_at_call 29; refine (rfr_any _ _).mono ?_; rintro e w' ⟨rfl, rfl⟩)
    go_loopw [8] (fun i wr => ∃ (k m : Nat), (k : Int) ≤ ahead n f p ∧ i = .int .i64 k ∧ wr = w.drewN m) (fun i _ => 64 - (intOf i).toNat)
    case atStart => exact ⟨0, 0, by omega, rfl, rfl⟩
    case round =>
      obtain ⟨k, m, hk, rfl, hw⟩ := hrel
      have HW := Lib.hid hw
      clear hw
      have hlt : (k : Int) < 64 := by omega
      by_cases hq : (k : Int) = ahead n f p
      · have HQ := Lib.hid hq
        have e1 : (cut n).tmod (fr f) = pha n f := Int.tmod_eq_emod_of_nonneg ha.1
        have e2 : IntKind.i64.wrap (pha n f + k) = pha n f + k := IntWalk.i64_in _ (by omega)
        have e3 : (pha n f + k).tmod (fr f) = p := by rw [Int.tmod_eq_emod_of_nonneg (by omega), (at_ahead n f p k (by omega) (by omega)).mpr hq, HP.out]
        have e4 : (fr f == 0) = false := by rw [beq_eq_false_iff_ne]; omega
        clear hq
        go_wp2
        go_quiet (first | (go_at_call 12; exact quiet_left (rcut_any _ _)) | (go_at_call 29; exact quiet_left (rfr_any _ _)))
        go_wp2_with (go_at_call 14; refine (radd_any _ _ _).mono ?_; rintro e w' ⟨rfl, rfl⟩)
        go_ret
        exact ⟨ret_int (by rw [HQ.out]; rfl), _, by rw [HW.out, World.drewN_drewN]⟩
      · obtain ⟨t, ht, hne⟩ : ∃ t : Int, (pha n f + k).tmod (fr f) = t ∧ (t == p) = false := by
          refine ⟨_, rfl, ?_⟩
          rw [beq_eq_false_iff_ne, Int.tmod_eq_emod_of_nonneg (by omega), ← HP.out]
          exact fun h => hq ((at_ahead n f p k (by omega) (by omega)).mp h)
        have e1 : (cut n).tmod (fr f) = pha n f := Int.tmod_eq_emod_of_nonneg ha.1
        have e2 : IntKind.i64.wrap (pha n f + k) = pha n f + k := IntWalk.i64_in _ (by omega)
        have e4 : (fr f == 0) = false := by rw [beq_eq_false_iff_ne]; omega
        have HQ := Lib.hid hq
        clear hq
        go_wp2
        go_quiet (first | (go_at_call 12; exact quiet_left (rcut_any _ _)) | (go_at_call 29; exact quiet_left (rfr_any _ _)))
        clear e1 e2 ht
        go_wp2
        go_roundw
        case rel => exact ⟨k + 1, m + nq, by have := HQ.out; omega, by go_num, by rw [HW.out, World.drewN_drewN]⟩
        case measure => simp [intOf]; omega

end Go.Proofs.Ytomakdlhalmlbaa.Sat
