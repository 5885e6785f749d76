/- A pool's slots as a list, how many there are, has, owned: contracts. -/
import Derived.Test.YtppmfmgmlicefaaPMem
import Derived.BigFrame
import Derived.RegionTactic
import Derived.Deep.RegionWith
import Derived.Deep.QuietTactic
import Derived.BigQuiet
namespace Go.Proofs.Ytppmfmgmlicefaa.P9
open Go.RowKit Go.Proofs.Ytppmfmgmlicefaa.G
set_option maxRecDepth 100000
variable {w w' : World} {b n : Nat} {s : SS} {t : Nat → Int} {c : Int}

theorem there_nil (w : World) : Calls Try.prog 30 #[.pointer none] w fun e w' => e = .returned (.slice none 0 0) ∧ w = w' := by
  go_enter Try.func30, Try.ntmps30
  go_wp2
  go_ret
  exact ⟨rfl, rfl⟩
theorem arrLen : Try.prog.arrayLen 57 = 64 := by kernel_rfl
theorem slice_run (b n : Nat) (hn : n ≤ 64) (W : World) : (Instr.sliceAt 57 (.pointer (some ⟨b, 1, none⟩)) none (some (.int .i64 (n : Int))) none).run Try.prog W = .ok (.slice (some ⟨b, 1, none⟩) n 64) W := by
  have hs : (sizeOf (Try.prog.elem 57)).run Try.prog W = .ok 2 W := by kernel_rfl
  rw [run_sliceAt_array_h W 57 ⟨b, 1, none⟩ (by kernel_rfl) .i64 n (by omega) (by rw [arrLen]; omega), hs, arrLen]
  simp [slicedAt, Result.andThen, Addr.add]
theorem there_any (h : Pl w b n s t c) : Calls Try.prog 30 #[.pointer (some ⟨b, 0, none⟩)] w (HerePost b n w) := by
  have k0 := h.cell0
  have hsl := slice_run b n h.n64
  clear h
  go_enter Try.func30, Try.ntmps30
  go_wp2
  go_quiet (fail)
  go_wp2
  go_ret
  exact ⟨rfl, bn (Below.refl _ _) _⟩
theorem len_nil (w : World) : Calls Try.prog 22 #[.pointer none] w fun e w' => e = .returned (.int .i64 0) ∧ w = w' := by
  go_enter Try.func22, Try.ntmps22
  go_wp2_with fail
  refine (there_nil _).mono ?_
  rintro e w' ⟨rfl, rfl⟩
  go_wp2_with fail
  go_ret
  exact ⟨rfl, rfl⟩
theorem len_any (h : Pl w b n s t c) : Calls Try.prog 22 #[.pointer (some ⟨b, 0, none⟩)] w fun e w' => e = .returned (.int .i64 n) ∧ Below w.heap.size w w' := by
  have HT := Lib.hid (there_any h)
  clear h
  go_enter Try.func22, Try.ntmps22
  go_wp2_with fail
  refine HT.out.mono ?_
  rintro e w' ⟨rfl, hb⟩
  go_wp2_with fail
  go_ret
  exact ⟨rfl, hb⟩
theorem owned_any (v : Int) (w : World) : Calls Try.prog 31 #[.int .i64 v] w fun e w' => e = .returned (.agg #[.bool true, .int .i64 v]) ∧ Below w.heap.size w w' := by
  go_enter Try.func31, Try.ntmps31
  go_wp2
  exact bodyPost_ret (v := .agg #[.bool true, .int .i64 v]) (by simp [results, Try.results31, go_sem]) rfl ⟨rfl, b01 w _⟩
/-- Is there that slot? -/
def isIn (n : Nat) (k : Int) : Bool := decide (0 ≤ k ∧ k < n)
theorem isIn_of {k : Int} (h : isIn n k = true) : 0 ≤ k ∧ k < n := of_decide_eq_true h
theorem isIn_not {k : Int} (h : isIn n k = false) : k < 0 ∨ n ≤ k := by have := of_decide_eq_false h; omega
theorem has_nil (k : Int) (w : World) : Calls Try.prog 32 #[.pointer none, .int .i64 k] w fun e w' => e = .returned (.bool false) ∧ w = w' := by
  by_cases h : 0 ≤ k
  · have t1 : decide (k < 0) = false := decide_eq_false (by omega)
    go_enter Try.func32, Try.ntmps32
    go_wp2_with fail
    refine (len_nil _).mono ?_
    rintro e w' ⟨rfl, rfl⟩
    go_wp2_with fail
    go_ret
    exact ⟨rfl, rfl⟩
  · have t1 : decide (0 ≤ k) = false := decide_eq_false (by omega)
    go_enter Try.func32, Try.ntmps32
    go_wp2_with fail
    go_ret
    exact ⟨rfl, rfl⟩
theorem has_any (h : Pl w b n s t c) (k : Int) {r : Bool} (hr : isIn n k = r) : Calls Try.prog 32 #[.pointer (some ⟨b, 0, none⟩), .int .i64 k] w fun e w' => e = .returned (.bool r) ∧ Below w.heap.size w w' := by
  have HL := Lib.hid (len_any h)
  clear h
  have HR := Lib.hid hr
  clear hr
  by_cases h : 0 ≤ k
  · obtain ⟨r2, hr2⟩ : ∃ r2, decide (k < (n : Int)) = r2 := ⟨_, rfl⟩
    have HF : Hid (r2 = r) := by
      show r2 = r
      rw [← HR.out, ← hr2]; unfold isIn; rw [Bool.eq_iff_iff, decide_eq_true_eq, decide_eq_true_eq]; omega
    go_enter Try.func32, Try.ntmps32
    go_wp2_with fail
    refine HL.out.mono ?_
    rintro e w' ⟨rfl, hb⟩
    go_wp2_with fail
    go_ret
    exact ⟨congrArg _ (congrArg _ HF.out), hb⟩
  · have t1 : decide (0 ≤ k) = false := decide_eq_false (by omega)
    have HF : Hid (false = r) := by
      show false = r
      rw [← HR.out]; unfold isIn; exact (decide_eq_false (by omega)).symm
    go_enter Try.func32, Try.ntmps32
    go_wp2_with fail
    go_ret
    exact ⟨congrArg _ (congrArg _ HF.out), Below.refl _ _⟩
end Go.Proofs.Ytppmfmgmlicefaa.P9
