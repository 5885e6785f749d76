/- A wheel: there, has, Until, Len, New, the comparison of two that wait: contracts. -/
import Derived.Test.YtoomdjkojddpdaaH1
import Derived.Test.YtoomdjkojddpdaaS1
namespace Go.Proofs.Ytoomdjkojddpdaa.H14
open Go.RowKit Go.Proofs.Ytoomdjkojddpdaa.G Go.Proofs.Ytoomdjkojddpdaa.Sat Go.Sort
set_option maxRecDepth 100000
variable {w w' : World} {b : Nat} {mb : Option Nat} {l : List En} {s : Nat}

theorem there_nil (w : World) : Calls Try.prog 32 #[.pointer none] w fun e w' => e = .returned (.map none) ∧ w = w' := by
  go_enter Try.func32, Try.ntmps32
  go_wp2
  go_ret
  exact ⟨rfl, rfl⟩
theorem there_any (h : Wh w b mb l s) : Calls Try.prog 32 #[.pointer (some ⟨b, 0, none⟩)] w fun e w' => e = .returned (.map mb) ∧ w = w' := by
  obtain ⟨k0, k1, k2⟩ := h.cells
  clear h
  go_enter Try.func32, Try.ntmps32
  go_wp2
  go_ret
  exact ⟨rfl, rfl⟩
/-- What looking up tells, of a map that there is, or none. -/
theorem Wh.look (h : Wh w b mb l s) {k : Int} (hk : Ir k) : (Instr.lookup 55 (.map mb) (.int .i64 k) true).run Try.prog w = .ok (.tuple #[wV (unt l k) (trn l k), .bool (has l k)]) w := by
  cases mb with
  | none => rw [h.no rfl]; exact look_nil hk w
  | some B => exact (h.mp B rfl).look hk
theorem Wh.look1 (h : Wh w b mb l s) {k : Int} (hk : Ir k) : (Instr.lookup 55 (.map mb) (.int .i64 k) false).run Try.prog w = .ok (wV (unt l k) (trn l k)) w := by
  cases mb with
  | none => rw [h.no rfl]; exact look1_nil hk w
  | some B => exact (h.mp B rfl).look1 hk
theorem Wh.len (h : Wh w b mb l s) (ty : TypeId) : (Builtin.len_ #[55] ty #[.map mb]).run Try.prog w = .ok (.int .i64 l.length) w := by
  cases mb with
  | none => rw [h.no rfl]; exact len_nil' ty w
  | some B => exact (h.mp B rfl).len h.ok ty
theorem has_nil {k : Int} (hk : Ir k) (w : World) : Calls Try.prog 26 #[.pointer none, .int .i64 k] w fun e w' => e = .returned (.bool false) ∧ Gw w w' := by
  have h1 := look_nil hk w
  unfold wV at h1
  go_enter Try.func26, Try.ntmps26
  go_wp2_with (go_at_call 32; refine (there_nil _).mono ?_; rintro e w' ⟨rfl, rfl⟩)
  go_ret
  exact ⟨rfl, 0, _, alloc_eq_grow _ _⟩
theorem has_any (h : Wh w b mb l s) {k : Int} (hk : Ir k) : Calls Try.prog 26 #[.pointer (some ⟨b, 0, none⟩), .int .i64 k] w fun e w' => e = .returned (.bool (has l k)) ∧ Gw w w' := by
  have HT := Lib.hid (there_any h)
  have h1 := h.look hk
  unfold wV at h1
  generalize has l k = y at *
  generalize unt l k = u at *
  generalize trn l k = t at *
  clear h
  go_enter Try.func26, Try.ntmps26
  go_wp2_with (go_at_call 32; refine HT.out.mono ?_; rintro e w' ⟨rfl, rfl⟩)
  go_ret
  exact ⟨rfl, 0, _, alloc_eq_grow _ _⟩
theorem until_nil {k : Int} (hk : Ir k) (w : World) : Calls Try.prog 19 #[.pointer none, .int .i64 k] w fun e w' => e = .returned (.tuple #[.int .i64 0, .bool false]) ∧ Gw w w' := by
  have h1 := look_nil hk w
  unfold wV at h1
  go_enter Try.func19, Try.ntmps19
  go_wp2_with (go_at_call 32; refine (there_nil _).mono ?_; rintro e w' ⟨rfl, rfl⟩)
  refine bodyPost_ret (v := .tuple #[.int .i64 0, .bool false]) (by simp [results, Try.results19, go_sem]) rfl ⟨rfl, ?_⟩
  exact ⟨0, _, alloc_eq_grow _ _⟩
theorem until_any (h : Wh w b mb l s) {k : Int} (hk : Ir k) : Calls Try.prog 19 #[.pointer (some ⟨b, 0, none⟩), .int .i64 k] w fun e w' => e = .returned (.tuple #[.int .i64 (unt l k), .bool (has l k)]) ∧ Gw w w' := by
  have HT := Lib.hid (there_any h)
  have h1 := h.look hk
  unfold wV at h1
  generalize has l k = y at *
  generalize unt l k = u at *
  generalize trn l k = t at *
  clear h
  go_enter Try.func19, Try.ntmps19
  go_wp2_with (go_at_call 32; refine HT.out.mono ?_; rintro e w' ⟨rfl, rfl⟩)
  refine bodyPost_ret (v := .tuple #[.int .i64 u, .bool y]) (by simp [results, Try.results19, go_sem]) rfl ⟨rfl, ?_⟩
  exact ⟨0, _, alloc_eq_grow _ _⟩
theorem len_nil (w : World) : Calls Try.prog 22 #[.pointer none] w fun e w' => e = .returned (.int .i64 0) ∧ w = w' := by
  have h1 := fun ty => len_nil' ty w
  go_enter Try.func22, Try.ntmps22
  go_wp2_with (go_at_call 32; refine (there_nil _).mono ?_; rintro e w' ⟨rfl, rfl⟩)
  go_ret
  exact ⟨rfl, rfl⟩
theorem len_any (h : Wh w b mb l s) : Calls Try.prog 22 #[.pointer (some ⟨b, 0, none⟩)] w fun e w' => e = .returned (.int .i64 l.length) ∧ w = w' := by
  have HT := Lib.hid (there_any h)
  have h1 := fun ty => h.len ty
  clear h
  go_enter Try.func22, Try.ntmps22
  go_wp2_with (go_at_call 32; refine HT.out.mono ?_; rintro e w' ⟨rfl, rfl⟩)
  go_ret
  exact ⟨rfl, rfl⟩
theorem new_any (w : World) : Calls Try.prog 9 #[] w fun e w' => e = .returned (.pointer (some ⟨w.heap.size, 0, none⟩)) ∧ Wh w' w.heap.size none [] 0 ∧ Below w.heap.size w w' := by
  go_enter Try.func9, Try.ntmps9
  go_wp2
  go_ret
  exact ⟨rfl, ⟨Blk.new _ _ _, Wok.nil _, fun _ => rfl, fun B hB => by cases hB⟩, b01 _ _⟩

/-! ### The comparison -/
theorem isNaN_any (a : Int) (w : World) : Calls Try.prog 47 #[.int .i64 a] w fun e w' => e = .returned (.bool false) ∧ w = w' := by
  have h : (a != a) = false := by simp
  go_enter Try.func47, Try.ntmps47
  go_wp2_with fail
  go_ret
  exact ⟨rfl, rfl⟩
theorem cmp3_any (a b : Int) (w : World) : Calls Try.prog 43 #[.int .i64 a, .int .i64 b] w fun e w' => e = .returned (.int .i64 (cmp3 a b)) ∧ w = w' := by
  unfold cmp3
  by_cases h1 : a < b
  · rw [if_pos h1]
    go_enter Try.func43, Try.ntmps43
    go_wp2_with (go_at_call 47; refine (isNaN_any _ _).mono ?_; rintro e w' ⟨rfl, rfl⟩)
    go_ret
    exact ⟨rfl, rfl⟩
  · rw [if_neg h1]
    by_cases h2 : b < a
    · rw [if_pos h2]
      go_enter Try.func43, Try.ntmps43
      go_wp2_with (go_at_call 47; refine (isNaN_any _ _).mono ?_; rintro e w' ⟨rfl, rfl⟩)
      go_ret
      exact ⟨rfl, rfl⟩
    · rw [if_neg h2]
      go_enter Try.func43, Try.ntmps43
      go_wp2_with (go_at_call 47; refine (isNaN_any _ _).mono ?_; rintro e w' ⟨rfl, rfl⟩)
      go_ret
      exact ⟨rfl, rfl⟩
theorem or_any {g : Nat} {x y : Int} (h : Blk w g 3 #[.int .i64 x, .int .i64 y]) : Calls Try.prog 42 #[.slice (some ⟨g, 0, none⟩) 2 2] w fun e w' => e = .returned (.int .i64 (if x ≠ 0 then x else y)) ∧ w = w' := by
  have k0 := h.cell 0
  have k1 := h.cell 1
  simp only [List.getElem?_toArray, List.getElem?_cons_zero, List.getElem?_cons_succ] at k0 k1
  clear h
  by_cases hx : x = 0
  · subst hx
    have t1 : ((0 : Int) != 0) = false := rfl
    by_cases hy : y = 0
    · subst hy
      go_enter Try.func42, Try.ntmps42
      go_wp2
      refine wp_loop_rounds 3 ?_
      rw [rounds_succ]
      go_wp2
      rw [rounds_succ]
      go_wp2
      rw [rounds_succ]
      go_wp2
      go_ret
      exact ⟨rfl, rfl⟩
    · have t2 : (y != 0) = true := by simpa using hy
      go_enter Try.func42, Try.ntmps42
      go_wp2
      refine wp_loop_rounds 3 ?_
      rw [rounds_succ]
      go_wp2
      rw [rounds_succ]
      go_wp2
      go_ret
      exact ⟨rfl, rfl⟩
  · have t1 : (x != 0) = true := by simpa using hx
    rw [if_pos hx]
    go_enter Try.func42, Try.ntmps42
    go_wp2
    refine wp_loop_rounds 3 ?_
    rw [rounds_succ]
    go_wp2
    go_ret
    exact ⟨rfl, rfl⟩
end Go.Proofs.Ytoomdjkojddpdaa.H14
