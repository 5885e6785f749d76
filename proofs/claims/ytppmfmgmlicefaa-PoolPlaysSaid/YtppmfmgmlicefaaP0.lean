/- A pool as plain data: which slots there are, whose each is, how often it was taken; what each call answers, and leaves. No memory, no program. -/
namespace Go.Proofs.Ytppmfmgmlicefaa.P9

/-- Of each slot: whose it is. -/
abbrev SS := Nat → Option Int
def upd {α : Type} (s : Nat → α) (k : Nat) (v : α) : Nat → α := fun j => if j = k then v else s j
theorem upd_eq {α : Type} (s : Nat → α) (k : Nat) (v : α) : upd s k v k = v := by simp [upd]
theorem upd_ne {α : Type} (s : Nat → α) {k j : Nat} (v : α) (h : j ≠ k) : upd s k v j = s j := by simp [upd, h]
/-- The slots of a state, rising. -/
def allN (n : Nat) (s : SS) (x : Option Int) : List Nat := (List.range n).filter fun k => decide (s k = x)
def all (n : Nat) (s : SS) (x : Option Int) : List Int := (allN n s x).map Int.ofNat
theorem allN_zero (s : SS) (x : Option Int) : allN 0 s x = [] := rfl
theorem allN_yes {n : Nat} {s : SS} {x : Option Int} (h : s n = x) : allN (n + 1) s x = allN n s x ++ [n] := by
  unfold allN; rw [List.range_succ, List.filter_append]; simp [h]
theorem allN_no {n : Nat} {s : SS} {x : Option Int} (h : s n ≠ x) : allN (n + 1) s x = allN n s x := by
  unfold allN; rw [List.range_succ, List.filter_append]; simp [h]
theorem all_yes {n : Nat} {s : SS} {x : Option Int} (h : s n = x) : all (n + 1) s x = all n s x ++ [(n : Int)] := by
  unfold all; rw [allN_yes h, List.map_append]; rfl
theorem all_no {n : Nat} {s : SS} {x : Option Int} (h : s n ≠ x) : all (n + 1) s x = all n s x := by unfold all; rw [allN_no h]
theorem allN_len (n : Nat) (s : SS) (x : Option Int) : (allN n s x).length ≤ n := by
  unfold allN; exact Nat.le_trans (List.length_filter_le _ _) (by simp)
theorem all_len' (n : Nat) (s : SS) (x : Option Int) : (all n s x).length = (allN n s x).length := by simp [all]
theorem all_len (n : Nat) (s : SS) (x : Option Int) : (all n s x).length ≤ n := by rw [all_len']; exact allN_len n s x
theorem mem_allN {n : Nat} {s : SS} {x : Option Int} {k : Nat} : k ∈ allN n s x ↔ k < n ∧ s k = x := by simp [allN]
/-- The lowest slot that is free is k. -/
def Low (n : Nat) (s : SS) (k : Nat) : Prop := k < n ∧ s k = none ∧ ∀ j, j < k → s j ≠ none
def Full (n : Nat) (s : SS) : Prop := ∀ j, j < n → s j ≠ none
theorem low_or_full (s : SS) : ∀ n, Full n s ∨ ∃ k, Low n s k
  | 0 => .inl fun j h => absurd h (by omega)
  | n + 1 => by
    rcases low_or_full s n with h | ⟨k, h1, h2, h3⟩
    · cases hn : s n with
      | none => exact .inr ⟨n, by omega, hn, h⟩
      | some v =>
        refine .inl fun j hj => ?_
        rcases Nat.lt_or_ge j n with h4 | h4
        · exact h j h4
        · obtain rfl : j = n := by omega
          rw [hn]; simp
    · exact .inr ⟨k, by omega, h2, h3⟩
/-- What Give answers. -/
def gcode (n : Nat) (s : SS) (slot owner : Int) : Int :=
  if 0 ≤ slot ∧ slot < n then (match s slot.toNat with | none => 11 | some o => if o = owner then 0 else 2) else 7
def gst (n : Nat) (s : SS) (slot owner : Int) : SS := if gcode n s slot owner = 0 then upd s slot.toNat none else s
def letS (n : Nat) (s : SS) (owner : Int) : SS := fun k => if k < n ∧ s k = some owner then none else s k
/-! ### Lists of slots -/
theorem all_get {n : Nat} {s : SS} {x : Option Int} {i : Nat} (h : i < (all n s x).length) : ∃ j : Nat, (all n s x).getD i 0 = (j : Int) ∧ j < n ∧ s j = x := by
  have h' : i < (allN n s x).length := by rw [← all_len']; exact h
  have hm : (allN n s x)[i] ∈ allN n s x := List.getElem_mem h'
  refine ⟨(allN n s x)[i], ?_, (mem_allN.1 hm).1, (mem_allN.1 hm).2⟩
  simp [all, h']
theorem allN_up (n : Nat) (s : SS) (x : Option Int) : (allN n s x).Pairwise (· < ·) := by
  unfold allN; exact List.Pairwise.filter _ List.pairwise_lt_range
theorem all_up {n : Nat} {s : SS} {x : Option Int} {i j : Nat} (hij : i < j) (h : j < (all n s x).length) : (all n s x).getD i 0 < (all n s x).getD j 0 := by
  have h' : j < (allN n s x).length := by rw [← all_len']; exact h
  have := List.pairwise_iff_getElem.1 (allN_up n s x) i j (by omega) h' hij
  have hi : i < (allN n s x).length := by omega
  simp only [all, List.getD_eq_getElem?_getD, List.getElem?_map, List.getElem?_eq_getElem h', List.getElem?_eq_getElem hi, Option.map_some, Option.getD_some]
  show ((allN n s x)[i] : Int) < ((allN n s x)[j] : Int)
  omega
theorem full_iff {n : Nat} {s : SS} : Full n s ↔ allN n s none = [] := by
  constructor
  · intro h
    apply List.eq_nil_iff_forall_not_mem.2
    intro k hk
    obtain ⟨h1, h2⟩ := mem_allN.1 hk
    exact h k h1 h2
  · intro h j hj hs
    have := mem_allN.2 ⟨hj, hs⟩
    rw [h] at this; cases this
theorem full_len {n : Nat} {s : SS} : Full n s ↔ (all n s none).length = 0 := by
  rw [full_iff, all_len', List.length_eq_zero_iff]
theorem allN_congr {n : Nat} {s s' : SS} {x : Option Int} (h : ∀ j, j < n → (s j = x ↔ s' j = x)) : allN n s x = allN n s' x := by
  unfold allN
  apply List.filter_congr
  intro j hj
  have := h j (by simpa using hj)
  simp [this]
theorem all_congr {n : Nat} {s s' : SS} {x : Option Int} (h : ∀ j, j < n → (s j = x ↔ s' j = x)) : all n s x = all n s' x := by unfold all; rw [allN_congr h]
/-- A slot that was of the state x is not so any more: one less. -/
theorem len_less {s : SS} {x y : Option Int} {k : Nat} (hk : s k = x) (hy : y ≠ x) : ∀ n, k < n → (allN n (upd s k y) x).length + 1 = (allN n s x).length
  | 0, h => absurd h (by omega)
  | n + 1, h => by
    by_cases e : n = k
    · subst e
      rw [allN_yes hk, allN_no (by rw [upd_eq]; exact hy), List.length_append, allN_congr (s := upd s n y) (s' := s) fun j hj => by rw [upd_ne _ _ (by omega)]]
      rfl
    · have ih := len_less hk hy n (by omega)
      by_cases hx : s n = x
      · rw [allN_yes hx, allN_yes (by rw [upd_ne _ _ e]; exact hx), List.length_append, List.length_append]; simp; omega
      · rw [allN_no hx, allN_no (by rw [upd_ne _ _ e]; exact hx)]; exact ih
/-- All owners are 0 to 4: all slots are free, or one of theirs. -/
def Own5 (s : SS) : Prop := ∀ k, s k = none ∨ s k = some 0 ∨ s k = some 1 ∨ s k = some 2 ∨ s k = some 3 ∨ s k = some 4
def cnt (n : Nat) (s : SS) : Nat → Int
  | 0 => (all n s none).length
  | m + 1 => cnt n s m + (all n s (some (m : Int))).length
theorem cnt_zero (n : Nat) (s : SS) : cnt n s 0 = (all n s none).length := rfl
theorem cnt_succ (n : Nat) (s : SS) (m : Nat) : cnt n s (m + 1) = cnt n s m + (all n s (some (m : Int))).length := rfl
theorem five_ {s : SS} (h : Own5 s) : ∀ n, (allN n s none).length + (allN n s (some 0)).length + (allN n s (some 1)).length + (allN n s (some 2)).length + (allN n s (some 3)).length + (allN n s (some 4)).length = n
  | 0 => rfl
  | n + 1 => by
    have ih := five_ h n
    rcases h n with e | e | e | e | e | e
    all_goals
      have key : ∀ x, (allN (n + 1) s x).length = (allN n s x).length + if s n = x then 1 else 0 := fun x => by
        by_cases hx : s n = x
        · rw [allN_yes hx, if_pos hx, List.length_append]; rfl
        · rw [allN_no hx, if_neg hx]; rfl
      rw [key, key, key, key, key, key, e]
      simp
      omega
theorem cnt_five {s : SS} (h : Own5 s) (n : Nat) : cnt n s 5 = n := by
  have := five_ h n
  rw [show (5 : Nat) = 4 + 1 from rfl, cnt_succ, show (4 : Nat) = 3 + 1 from rfl, cnt_succ, show (3 : Nat) = 2 + 1 from rfl, cnt_succ, show (2 : Nat) = 1 + 1 from rfl, cnt_succ, show (1 : Nat) = 0 + 1 from rfl, cnt_succ, cnt_zero]
  simp only [all_len']
  push_cast
  omega
theorem cnt_bd (n : Nat) (s : SS) : ∀ m, 0 ≤ cnt n s m ∧ cnt n s m ≤ ((m : Int) + 1) * n
  | 0 => by rw [cnt_zero]; have := all_len n s none; constructor <;> push_cast <;> omega
  | m + 1 => by
    have h1 := cnt_bd n s m
    have h2 := all_len n s (some (m : Int))
    rw [cnt_succ]
    have e : ((m + 1 : Nat) : Int) + 1 = (m : Int) + 1 + 1 := by push_cast; rfl
    rw [e, Int.add_mul ((m : Int) + 1) 1]
    constructor <;> omega
theorem own5_upd {s : SS} (h : Own5 s) (k : Nat) {v : Int} (h0 : 0 ≤ v) (h5 : v < 5) : Own5 (upd s k (some v)) := fun j => by
  by_cases e : j = k
  · subst e; rw [upd_eq]
    have : v = 0 ∨ v = 1 ∨ v = 2 ∨ v = 3 ∨ v = 4 := by omega
    rcases this with rfl | rfl | rfl | rfl | rfl <;> simp
  · rw [upd_ne _ _ e]; exact h j
theorem own5_free {s : SS} (h : Own5 s) (k : Nat) : Own5 (upd s k none) := fun j => by
  by_cases e : j = k
  · subst e; rw [upd_eq]; exact .inl rfl
  · rw [upd_ne _ _ e]; exact h j
theorem own5_gst {s : SS} (h : Own5 s) (n : Nat) (a b : Int) : Own5 (gst n s a b) := by
  unfold gst; split
  · exact own5_free h _
  · exact h
theorem own5_let {s : SS} (h : Own5 s) (n : Nat) (v : Int) : Own5 (letS n s v) := fun j => by
  unfold letS; split
  · exact .inl rfl
  · exact h j
/-- How often slots were taken, all together. -/
def sum (t : Nat → Int) : Nat → Int
  | 0 => 0
  | n + 1 => sum t n + t n
theorem sum_congr {t t' : Nat → Int} : ∀ n, (∀ j, j < n → t j = t' j) → sum t n = sum t' n
  | 0, _ => rfl
  | n + 1, h => by rw [sum, sum, sum_congr n fun j hj => h j (by omega), h n (by omega)]
theorem sum_upd (t : Nat → Int) {k : Nat} : ∀ n, k < n → sum (upd t k (t k + 1)) n = sum t n + 1
  | 0, h => absurd h (by omega)
  | n + 1, h => by
    by_cases e : n = k
    · subst e
      rw [sum, sum, upd_eq, sum_congr (t := upd t n (t n + 1)) (t' := t) n fun j hj => upd_ne _ _ (by omega)]; omega
    · rw [sum, sum, sum_upd t n (by omega), upd_ne _ _ e]; omega
theorem sum_bd {t : Nat → Int} {c : Int} (h : ∀ k, 0 ≤ t k ∧ t k ≤ c) : ∀ n, 0 ≤ sum t n ∧ sum t n ≤ c * n
  | 0 => by simp [sum]
  | n + 1 => by
    have h1 := sum_bd h n
    have h2 := h n
    rw [sum]
    have e : c * ((n + 1 : Nat) : Int) = c * n + c := by push_cast; rw [Int.mul_add, Int.mul_one]
    rw [e]; omega
end Go.Proofs.Ytppmfmgmlicefaa.P9
