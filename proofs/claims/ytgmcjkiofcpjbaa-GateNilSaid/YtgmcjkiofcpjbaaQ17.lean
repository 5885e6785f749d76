/- Sorting, plain: what is put behind a sorted row stands in its place, sorted. -/
import Derived.Test.YtgmcjkiofcpjbaaQ16
namespace Go.Proofs.Ytgmcjkiofcpjbaa.L10
set_option maxRecDepth 100000
section
variable {α : Type} {lt : α → α → Bool}
/-- The n-th goes to pos, those from pos on one further. -/
def shf (pos n : Nat) (s : Nat → α) : Nat → α := fun k => if k < pos then s k else if k = pos then s n else if k ≤ n then s (k - 1) else s k
theorem shf_self (n : Nat) (s : Nat → α) : shf n n s = s := by
  funext k; unfold shf
  by_cases h1 : k < n
  · rw [if_pos h1]
  · rw [if_neg h1]
    by_cases h2 : k = n
    · rw [if_pos h2, h2]
    · rw [if_neg h2, if_neg (by omega)]
theorem insIn_shf {a pos n : Nat} {s : Nat → α} (h1 : ∀ k, pos ≤ k → k < n → lt (s n) (s k) = true) (h2 : pos = a ∨ lt (s n) (s (pos - 1)) = false) (ha : a ≤ pos) : ∀ (t : Nat), pos + t ≤ n → insIn lt a (pos + t) (shf (pos + t) n s) = shf pos n s
  | 0, h => by
    rcases h2 with h2 | h2
    · rw [Nat.add_zero, insIn_end (by omega)]
    · by_cases hp : pos = 0
      · rw [Nat.add_zero, insIn_end (by omega)]
      · obtain ⟨q, rfl⟩ : ∃ q, pos = q + 1 := ⟨pos - 1, by omega⟩
        rw [Nat.add_zero]
        refine insIn_no ?_
        have e1 : shf (q + 1) n s (q + 1) = s n := by unfold shf; rw [if_neg (by omega), if_pos rfl]
        have e2 : shf (q + 1) n s q = s q := by unfold shf; rw [if_pos (by omega)]
        rw [e1, e2]; exact h2
  | t + 1, h => by
    have e1 : shf (pos + t + 1) n s (pos + t + 1) = s n := by unfold shf; rw [if_neg (by omega), if_pos rfl]
    have e2 : shf (pos + t + 1) n s (pos + t) = s (pos + t) := by unfold shf; rw [if_pos (by omega)]
    rw [show pos + (t + 1) = pos + t + 1 by omega, insIn_go (by omega) (by rw [e1, e2]; exact h1 _ (by omega) (by omega))]
    have e3 : sw (pos + t + 1) (pos + t) (shf (pos + t + 1) n s) = shf (pos + t) n s := by
      funext k; unfold sw
      by_cases c1 : k = pos + t + 1
      · rw [if_pos c1, e2]; unfold shf; rw [if_neg (by omega), if_neg (by omega), if_pos (by omega)]; congr 1; omega
      · rw [if_neg c1]
        by_cases c2 : k = pos + t
        · rw [if_pos c2, e1]; unfold shf; rw [if_neg (by omega), if_pos c2]
        · rw [if_neg c2]; unfold shf
          by_cases c3 : k < pos + t
          · rw [if_pos (by omega), if_pos c3]
          · rw [if_neg (by omega), if_neg c1, if_neg c3, if_neg c2]
    rw [e3]
    exact insIn_shf h1 h2 ha t (by omega)
theorem insOut_id {a : Nat} {s : Nat → α} : ∀ (t i : Nat), (∀ k, i ≤ k → k < i + t → lt (s k) (s (k - 1)) = false) → a + 1 ≤ i → insOut lt a t i s = s
  | 0, _, _, _ => rfl
  | t + 1, i, h, hi => by
    obtain ⟨j, rfl⟩ : ∃ j, i = j + 1 := ⟨i - 1, by omega⟩
    have hj := h (j + 1) (Nat.le_refl _) (by omega)
    rw [Nat.add_sub_cancel] at hj
    rw [insOut, insIn_no hj]
    exact insOut_id t _ (fun k h1 h2 => h k (by omega) (by omega)) (by omega)
theorem insOut_add {a : Nat} : ∀ (t u i : Nat) (s : Nat → α), insOut lt a (t + u) i s = insOut lt a u (i + t) (insOut lt a t i s)
  | 0, u, i, s => by rw [Nat.zero_add]; rfl
  | t + 1, u, i, s => by
    rw [show t + 1 + u = (t + u) + 1 by omega, insOut, insOut, insOut_add t u, show i + 1 + t = i + (t + 1) by omega]
theorem insS_id {a b : Nat} {s : Nat → α} (h : ∀ k, a + 1 ≤ k → k < b → lt (s k) (s (k - 1)) = false) : insS lt a b s = s :=
  insOut_id _ _ (fun k h1 h2 => h k h1 (by omega)) (Nat.le_refl _)
theorem insS_last {a pos n : Nat} {s : Nat → α} (hs : ∀ k, a + 1 ≤ k → k < n → lt (s k) (s (k - 1)) = false) (ha : a ≤ pos) (hp : pos ≤ n) (h1 : ∀ k, pos ≤ k → k < n → lt (s n) (s k) = true) (h2 : pos = a ∨ lt (s n) (s (pos - 1)) = false) : insS lt a (n + 1) s = shf pos n s := by
  unfold insS
  by_cases hn : n = a
  · have : pos = n := by omega
    subst this
    rw [shf_self, show pos + 1 - (a + 1) = 0 by omega]; rfl
  · rw [show n + 1 - (a + 1) = (n - (a + 1)) + 1 by omega, insOut_add, insOut_id _ _ (fun k h3 h4 => hs k h3 (by omega)) (Nat.le_refl _), show a + 1 + (n - (a + 1)) = n by omega, insOut, insOut]
    have := insIn_shf (lt := lt) (s := s) h1 h2 ha (n - pos) (by omega)
    rw [show pos + (n - pos) = n by omega, shf_self] at this
    exact this
end
theorem srt_id {N : Nat} {p : Nat → Nat} (h : Srt 0 N p) (hb : ∀ k, k < N → p k < N) : ∀ k, k < N → p k = k := by
  have h1 : ∀ k, k < N → k ≤ p k := fun k => by
    induction k with
    | zero => intro _; exact Nat.zero_le _
    | succ k ih => intro hk; have := h k (k + 1) (Nat.zero_le _) (by omega) hk; have := ih (by omega); omega
  have h2 : ∀ t k, k + t + 1 = N → p k + t < N := fun t => by
    induction t with
    | zero => intro k hk; exact hb k (by omega)
    | succ t ih => intro k hk; have := ih (k + 1) (by omega); have := h k (k + 1) (Nat.zero_le _) (by omega) (by omega); omega
  intro k hk
  have a1 := h1 k hk
  have a2 := h2 (N - 1 - k) k (by omega)
  omega
theorem stab_ok {s : Nat → MV} {pos n : Nat} (hn : n < 39) (hp : pos ≤ n) (hs : ∀ i j, i ≤ j → j < n → (s i).ln ≤ (s j).ln) (h1 : ∀ k, k < pos → (s k).ln ≤ (s n).ln) (h2 : ∀ k, pos ≤ k → k < n → (s n).ln < (s k).ln) (h3 : ∀ j k, j ≤ n → n < k → (s j).ln ≤ (s k).ln) :
    ls (n + 1) (stab ltM (n + 1) s) = ls (n + 1) (shf pos n s) := by
  have no : ∀ a k, a + 1 ≤ k → k < n → ltM (s k) (s (k - 1)) = false := fun a k x y => decide_eq_false (by have := hs (k - 1) k (by omega) y; omega)
  have yes : ∀ k, pos ≤ k → k < n → ltM (s n) (s k) = true := fun k x y => decide_eq_true (h2 k x y)
  have nop : ∀ k, k < pos → ltM (s n) (s k) = false := fun k x => decide_eq_false (by have := h1 k x; omega)
  have base : insS ltM 0 (n + 1) s = shf pos n s := insS_last (no 0) (Nat.zero_le _) hp yes (by
    by_cases h : pos = 0
    · exact .inl h
    · exact .inr (nop _ (by omega)))
  by_cases hN : n + 1 < 20
  · rw [stab_lt hN, base]
  · by_cases hN2 : n + 1 = 20
    · rw [stab_20 hN2]
      have e : insS ltM 0 20 s = shf pos n s := by rw [← hN2]; exact base
      rw [e]; rfl
    · rw [stab_gt hN hN2, insS_id (fun k x y => no 0 k x (by omega))]
      rw [insS_last (pos := max pos 20) (no 20) (by omega) (by omega) (fun k x y => yes k (by omega) y) (by
        by_cases h : pos ≤ 20
        · exact .inl (by omega)
        · exact .inr (nop _ (by omega)))]
      obtain ⟨p0, hp0⟩ : ∃ p0 : Nat → Nat, p0 = fun k => if 20 ≤ pos then k else if k < pos then k else if k < 20 then k + 1 else if k = 20 then pos else k := ⟨_, rfl⟩
      have e : shf (max pos 20) n s = fun k => shf pos n s (p0 k) := by
        funext k; rw [hp0]
        by_cases c : 20 ≤ pos
        · simp only [if_pos c]; rw [show max pos 20 = pos by omega]
        · simp only [if_neg c]; rw [show max pos 20 = 20 by omega]
          by_cases c1 : k < pos
          · rw [if_pos c1]; unfold shf; rw [if_pos (by omega), if_pos c1]
          · rw [if_neg c1]
            by_cases c2 : k < 20
            · rw [if_pos c2]; unfold shf; rw [if_pos c2, if_neg (by omega), if_neg (by omega), if_pos (by omega)]; rfl
            · rw [if_neg c2]
              by_cases c3 : k = 20
              · rw [if_pos c3]; unfold shf; rw [if_neg (by omega), if_pos c3, if_neg (by omega), if_pos rfl]
              · rw [if_neg c3]; unfold shf
                by_cases c4 : k ≤ n
                · rw [if_neg (by omega), if_neg (by omega), if_pos c4, if_neg (by omega), if_neg (by omega)]
                · rw [if_neg (by omega), if_neg (by omega), if_neg c4, if_neg (by omega), if_neg (by omega)]
      rw [e]
      have fs : ∀ x y, x < y → x ≤ n → (shf pos n s x).ln ≤ (shf pos n s y).ln := fun x y hxy hx => by
        unfold shf
        by_cases c1 : y < pos
        · rw [if_pos (by omega), if_pos c1]; exact hs x y (by omega) (by omega)
        · rw [if_neg c1]
          by_cases c2 : y = pos
          · rw [if_pos (by omega), if_pos c2]; exact h1 x (by omega)
          · rw [if_neg c2]
            by_cases c3 : y ≤ n
            · rw [if_pos c3]
              by_cases d1 : x < pos
              · rw [if_pos d1]; exact hs _ _ (by omega) (by omega)
              · by_cases d2 : x = pos
                · rw [if_neg d1, if_pos d2]; exact Int.le_of_lt (h2 _ (by omega) (by omega))
                · rw [if_neg d1, if_neg d2, if_pos hx]; exact hs _ _ (by omega) (by omega)
            · rw [if_neg c3]
              by_cases d1 : x < pos
              · rw [if_pos d1]; exact h3 _ _ (by omega) (by omega)
              · by_cases d2 : x = pos
                · rw [if_neg d1, if_pos d2]; exact h3 _ _ (by omega) (by omega)
                · rw [if_neg d1, if_neg d2, if_pos hx]; exact h3 _ _ (by omega) (by omega)
      have fp : shf pos n s pos = s n := by unfold shf; rw [if_neg (by omega), if_pos rfl]
      rw [nat_symM (shf pos n s) (lt := ltM) (lt' := fun x y => ltM (shf pos n s x) (shf pos n s y)) (fun _ _ => rfl)]
      have ok := symM_ok (lt := fun x y => ltM (shf pos n s x) (shf pos n s y)) (Lf := fun x => if 20 ≤ pos then x < 20 else x ≤ 20 ∧ x ≠ pos) (fun x y hx hy => by
        by_cases c : 20 ≤ pos
        · simp only [if_pos c] at hx hy
          rw [decide_eq_false (show ¬ y < x by omega)]
          exact decide_eq_false (by have := fs x y (by omega) (by omega); omega)
        · simp only [if_neg c] at hx hy
          by_cases c1 : y = pos
          · subst c1
            by_cases c2 : y < x
            · rw [decide_eq_true c2]
              refine decide_eq_true ?_
              rw [fp]
              have : shf y n s x = s (x - 1) := by unfold shf; rw [if_neg (by omega), if_neg (by omega), if_pos (by omega)]
              rw [this]; exact h2 _ (by omega) (by omega)
            · rw [decide_eq_false c2]
              exact decide_eq_false (by have := fs x y (by omega) (by omega); omega)
          · rw [decide_eq_false (show ¬ y < x by omega)]
            exact decide_eq_false (by have := fs x y (by omega) (by omega); omega)) (n + 1) 0 20 (n + 1) p0 (by omega) (by omega) (by omega)
        (fun i j x y z => by rw [hp0]; by_cases c : 20 ≤ pos <;> simp only [c, if_true, if_false] <;> (repeat' split) <;> omega)
        (fun i j x y z => by rw [hp0]; by_cases c : 20 ≤ pos <;> simp only [c, if_true, if_false] <;> (repeat' split) <;> omega)
        (fun k x y => by rw [hp0]; by_cases c : 20 ≤ pos <;> simp only [c, if_true, if_false] <;> (repeat' split) <;> omega)
        (fun k x y => by rw [hp0]; by_cases c : 20 ≤ pos <;> simp only [c, if_true, if_false] <;> (repeat' split) <;> omega)
      generalize symM (fun x y => ltM (shf pos n s x) (shf pos n s y)) (n + 1) 0 20 (n + 1) p0 = p1 at ok
      have hid := srt_id ok.1 (fun k hk => by
        obtain ⟨j, j1, j2, ej⟩ := ok.2.2 k (Nat.zero_le _) hk
        rw [ej, hp0]
        by_cases c : 20 ≤ pos <;> simp only [c, if_true, if_false] <;> (repeat' split) <;> omega)
      unfold ls
      refine List.map_congr_left fun k hk => ?_
      rw [hid k (List.mem_range.1 hk)]
end Go.Proofs.Ytgmcjkiofcpjbaa.L10
