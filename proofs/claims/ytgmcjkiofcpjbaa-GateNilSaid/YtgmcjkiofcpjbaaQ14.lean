/- Sorting, plain: a row of places that is sorted but for its last comes out in its row. -/
import Derived.Test.YtgmcjkiofcpjbaaQ12
namespace Go.Proofs.Ytgmcjkiofcpjbaa.L10
set_option maxRecDepth 100000

/-! ### Whatever the elements are -/
section
variable {α β : Type} (f : α → β)
theorem nat_sw (i j : Nat) (p : Nat → α) : sw i j (fun k => f (p k)) = fun k => f (sw i j p k) := by
  funext k; unfold sw; split
  · rfl
  · split <;> rfl
variable {lt : β → β → Bool} {lt' : α → α → Bool} (hlt : ∀ x y, lt' x y = lt (f x) (f y))
include hlt
theorem nat_insIn (a : Nat) : ∀ (j : Nat) (p : Nat → α), insIn lt a j (fun k => f (p k)) = fun k => f (insIn lt' a j p k)
  | 0, p => rfl
  | j + 1, p => by
    rw [insIn, insIn, hlt]
    split
    · rw [nat_sw, nat_insIn a j]
    · rfl
theorem nat_insOut (a : Nat) : ∀ (n i : Nat) (p : Nat → α), insOut lt a n i (fun k => f (p k)) = fun k => f (insOut lt' a n i p k)
  | 0, _, p => rfl
  | n + 1, i, p => by rw [insOut, insOut, nat_insIn f hlt, nat_insOut a n]
theorem nat_insS (a b : Nat) (p : Nat → α) : insS lt a b (fun k => f (p k)) = fun k => f (insS lt' a b p k) := nat_insOut f hlt _ _ _ _
omit hlt in
theorem nat_swR (a b : Nat) : ∀ (t i : Nat) (p : Nat → α), swR a b t i (fun k => f (p k)) = fun k => f (swR a b t i p k)
  | 0, _, p => rfl
  | t + 1, i, p => by rw [swR, swR, nat_sw, nat_swR a b t]
omit hlt in
theorem nat_rot (m : Nat) : ∀ (g i j : Nat) (p : Nat → α), rot m g i j (fun k => f (p k)) = fun k => f (rot m g i j p k)
  | 0, _, _, p => rfl
  | g + 1, i, j, p => by
    rw [rot, rot]
    split
    · rw [nat_swR]
    · split
      · rw [nat_swR, nat_rot m g]
      · rw [nat_swR, nat_rot m g]
omit hlt in
theorem nat_up : ∀ (t k : Nat) (p : Nat → α), up t k (fun k => f (p k)) = fun i => f (up t k p i)
  | 0, _, p => rfl
  | t + 1, k, p => by rw [up, up, nat_sw, nat_up t]
omit hlt in
theorem nat_dn : ∀ (t k : Nat) (p : Nat → α), dn t k (fun k => f (p k)) = fun i => f (dn t k p i)
  | 0, _, p => rfl
  | t + 1, k, p => by rw [dn, dn, nat_sw, nat_dn t]
omit hlt in
theorem nat_tI {c : Prop} [Decidable c] {F : (Nat → β) → (Nat → β)} {F' : (Nat → α) → (Nat → α)} (h : ∀ p, F (fun k => f (p k)) = fun k => f (F' p k)) (p : Nat → α) : tI c F (fun k => f (p k)) = fun k => f (tI c F' p k) := by
  unfold tI; split
  · exact h p
  · rfl
theorem nat_symM : ∀ (g a m b : Nat) (p : Nat → α), symM lt g a m b (fun k => f (p k)) = fun k => f (symM lt' g a m b p k)
  | 0, _, _, _, p => rfl
  | g + 1, a, m, b, p => by
    rw [symM, symM]
    split
    · unfold sym1; simp only [← hlt]; rw [nat_up]
    · split
      · unfold sym2; simp only [← hlt]; rw [nat_dn]
      · simp only [← hlt]
        unfold symT rota
        rw [nat_tI f (fun p => nat_rot f _ _ _ _ p), nat_tI f (fun p => nat_symM g _ _ _ p), nat_tI f (fun p => nat_symM g _ _ _ p)]
theorem nat_stab (n : Nat) (p : Nat → α) : stab lt n (fun k => f (p k)) = fun k => f (stab lt' n p k) := by
  unfold stab
  split
  · rw [nat_insS f hlt]
  · split
    · rw [nat_insS f hlt, nat_insS f hlt]
    · rw [nat_insS f hlt, nat_insS f hlt, nat_symM f hlt]
end

/-! ### What the moves do -/
section
variable {α : Type}
theorem up_eq : ∀ (t a : Nat) (s : Nat → α) (k : Nat), up t a s k = if a ≤ k ∧ k < a + t then s (k + 1) else if k = a + t then s a else s k
  | 0, a, s, k => by
    rw [up, if_neg (by omega)]
    split
    · next h => rw [h]; rfl
    · rfl
  | t + 1, a, s, k => by
    rw [up, up_eq t]
    unfold sw
    rcases Nat.lt_trichotomy k a with h | h | h
    · rw [if_neg (by omega), if_neg (by omega), if_neg (by omega), if_neg (by omega), if_neg (by omega), if_neg (by omega)]
    · subst h
      rw [if_neg (by omega), if_neg (by omega), if_pos rfl, if_pos (by omega)]
    · by_cases h1 : k < a + 1 + t
      · rw [if_pos (by omega), if_neg (by omega), if_neg (by omega), if_pos (by omega)]
      · by_cases h2 : k = a + 1 + t
        · rw [if_neg (by omega), if_pos h2, if_neg (by omega), if_pos rfl, if_neg (by omega), if_pos (by omega)]
        · rw [if_neg (by omega), if_neg h2, if_neg (by omega), if_neg (by omega), if_neg (by omega), if_neg (by omega)]
theorem dn_eq : ∀ (t m : Nat) (s : Nat → α) (k : Nat), t ≤ m → dn t m s k = if k + t = m then s m else if m < k + t ∧ k ≤ m then s (k - 1) else s k
  | 0, m, s, k, _ => by
    rw [dn]
    split
    · next h => rw [← h]; rfl
    · rw [if_neg (by omega)]
  | t + 1, m, s, k, h => by
    rw [dn, dn_eq t _ _ _ (by omega)]
    unfold sw
    by_cases h1 : k + (t + 1) = m
    · rw [if_pos (by omega), if_pos h1, if_neg (by omega), if_pos rfl]
    · rw [if_neg (by omega), if_neg h1]
      by_cases h2 : m < k + (t + 1) ∧ k ≤ m
      · rw [if_pos h2]
        by_cases h3 : k = m
        · rw [if_neg (by omega), if_pos h3, h3]
        · rw [if_pos (by omega), if_neg (by omega), if_neg (by omega)]
      · rw [if_neg h2, if_neg (by omega), if_neg (by omega), if_neg (by omega)]
theorem swR_eq (a b : Nat) : ∀ (t i : Nat) (s : Nat → α) (k : Nat), a + i + t ≤ b + i → swR a b t i s k = if a + i ≤ k ∧ k < a + i + t then s (k + b - a) else if b + i ≤ k ∧ k < b + i + t then s (k + a - b) else s k
  | 0, i, s, k, _ => by rw [swR, if_neg (by omega), if_neg (by omega)]
  | t + 1, i, s, k, h => by
    rw [swR, swR_eq a b t _ _ _ (by omega)]
    unfold sw
    by_cases h1 : k = a + i
    · rw [if_neg (by omega), if_neg (by omega), if_pos h1, if_pos (by omega)]; congr 1; omega
    · by_cases h2 : k = b + i
      · rw [if_neg (by omega), if_neg (by omega), if_neg (by omega), if_pos h2, if_neg (by omega), if_pos (by omega)]; congr 1; omega
      · by_cases h3 : a + i ≤ k ∧ k < a + i + (t + 1)
        · rw [if_pos (by omega), if_neg (by omega), if_neg (by omega), if_pos h3]
        · by_cases h4 : b + i ≤ k ∧ k < b + i + (t + 1)
          · rw [if_neg (by omega), if_pos (by omega), if_neg (by omega), if_neg (by omega), if_neg h3, if_pos h4]
          · rw [if_neg (by omega), if_neg (by omega), if_neg h1, if_neg h2, if_neg h3, if_neg h4]
theorem rot_eq' (m : Nat) : ∀ (g i j : Nat) (s : Nat → α) (k : Nat), 1 ≤ i → i ≤ m → 1 ≤ j → i + j ≤ g → rot m g i j s k = if m - i ≤ k ∧ k < m - i + j then s (k + i) else if m - i + j ≤ k ∧ k < m + j then s (k - j) else s k
  | 0, i, j, s, k, h1, h2, h3, h4 => absurd h4 (by omega)
  | g + 1, i, j, s, k, h1, h2, h3, h4 => by
    rw [rot]
    by_cases e1 : i = j
    · rw [if_pos e1, swR_eq _ _ _ _ _ _ (by omega)]
      subst e1
      by_cases c1 : m - i ≤ k ∧ k < m
      · rw [if_pos (by omega), if_pos (by omega)]; congr 1; omega
      · by_cases c2 : m ≤ k ∧ k < m + i
        · rw [if_neg (by omega), if_pos (by omega), if_neg (by omega), if_pos (by omega)]; congr 1; omega
        · rw [if_neg (by omega), if_neg (by omega), if_neg (by omega), if_neg (by omega)]
    · rw [if_neg e1]
      by_cases e2 : j < i
      · rw [if_pos e2, rot_eq' m g _ _ _ _ (by omega) (by omega) h3 (by omega)]
        rw [swR_eq _ _ _ _ _ _ (by omega), swR_eq _ _ _ _ _ _ (by omega), swR_eq _ _ _ _ _ _ (by omega)]
        by_cases c1 : k < m - i
        · rw [if_neg (by omega), if_neg (by omega), if_neg (by omega), if_neg (by omega), if_neg (by omega), if_neg (by omega)]
        · by_cases c2 : k < m - i + j
          · rw [if_neg (by omega), if_neg (by omega), if_pos (by omega), if_pos (by omega)]; congr 1; omega
          · by_cases c3 : k < m - (i - j) + j
            · rw [if_pos (by omega), if_neg (by omega)]
              by_cases c4 : k + (i - j) < m
              · omega
              · rw [if_pos (by omega), if_neg (by omega), if_pos (by omega)]; congr 1; omega
            · by_cases c5 : k < m + j
              · rw [if_neg (by omega), if_pos (by omega), if_neg (by omega), if_neg (by omega), if_neg (by omega), if_pos (by omega)]
              · rw [if_neg (by omega), if_neg (by omega), if_neg (by omega), if_neg (by omega), if_neg (by omega), if_neg (by omega)]
      · rw [if_neg e2, rot_eq' m g _ _ _ _ h1 h2 (by omega) (by omega)]
        rw [swR_eq _ _ _ _ _ _ (by omega), swR_eq _ _ _ _ _ _ (by omega), swR_eq _ _ _ _ _ _ (by omega)]
        by_cases c1 : k < m - i
        · rw [if_neg (by omega), if_neg (by omega), if_neg (by omega), if_neg (by omega), if_neg (by omega), if_neg (by omega)]
        · by_cases c2 : k < m - i + (j - i)
          · rw [if_pos (by omega), if_neg (by omega), if_neg (by omega), if_pos (by omega)]
          · by_cases c3 : k < m + (j - i)
            · rw [if_neg (by omega), if_pos (by omega), if_pos (by omega), if_pos (by omega)]; congr 1; omega
            · by_cases c4 : k < m + j
              · rw [if_neg (by omega), if_neg (by omega), if_neg (by omega), if_pos (by omega), if_neg (by omega), if_pos (by omega)]; congr 1; omega
              · rw [if_neg (by omega), if_neg (by omega), if_neg (by omega), if_neg (by omega), if_neg (by omega), if_neg (by omega)]
end
end Go.Proofs.Ytgmcjkiofcpjbaa.L10
