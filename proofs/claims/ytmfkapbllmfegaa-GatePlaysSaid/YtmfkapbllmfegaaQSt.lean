/- Texts laid together: Q14, Q15, Q16, Q17. -/
import Derived.Test.YtmfkapbllmfegaaQ12
/- Sorting, plain: a row of places that is sorted but for its last comes out in its row. -/
namespace Go.Proofs.Ytmfkapbllmfegaa.L10
set_option maxRecDepth 100000

/-! ### Whatever the elements are -/
section
variable {α β : Type} (f : α → β)
theorem nat_sw (i j : Nat) (p : Nat → α) : sw i j (fun k => f (p k)) = fun k => f (sw i j p k) := by
  funext k; unfold sw; split
  · rfl
  · split <;> rfl
variable {lt : β → β → Bool} {lt' : α → α → Bool} (hlt : ∀ x y, lt' x y = lt (f x) (f y))
include hlt
theorem nat_insIn (a : Nat) : ∀ (j : Nat) (p : Nat → α), insIn lt a j (fun k => f (p k)) = fun k => f (insIn lt' a j p k)
  | 0, p => rfl
  | j + 1, p => by
    rw [insIn, insIn, hlt]
    split
    · rw [nat_sw, nat_insIn a j]
    · rfl
theorem nat_insOut (a : Nat) : ∀ (n i : Nat) (p : Nat → α), insOut lt a n i (fun k => f (p k)) = fun k => f (insOut lt' a n i p k)
  | 0, _, p => rfl
  | n + 1, i, p => by rw [insOut, insOut, nat_insIn f hlt, nat_insOut a n]
theorem nat_insS (a b : Nat) (p : Nat → α) : insS lt a b (fun k => f (p k)) = fun k => f (insS lt' a b p k) := nat_insOut f hlt _ _ _ _
omit hlt in
theorem nat_swR (a b : Nat) : ∀ (t i : Nat) (p : Nat → α), swR a b t i (fun k => f (p k)) = fun k => f (swR a b t i p k)
  | 0, _, p => rfl
  | t + 1, i, p => by rw [swR, swR, nat_sw, nat_swR a b t]
omit hlt in
theorem nat_rot (m : Nat) : ∀ (g i j : Nat) (p : Nat → α), rot m g i j (fun k => f (p k)) = fun k => f (rot m g i j p k)
  | 0, _, _, p => rfl
  | g + 1, i, j, p => by
    rw [rot, rot]
    split
    · rw [nat_swR]
    · split
      · rw [nat_swR, nat_rot m g]
      · rw [nat_swR, nat_rot m g]
omit hlt in
theorem nat_up : ∀ (t k : Nat) (p : Nat → α), up t k (fun k => f (p k)) = fun i => f (up t k p i)
  | 0, _, p => rfl
  | t + 1, k, p => by rw [up, up, nat_sw, nat_up t]
omit hlt in
theorem nat_dn : ∀ (t k : Nat) (p : Nat → α), dn t k (fun k => f (p k)) = fun i => f (dn t k p i)
  | 0, _, p => rfl
  | t + 1, k, p => by rw [dn, dn, nat_sw, nat_dn t]
omit hlt in
theorem nat_tI {c : Prop} [Decidable c] {F : (Nat → β) → (Nat → β)} {F' : (Nat → α) → (Nat → α)} (h : ∀ p, F (fun k => f (p k)) = fun k => f (F' p k)) (p : Nat → α) : tI c F (fun k => f (p k)) = fun k => f (tI c F' p k) := by
  unfold tI; split
  · exact h p
  · rfl
theorem nat_symM : ∀ (g a m b : Nat) (p : Nat → α), symM lt g a m b (fun k => f (p k)) = fun k => f (symM lt' g a m b p k)
  | 0, _, _, _, p => rfl
  | g + 1, a, m, b, p => by
    rw [symM, symM]
    split
    · unfold sym1; simp only [← hlt]; rw [nat_up]
    · split
      · unfold sym2; simp only [← hlt]; rw [nat_dn]
      · simp only [← hlt]
        unfold symT rota
        rw [nat_tI f (fun p => nat_rot f _ _ _ _ p), nat_tI f (fun p => nat_symM g _ _ _ p), nat_tI f (fun p => nat_symM g _ _ _ p)]
theorem nat_stab (n : Nat) (p : Nat → α) : stab lt n (fun k => f (p k)) = fun k => f (stab lt' n p k) := by
  unfold stab
  split
  · rw [nat_insS f hlt]
  · split
    · rw [nat_insS f hlt, nat_insS f hlt]
    · rw [nat_insS f hlt, nat_insS f hlt, nat_symM f hlt]
end

/-! ### What the moves do -/
section
variable {α : Type}
theorem up_eq : ∀ (t a : Nat) (s : Nat → α) (k : Nat), up t a s k = if a ≤ k ∧ k < a + t then s (k + 1) else if k = a + t then s a else s k
  | 0, a, s, k => by
    rw [up, if_neg (by omega)]
    split
    · next h => rw [h]; rfl
    · rfl
  | t + 1, a, s, k => by
    rw [up, up_eq t]
    unfold sw
    rcases Nat.lt_trichotomy k a with h | h | h
    · rw [if_neg (by omega), if_neg (by omega), if_neg (by omega), if_neg (by omega), if_neg (by omega), if_neg (by omega)]
    · subst h
      rw [if_neg (by omega), if_neg (by omega), if_pos rfl, if_pos (by omega)]
    · by_cases h1 : k < a + 1 + t
      · rw [if_pos (by omega), if_neg (by omega), if_neg (by omega), if_pos (by omega)]
      · by_cases h2 : k = a + 1 + t
        · rw [if_neg (by omega), if_pos h2, if_neg (by omega), if_pos rfl, if_neg (by omega), if_pos (by omega)]
        · rw [if_neg (by omega), if_neg h2, if_neg (by omega), if_neg (by omega), if_neg (by omega), if_neg (by omega)]
theorem dn_eq : ∀ (t m : Nat) (s : Nat → α) (k : Nat), t ≤ m → dn t m s k = if k + t = m then s m else if m < k + t ∧ k ≤ m then s (k - 1) else s k
  | 0, m, s, k, _ => by
    rw [dn]
    split
    · next h => rw [← h]; rfl
    · rw [if_neg (by omega)]
  | t + 1, m, s, k, h => by
    rw [dn, dn_eq t _ _ _ (by omega)]
    unfold sw
    by_cases h1 : k + (t + 1) = m
    · rw [if_pos (by omega), if_pos h1, if_neg (by omega), if_pos rfl]
    · rw [if_neg (by omega), if_neg h1]
      by_cases h2 : m < k + (t + 1) ∧ k ≤ m
      · rw [if_pos h2]
        by_cases h3 : k = m
        · rw [if_neg (by omega), if_pos h3, h3]
        · rw [if_pos (by omega), if_neg (by omega), if_neg (by omega)]
      · rw [if_neg h2, if_neg (by omega), if_neg (by omega), if_neg (by omega)]
theorem swR_eq (a b : Nat) : ∀ (t i : Nat) (s : Nat → α) (k : Nat), a + i + t ≤ b + i → swR a b t i s k = if a + i ≤ k ∧ k < a + i + t then s (k + b - a) else if b + i ≤ k ∧ k < b + i + t then s (k + a - b) else s k
  | 0, i, s, k, _ => by rw [swR, if_neg (by omega), if_neg (by omega)]
  | t + 1, i, s, k, h => by
    rw [swR, swR_eq a b t _ _ _ (by omega)]
    unfold sw
    by_cases h1 : k = a + i
    · rw [if_neg (by omega), if_neg (by omega), if_pos h1, if_pos (by omega)]; congr 1; omega
    · by_cases h2 : k = b + i
      · rw [if_neg (by omega), if_neg (by omega), if_neg (by omega), if_pos h2, if_neg (by omega), if_pos (by omega)]; congr 1; omega
      · by_cases h3 : a + i ≤ k ∧ k < a + i + (t + 1)
        · rw [if_pos (by omega), if_neg (by omega), if_neg (by omega), if_pos h3]
        · by_cases h4 : b + i ≤ k ∧ k < b + i + (t + 1)
          · rw [if_neg (by omega), if_pos (by omega), if_neg (by omega), if_neg (by omega), if_neg h3, if_pos h4]
          · rw [if_neg (by omega), if_neg (by omega), if_neg h1, if_neg h2, if_neg h3, if_neg h4]
theorem rot_eq' (m : Nat) : ∀ (g i j : Nat) (s : Nat → α) (k : Nat), 1 ≤ i → i ≤ m → 1 ≤ j → i + j ≤ g → rot m g i j s k = if m - i ≤ k ∧ k < m - i + j then s (k + i) else if m - i + j ≤ k ∧ k < m + j then s (k - j) else s k
  | 0, i, j, s, k, h1, h2, h3, h4 => absurd h4 (by omega)
  | g + 1, i, j, s, k, h1, h2, h3, h4 => by
    rw [rot]
    by_cases e1 : i = j
    · rw [if_pos e1, swR_eq _ _ _ _ _ _ (by omega)]
      subst e1
      by_cases c1 : m - i ≤ k ∧ k < m
      · rw [if_pos (by omega), if_pos (by omega)]; congr 1; omega
      · by_cases c2 : m ≤ k ∧ k < m + i
        · rw [if_neg (by omega), if_pos (by omega), if_neg (by omega), if_pos (by omega)]; congr 1; omega
        · rw [if_neg (by omega), if_neg (by omega), if_neg (by omega), if_neg (by omega)]
    · rw [if_neg e1]
      by_cases e2 : j < i
      · rw [if_pos e2, rot_eq' m g _ _ _ _ (by omega) (by omega) h3 (by omega)]
        rw [swR_eq _ _ _ _ _ _ (by omega), swR_eq _ _ _ _ _ _ (by omega), swR_eq _ _ _ _ _ _ (by omega)]
        by_cases c1 : k < m - i
        · rw [if_neg (by omega), if_neg (by omega), if_neg (by omega), if_neg (by omega), if_neg (by omega), if_neg (by omega)]
        · by_cases c2 : k < m - i + j
          · rw [if_neg (by omega), if_neg (by omega), if_pos (by omega), if_pos (by omega)]; congr 1; omega
          · by_cases c3 : k < m - (i - j) + j
            · rw [if_pos (by omega), if_neg (by omega)]
              by_cases c4 : k + (i - j) < m
              · omega
              · rw [if_pos (by omega), if_neg (by omega), if_pos (by omega)]; congr 1; omega
            · by_cases c5 : k < m + j
              · rw [if_neg (by omega), if_pos (by omega), if_neg (by omega), if_neg (by omega), if_neg (by omega), if_pos (by omega)]
              · rw [if_neg (by omega), if_neg (by omega), if_neg (by omega), if_neg (by omega), if_neg (by omega), if_neg (by omega)]
      · rw [if_neg e2, rot_eq' m g _ _ _ _ h1 h2 (by omega) (by omega)]
        rw [swR_eq _ _ _ _ _ _ (by omega), swR_eq _ _ _ _ _ _ (by omega), swR_eq _ _ _ _ _ _ (by omega)]
        by_cases c1 : k < m - i
        · rw [if_neg (by omega), if_neg (by omega), if_neg (by omega), if_neg (by omega), if_neg (by omega), if_neg (by omega)]
        · by_cases c2 : k < m - i + (j - i)
          · rw [if_pos (by omega), if_neg (by omega), if_neg (by omega), if_pos (by omega)]
          · by_cases c3 : k < m + (j - i)
            · rw [if_neg (by omega), if_pos (by omega), if_pos (by omega), if_pos (by omega)]; congr 1; omega
            · by_cases c4 : k < m + j
              · rw [if_neg (by omega), if_neg (by omega), if_neg (by omega), if_pos (by omega), if_neg (by omega), if_pos (by omega)]; congr 1; omega
              · rw [if_neg (by omega), if_neg (by omega), if_neg (by omega), if_neg (by omega), if_neg (by omega), if_neg (by omega)]
end
end Go.Proofs.Ytmfkapbllmfegaa.L10
/- Sorting, plain: two rows that are sorted, merged. -/
namespace Go.Proofs.Ytmfkapbllmfegaa.L10
set_option maxRecDepth 100000

theorem bsA_ok (P : Nat → Bool) : ∀ (f i j : Nat), j - i ≤ f → (∀ x y, i ≤ x → x ≤ y → y < j → P y = true → P x = true) → (∀ h, i ≤ h → h < bsA P f i j → P h = true) ∧ (∀ h, bsA P f i j ≤ h → h < j → P h = false)
  | 0, i, j, h1, _ => ⟨fun h a b => absurd b (by simp only [bsA]; omega), fun h a b => absurd b (by simp only [bsA] at a; omega)⟩
  | f + 1, i, j, h1, h2 => by
    by_cases hl : i < j
    · obtain ⟨h, hh⟩ : ∃ h, (i + j) / 2 = h := ⟨_, rfl⟩
      cases hp : P h with
      | true =>
        rw [bsA_yes hl hh hp]
        obtain ⟨r1, r2⟩ := bsA_ok P f (h + 1) j (by omega) (fun x y a b c d => h2 x y (by omega) b c d)
        refine ⟨fun x a b => ?_, r2⟩
        by_cases hx : x ≤ h
        · exact h2 x h a hx (by omega) hp
        · exact r1 x (by omega) b
      | false =>
        rw [bsA_no hl hh hp]
        obtain ⟨r1, r2⟩ := bsA_ok P f i h (by omega) (fun x y a b c d => h2 x y a b (by omega) d)
        refine ⟨r1, fun x a b => ?_⟩
        by_cases hx : x < h
        · exact r2 x a hx
        · cases hp2 : P x with
          | false => rfl
          | true => rw [h2 h x (by omega) (by omega) b hp2] at hp; exact hp
    · rw [bsA_end hl]
      exact ⟨fun h a b => absurd b (by omega), fun h a b => absurd b (by omega)⟩
def Srt (a b : Nat) (p : Nat → Nat) : Prop := ∀ i j, a ≤ i → i < j → j < b → p i < p j
theorem Srt.le {a b : Nat} {p : Nat → Nat} (h : Srt a b p) {i j : Nat} (h1 : a ≤ i) (h2 : i ≤ j) (h3 : j < b) : p i ≤ p j := by
  rcases Nat.lt_or_eq_of_le h2 with h4 | h4
  · exact Nat.le_of_lt (h i j h1 h4 h3)
  · rw [h4]; exact Nat.le_refl _
/-- Nothing out of a to b has changed; what stands there now stood there. -/
def Inn (a b : Nat) (p p' : Nat → Nat) : Prop := (∀ k, ¬ (a ≤ k ∧ k < b) → p' k = p k) ∧ ∀ k, a ≤ k → k < b → ∃ j, a ≤ j ∧ j < b ∧ p' k = p j
theorem Inn.refl (a b : Nat) (p : Nat → Nat) : Inn a b p p := ⟨fun _ _ => rfl, fun k h1 h2 => ⟨k, h1, h2, rfl⟩⟩
theorem Inn.trans {a b : Nat} {p q r : Nat → Nat} (h : Inn a b p q) (k : Inn a b q r) : Inn a b p r :=
  ⟨fun x hx => (k.1 x hx).trans (h.1 x hx), fun x h1 h2 => by
    obtain ⟨j, j1, j2, e⟩ := k.2 x h1 h2
    obtain ⟨i, i1, i2, e2⟩ := h.2 j j1 j2
    exact ⟨i, i1, i2, e.trans e2⟩⟩
theorem Inn.wide {a b a' b' : Nat} {p q : Nat → Nat} (h : Inn a b p q) (ha : a' ≤ a) (hb : b ≤ b') : Inn a' b' p q :=
  ⟨fun x hx => h.1 x (by omega), fun x h1 h2 => by
    by_cases hx : a ≤ x ∧ x < b
    · obtain ⟨j, j1, j2, e⟩ := h.2 x hx.1 hx.2
      exact ⟨j, by omega, by omega, e⟩
    · exact ⟨x, h1, h2, h.1 x hx⟩⟩
section
variable {lt : Nat → Nat → Bool} {Lf : Nat → Prop} (H : ∀ x y, Lf x → ¬ Lf y → lt y x = decide (y < x))
include H
omit H in
theorem ne_lf {x y : Nat} (hx : Lf x) (hy : ¬ Lf y) : x ≠ y := fun e => hy (e ▸ hx)
theorem sym1_ok (a m b : Nat) (p : Nat → Nat) (hm : m = a + 1) (hmb : m < b) (h2 : Srt m b p) (hL : Lf (p a)) (hR : ∀ k, m ≤ k → k < b → ¬ Lf (p k)) : Srt a b (sym1 lt a m b p) ∧ Inn a b p (sym1 lt a m b p) := by
  obtain ⟨r, hr⟩ : ∃ r, bsA (fun h => lt (p h) (p a)) (b - m) m b = r := ⟨_, rfl⟩
  have hb := bsA_bd (fun h => lt (p h) (p a)) (b - m) m b (by omega)
  have ho := bsA_ok (fun h => lt (p h) (p a)) (b - m) m b (by omega) (fun x y h3 h4 h5 h6 => by
    have e1 := H (p a) (p x) hL (hR x (by omega) (by omega))
    have e2 := H (p a) (p y) hL (hR y (by omega) (by omega))
    simp only [e1, e2, decide_eq_true_eq] at h6 ⊢
    have := h2.le h3 h4 h5
    omega)
  rw [hr] at ho hb
  have o1 : ∀ h, m ≤ h → h < r → p h < p a := fun h h3 h4 => by
    have := ho.1 h h3 h4
    simp only [H (p a) (p h) hL (hR h h3 (by omega)), decide_eq_true_eq] at this
    exact this
  have o2 : ∀ h, r ≤ h → h < b → p a < p h := fun h h3 h4 => by
    have := ho.2 h h3 h4
    simp only [H (p a) (p h) hL (hR h (by omega) h4), decide_eq_false_iff_not] at this
    have := ne_lf hL (hR h (by omega) h4)
    omega
  have e : ∀ k, sym1 lt a m b p k = if a ≤ k ∧ k < r - 1 then p (k + 1) else if k = r - 1 then p a else p k := fun k => by
    unfold sym1; rw [hr, up_eq, show a + (r - 1 - a) = r - 1 by omega]
  refine ⟨fun i j h3 h4 h5 => ?_, fun k hk => ?_, fun k h3 h4 => ?_⟩
  · rw [e i, e j]
    by_cases c1 : j < r - 1
    · rw [if_pos (by omega), if_pos (by omega)]; exact h2 _ _ (by omega) (by omega) (by omega)
    · by_cases c2 : j = r - 1
      · rw [if_pos (by omega), if_neg (by omega), if_pos c2]; exact o1 _ (by omega) (by omega)
      · rw [if_neg (show ¬ (a ≤ j ∧ j < r - 1) by omega), if_neg c2]
        by_cases c3 : i < r - 1
        · rw [if_pos (by omega)]; exact h2 _ _ (by omega) (by omega) (by omega)
        · by_cases c4 : i = r - 1
          · rw [if_neg (by omega), if_pos c4]; exact o2 _ (by omega) (by omega)
          · rw [if_neg (by omega), if_neg c4]; exact h2 _ _ (by omega) (by omega) (by omega)
  · rw [e k, if_neg (by omega), if_neg (by omega)]
  · rw [e k]
    by_cases c1 : k < r - 1
    · rw [if_pos (by omega)]; exact ⟨k + 1, by omega, by omega, rfl⟩
    · by_cases c2 : k = r - 1
      · rw [if_neg (by omega), if_pos c2]; exact ⟨a, by omega, by omega, rfl⟩
      · rw [if_neg (by omega), if_neg c2]; exact ⟨k, by omega, by omega, rfl⟩
theorem sym2_ok (a m b : Nat) (p : Nat → Nat) (hma : a < m) (hm : b = m + 1) (h2 : Srt a m p) (hL : ∀ k, a ≤ k → k < m → Lf (p k)) (hR : ¬ Lf (p m)) : Srt a b (sym2 lt a m b p) ∧ Inn a b p (sym2 lt a m b p) := by
  obtain ⟨r, hr⟩ : ∃ r, bsA (fun h => !lt (p m) (p h)) (m - a) a m = r := ⟨_, rfl⟩
  have hb := bsA_bd (fun h => !lt (p m) (p h)) (m - a) a m (by omega)
  have ho := bsA_ok (fun h => !lt (p m) (p h)) (m - a) a m (by omega) (fun x y h3 h4 h5 h6 => by
    have e1 := H (p x) (p m) (hL x (by omega) (by omega)) hR
    have e2 := H (p y) (p m) (hL y (by omega) (by omega)) hR
    simp only [e1, e2, Bool.not_eq_true', decide_eq_false_iff_not] at h6 ⊢
    have := h2.le h3 h4 h5
    omega)
  rw [hr] at ho hb
  have o1 : ∀ h, a ≤ h → h < r → p h < p m := fun h h3 h4 => by
    have := ho.1 h h3 h4
    simp only [H (p h) (p m) (hL h h3 (by omega)) hR, Bool.not_eq_true', decide_eq_false_iff_not] at this
    have := ne_lf (hL h h3 (by omega)) hR
    omega
  have o2 : ∀ h, r ≤ h → h < m → p m < p h := fun h h3 h4 => by
    have := ho.2 h h3 h4
    simp only [H (p h) (p m) (hL h (by omega) h4) hR, Bool.not_eq_false', decide_eq_true_eq] at this
    exact this
  have e : ∀ k, sym2 lt a m b p k = if k = r then p m else if r < k ∧ k ≤ m then p (k - 1) else p k := fun k => by
    unfold sym2; rw [hr, dn_eq _ _ _ _ (by omega)]
    by_cases c1 : k = r
    · rw [if_pos (by omega), if_pos c1]
    · rw [if_neg (by omega), if_neg c1]
      by_cases c2 : r < k ∧ k ≤ m
      · rw [if_pos (by omega), if_pos c2]
      · rw [if_neg (by omega), if_neg c2]
  refine ⟨fun i j h3 h4 h5 => ?_, fun k hk => ?_, fun k h3 h4 => ?_⟩
  · rw [e i, e j]
    by_cases c1 : i < r
    · rw [if_neg (by omega), if_neg (by omega)]
      by_cases c2 : j < r
      · rw [if_neg (by omega), if_neg (by omega)]; exact h2 _ _ (by omega) (by omega) (by omega)
      · by_cases c3 : j = r
        · rw [if_pos c3]; exact o1 _ (by omega) (by omega)
        · rw [if_neg c3, if_pos (by omega)]; exact h2 _ _ (by omega) (by omega) (by omega)
    · by_cases c2 : i = r
      · rw [if_pos c2, if_neg (by omega), if_pos (by omega)]; exact o2 _ (by omega) (by omega)
      · rw [if_neg c2, if_pos (by omega), if_neg (by omega), if_pos (by omega)]; exact h2 _ _ (by omega) (by omega) (by omega)
  · rw [e k, if_neg (by omega), if_neg (by omega)]
  · rw [e k]
    by_cases c1 : k = r
    · rw [if_pos c1]; exact ⟨m, by omega, by omega, rfl⟩
    · rw [if_neg c1]
      by_cases c2 : r < k ∧ k ≤ m
      · rw [if_pos c2]; exact ⟨k - 1, by omega, by omega, rfl⟩
      · rw [if_neg c2]; exact ⟨k, by omega, by omega, rfl⟩
end
end Go.Proofs.Ytmfkapbllmfegaa.L10
/- Sorting, plain: symMerge merges. -/
namespace Go.Proofs.Ytmfkapbllmfegaa.L10
set_option maxRecDepth 100000
section
variable {lt : Nat → Nat → Bool} {Lf : Nat → Prop} (H : ∀ x y, Lf x → ¬ Lf y → lt y x = decide (y < x))
include H
omit H in
/-- Behind the search: what lies where. -/
theorem symT_ok {f : Nat} (ih : ∀ (a m b : Nat) (p : Nat → Nat), a < m → m < b → b - a ≤ f → Srt a m p → Srt m b p → (∀ k, a ≤ k → k < m → Lf (p k)) → (∀ k, m ≤ k → k < b → ¬ Lf (p k)) → Srt a b (symM lt f a m b p) ∧ Inn a b p (symM lt f a m b p))
    (a m b mid st en : Nat) (p : Nat → Nat) (ha : a ≤ st) (h1 : st ≤ m) (h2 : st ≤ mid) (h3 : m ≤ en) (h4 : en ≤ b) (h5 : mid ≤ en) (h6 : mid < b) (h7 : a < mid) (h8 : en + st = mid + m) (hf : b - a ≤ f + 1) (hL : Srt a m p) (hR : Srt m b p)
    (lL : ∀ k, a ≤ k → k < m → Lf (p k)) (lR : ∀ k, m ≤ k → k < b → ¬ Lf (p k)) (c1 : ∀ i j, a ≤ i → i < st → en ≤ j → j < b → p i < p j) (c2 : ∀ i j, m ≤ i → i < en → st ≤ j → j < m → p i < p j) :
    Srt a b (symT (symM lt f) a m b mid st en p) ∧ Inn a b p (symT (symM lt f) a m b mid st en p) := by
  unfold symT
  obtain ⟨q, hq⟩ : ∃ q, tI (st < m ∧ m < en) (rota st m en) p = q := ⟨_, rfl⟩
  have e : ∀ k, q k = if st ≤ k ∧ k < mid then p (k + (m - st)) else if mid ≤ k ∧ k < en then p (k - (en - m)) else p k := fun k => by
    rw [← hq]
    by_cases hc : st < m ∧ m < en
    · rw [tI_pos hc]; unfold rota
      rw [rot_eq' _ _ _ _ _ _ (by omega) (by omega) (by omega) (by omega)]
      by_cases d1 : st ≤ k ∧ k < mid
      · rw [if_pos (by omega), if_pos d1]
      · by_cases d2 : mid ≤ k ∧ k < en
        · rw [if_neg (by omega), if_pos (by omega), if_neg d1, if_pos d2]
        · rw [if_neg (by omega), if_neg (by omega), if_neg d1, if_neg d2]
    · rw [tI_neg hc]
      by_cases d1 : st ≤ k ∧ k < mid
      · rw [if_pos d1]; congr 1; omega
      · rw [if_neg d1]
        by_cases d2 : mid ≤ k ∧ k < en
        · rw [if_pos d2]; congr 1; omega
        · rw [if_neg d2]
  rw [hq]
  have q1 : ∀ k, a ≤ k → k < st → q k = p k := fun k x y => by rw [e, if_neg (by omega), if_neg (by omega)]
  have q2 : ∀ k, st ≤ k → k < mid → q k = p (k + (m - st)) := fun k x y => by rw [e, if_pos ⟨x, y⟩]
  have q3 : ∀ k, mid ≤ k → k < en → q k = p (k - (en - m)) := fun k x y => by rw [e, if_neg (by omega), if_pos ⟨x, y⟩]
  have q4 : ∀ k, en ≤ k → k < b → q k = p k := fun k x y => by rw [e, if_neg (by omega), if_neg (by omega)]
  have iq : Inn a b p q := ⟨fun k hk => by rw [e, if_neg (by omega), if_neg (by omega)], fun k x y => by
    by_cases d1 : k < st
    · exact ⟨k, x, y, q1 k x d1⟩
    · by_cases d2 : k < mid
      · exact ⟨_, by omega, by omega, q2 k (by omega) d2⟩
      · by_cases d3 : k < en
        · exact ⟨_, by omega, by omega, q3 k (by omega) d3⟩
        · exact ⟨k, x, y, q4 k (by omega) y⟩⟩
  have S1 : Srt a st q := fun i j x y z => by rw [q1 i x (by omega), q1 j (by omega) z]; exact hL i j x y (by omega)
  have S2 : Srt st mid q := fun i j x y z => by rw [q2 i x (by omega), q2 j (by omega) z]; exact hR _ _ (by omega) (by omega) (by omega)
  have S3 : Srt mid en q := fun i j x y z => by rw [q3 i x (by omega), q3 j (by omega) z]; exact hL _ _ (by omega) (by omega) (by omega)
  have S4 : Srt en b q := fun i j x y z => by rw [q4 i x (by omega), q4 j (by omega) z]; exact hR i j (by omega) y z
  obtain ⟨u, hu⟩ : ∃ u, tI (a < st ∧ st < mid) (symM lt f a st mid) q = u := ⟨_, rfl⟩
  have hA : Srt a mid u ∧ Inn a mid q u := by
    rw [← hu]
    by_cases hc : a < st ∧ st < mid
    · rw [tI_pos hc]
      exact ih a st mid q hc.1 hc.2 (by omega) S1 S2 (fun k x y => by rw [q1 k x y]; exact lL k x (by omega)) (fun k x y => by rw [q2 k x y]; exact lR _ (by omega) (by omega))
    · rw [tI_neg hc]
      refine ⟨?_, Inn.refl _ _ _⟩
      by_cases d : st = a
      · subst d; exact S2
      · have d2 : st = mid := by omega
        rw [d2] at S1; exact S1
  rw [hu]
  have u4 : ∀ k, mid ≤ k → u k = q k := fun k x => hA.2.1 k (by omega)
  have hB : Srt mid b (tI (mid < en ∧ en < b) (symM lt f mid en b) u) ∧ Inn mid b u (tI (mid < en ∧ en < b) (symM lt f mid en b) u) := by
    have T3 : Srt mid en u := fun i j x y z => by rw [u4 i x, u4 j (by omega)]; exact S3 i j x y z
    have T4 : Srt en b u := fun i j x y z => by rw [u4 i (by omega), u4 j (by omega)]; exact S4 i j x y z
    by_cases hc : mid < en ∧ en < b
    · rw [tI_pos hc]
      exact ih mid en b u hc.1 hc.2 (by omega) T3 T4 (fun k x y => by rw [u4 k x, q3 k x y]; exact lL _ (by omega) (by omega)) (fun k x y => by rw [u4 k (by omega), q4 k x y]; exact lR k (by omega) y)
    · rw [tI_neg hc]
      refine ⟨?_, Inn.refl _ _ _⟩
      by_cases d : en = mid
      · rw [d] at T4; exact T4
      · have d2 : en = b := by omega
        rw [d2] at T3; exact T3
  generalize tI (mid < en ∧ en < b) (symM lt f mid en b) u = v at *
  have X : ∀ i j, a ≤ i → i < mid → mid ≤ j → j < b → q i < q j := fun i j x1 x2 x3 x4 => by
    by_cases d1 : i < st
    · rw [q1 i x1 d1]
      by_cases d2 : j < en
      · rw [q3 j x3 d2]; exact hL _ _ x1 (by omega) (by omega)
      · rw [q4 j (by omega) x4]; exact c1 i j x1 d1 (by omega) x4
    · rw [q2 i (by omega) x2]
      by_cases d2 : j < en
      · rw [q3 j x3 d2]; exact c2 _ _ (by omega) (by omega) (by omega) (by omega)
      · rw [q4 j (by omega) x4]; exact hR _ _ (by omega) (by omega) x4
  refine ⟨fun i j x1 x2 x3 => ?_, iq.trans ((hA.2.wide (Nat.le_refl _) (Nat.le_of_lt h6)).trans (hB.2.wide (Nat.le_of_lt h7) (Nat.le_refl _)))⟩
  by_cases d1 : j < mid
  · rw [hB.2.1 i (by omega), hB.2.1 j (by omega)]; exact hA.1 i j x1 x2 d1
  · by_cases d2 : mid ≤ i
    · exact hB.1 i j d2 x2 x3
    · rw [hB.2.1 i (by omega)]
      obtain ⟨i', y1, y2, e1⟩ := hA.2.2 i x1 (by omega)
      obtain ⟨j', z1, z2, e2⟩ := hB.2.2 j (by omega) x3
      rw [e1, e2, u4 j' z1]
      exact X i' j' y1 y2 z1 z2
theorem symM_ok : ∀ (f a m b : Nat) (p : Nat → Nat), a < m → m < b → b - a ≤ f → Srt a m p → Srt m b p → (∀ k, a ≤ k → k < m → Lf (p k)) → (∀ k, m ≤ k → k < b → ¬ Lf (p k)) → Srt a b (symM lt f a m b p) ∧ Inn a b p (symM lt f a m b p)
  | 0, a, m, b, p, h1, h2, h3, _, _, _, _ => absurd h3 (by omega)
  | f + 1, a, m, b, p, h1, h2, h3, hL, hR, lL, lR => by
    by_cases e1 : m = a + 1
    · rw [symM, if_pos e1]
      exact sym1_ok H a m b p e1 h2 hR (lL a (Nat.le_refl _) h1) lR
    · by_cases e2 : b = m + 1
      · rw [symM, if_neg e1, if_pos e2]
        exact sym2_ok H a m b p h1 e2 hL lL (lR m (Nat.le_refl _) h2)
      · obtain ⟨mid, hmid⟩ : ∃ mid, (a + b) / 2 = mid := ⟨_, rfl⟩
        obtain ⟨st0, hst0⟩ : ∃ st0, (if mid < m then mid + m - b else a) = st0 := ⟨_, rfl⟩
        obtain ⟨r0, hr0⟩ : ∃ r0, (if mid < m then mid else m) = r0 := ⟨_, rfl⟩
        obtain ⟨pp, hpp⟩ : ∃ pp, mid + m - 1 = pp := ⟨_, rfl⟩
        obtain ⟨st, hst⟩ : ∃ st, bsA (fun c => !lt (p (pp - c)) (p c)) (r0 - st0) st0 r0 = st := ⟨_, rfl⟩
        obtain ⟨en, hen⟩ : ∃ en, mid + m - st = en := ⟨_, rfl⟩
        rw [symM_3 e1 e2 hmid hst0 hr0 hpp hst hen]
        have hc : (mid < m ∧ st0 = mid + m - b ∧ r0 = mid) ∨ (¬ mid < m ∧ st0 = a ∧ r0 = m) := by
          by_cases hm : mid < m
          · rw [if_pos hm] at hst0 hr0; exact .inl ⟨hm, hst0.symm, hr0.symm⟩
          · rw [if_neg hm] at hst0 hr0; exact .inr ⟨hm, hst0.symm, hr0.symm⟩
        clear hst0 hr0
        have hr : ∀ c, st0 ≤ c → c < r0 → a ≤ c ∧ c < m ∧ m ≤ pp - c ∧ pp - c < b ∧ c ≤ pp := fun c x y => by omega
        have hbd := bsA_bd (fun c => !lt (p (pp - c)) (p c)) (r0 - st0) st0 r0 (by omega)
        have ho := bsA_ok (fun c => !lt (p (pp - c)) (p c)) (r0 - st0) st0 r0 (by omega) (fun x y x1 x2 x3 x4 => by
          obtain ⟨a1, a2, a3, a4, a5⟩ := hr x x1 (by omega)
          obtain ⟨b1, b2, b3, b4, b5⟩ := hr y (by omega) x3
          simp only [H _ _ (lL x a1 a2) (lR (pp - x) a3 a4), H _ _ (lL y b1 b2) (lR (pp - y) b3 b4), Bool.not_eq_true', decide_eq_false_iff_not] at x4 ⊢
          have := hL.le a1 x2 b2
          have := hR.le b3 (show pp - y ≤ pp - x by omega) a4
          omega)
        rw [hst] at hbd ho
        have o1 : ∀ c, st0 ≤ c → c < st → p c < p (pp - c) := fun c x y => by
          obtain ⟨a1, a2, a3, a4, a5⟩ := hr c x (by omega)
          have := ho.1 c x y
          simp only [H _ _ (lL c a1 a2) (lR (pp - c) a3 a4), Bool.not_eq_true', decide_eq_false_iff_not] at this
          have := ne_lf (lL c a1 a2) (lR (pp - c) a3 a4)
          omega
        have o2 : ∀ c, st ≤ c → c < r0 → p (pp - c) < p c := fun c x y => by
          obtain ⟨a1, a2, a3, a4, a5⟩ := hr c (by omega) y
          have := ho.2 c x y
          simp only [H _ _ (lL c a1 a2) (lR (pp - c) a3 a4), Bool.not_eq_false', decide_eq_true_eq] at this
          exact this
        refine symT_ok (symM_ok f) a m b mid st en p (by omega) (by omega) (by omega) (by omega) (by omega) (by omega) (by omega) (by omega) (by omega) h3 hL hR lL lR (fun i j x1 x2 x3 x4 => ?_) (fun i j x1 x2 x3 x4 => ?_)
        · have y1 : st0 < st := by omega
          have z1 := o1 (st - 1) (by omega) (by omega)
          have z2 := hL.le x1 (show i ≤ st - 1 by omega) (by omega)
          have z3 := hR.le (show m ≤ pp - (st - 1) by omega) (show pp - (st - 1) ≤ j by omega) x4
          omega
        · have y1 : st < r0 := by omega
          have z1 := o2 st (Nat.le_refl _) y1
          have z2 := hL.le (show a ≤ st by omega) x3 x4
          have z3 := hR.le x1 (show i ≤ pp - st by omega) (by omega)
          omega
end
end Go.Proofs.Ytmfkapbllmfegaa.L10
/- Sorting, plain: what is put behind a sorted row stands in its place, sorted. -/
namespace Go.Proofs.Ytmfkapbllmfegaa.L10
set_option maxRecDepth 100000
section
variable {α : Type} {lt : α → α → Bool}
/-- The n-th goes to pos, those from pos on one further. -/
def shf (pos n : Nat) (s : Nat → α) : Nat → α := fun k => if k < pos then s k else if k = pos then s n else if k ≤ n then s (k - 1) else s k
theorem shf_self (n : Nat) (s : Nat → α) : shf n n s = s := by
  funext k; unfold shf
  by_cases h1 : k < n
  · rw [if_pos h1]
  · rw [if_neg h1]
    by_cases h2 : k = n
    · rw [if_pos h2, h2]
    · rw [if_neg h2, if_neg (by omega)]
theorem insIn_shf {a pos n : Nat} {s : Nat → α} (h1 : ∀ k, pos ≤ k → k < n → lt (s n) (s k) = true) (h2 : pos = a ∨ lt (s n) (s (pos - 1)) = false) (ha : a ≤ pos) : ∀ (t : Nat), pos + t ≤ n → insIn lt a (pos + t) (shf (pos + t) n s) = shf pos n s
  | 0, h => by
    rcases h2 with h2 | h2
    · rw [Nat.add_zero, insIn_end (by omega)]
    · by_cases hp : pos = 0
      · rw [Nat.add_zero, insIn_end (by omega)]
      · obtain ⟨q, rfl⟩ : ∃ q, pos = q + 1 := ⟨pos - 1, by omega⟩
        rw [Nat.add_zero]
        refine insIn_no ?_
        have e1 : shf (q + 1) n s (q + 1) = s n := by unfold shf; rw [if_neg (by omega), if_pos rfl]
        have e2 : shf (q + 1) n s q = s q := by unfold shf; rw [if_pos (by omega)]
        rw [e1, e2]; exact h2
  | t + 1, h => by
    have e1 : shf (pos + t + 1) n s (pos + t + 1) = s n := by unfold shf; rw [if_neg (by omega), if_pos rfl]
    have e2 : shf (pos + t + 1) n s (pos + t) = s (pos + t) := by unfold shf; rw [if_pos (by omega)]
    rw [show pos + (t + 1) = pos + t + 1 by omega, insIn_go (by omega) (by rw [e1, e2]; exact h1 _ (by omega) (by omega))]
    have e3 : sw (pos + t + 1) (pos + t) (shf (pos + t + 1) n s) = shf (pos + t) n s := by
      funext k; unfold sw
      by_cases c1 : k = pos + t + 1
      · rw [if_pos c1, e2]; unfold shf; rw [if_neg (by omega), if_neg (by omega), if_pos (by omega)]; congr 1; omega
      · rw [if_neg c1]
        by_cases c2 : k = pos + t
        · rw [if_pos c2, e1]; unfold shf; rw [if_neg (by omega), if_pos c2]
        · rw [if_neg c2]; unfold shf
          by_cases c3 : k < pos + t
          · rw [if_pos (by omega), if_pos c3]
          · rw [if_neg (by omega), if_neg c1, if_neg c3, if_neg c2]
    rw [e3]
    exact insIn_shf h1 h2 ha t (by omega)
theorem insOut_id {a : Nat} {s : Nat → α} : ∀ (t i : Nat), (∀ k, i ≤ k → k < i + t → lt (s k) (s (k - 1)) = false) → a + 1 ≤ i → insOut lt a t i s = s
  | 0, _, _, _ => rfl
  | t + 1, i, h, hi => by
    obtain ⟨j, rfl⟩ : ∃ j, i = j + 1 := ⟨i - 1, by omega⟩
    have hj := h (j + 1) (Nat.le_refl _) (by omega)
    rw [Nat.add_sub_cancel] at hj
    rw [insOut, insIn_no hj]
    exact insOut_id t _ (fun k h1 h2 => h k (by omega) (by omega)) (by omega)
theorem insOut_add {a : Nat} : ∀ (t u i : Nat) (s : Nat → α), insOut lt a (t + u) i s = insOut lt a u (i + t) (insOut lt a t i s)
  | 0, u, i, s => by rw [Nat.zero_add]; rfl
  | t + 1, u, i, s => by
    rw [show t + 1 + u = (t + u) + 1 by omega, insOut, insOut, insOut_add t u, show i + 1 + t = i + (t + 1) by omega]
theorem insS_id {a b : Nat} {s : Nat → α} (h : ∀ k, a + 1 ≤ k → k < b → lt (s k) (s (k - 1)) = false) : insS lt a b s = s :=
  insOut_id _ _ (fun k h1 h2 => h k h1 (by omega)) (Nat.le_refl _)
theorem insS_last {a pos n : Nat} {s : Nat → α} (hs : ∀ k, a + 1 ≤ k → k < n → lt (s k) (s (k - 1)) = false) (ha : a ≤ pos) (hp : pos ≤ n) (h1 : ∀ k, pos ≤ k → k < n → lt (s n) (s k) = true) (h2 : pos = a ∨ lt (s n) (s (pos - 1)) = false) : insS lt a (n + 1) s = shf pos n s := by
  unfold insS
  by_cases hn : n = a
  · have : pos = n := by omega
    subst this
    rw [shf_self, show pos + 1 - (a + 1) = 0 by omega]; rfl
  · rw [show n + 1 - (a + 1) = (n - (a + 1)) + 1 by omega, insOut_add, insOut_id _ _ (fun k h3 h4 => hs k h3 (by omega)) (Nat.le_refl _), show a + 1 + (n - (a + 1)) = n by omega, insOut, insOut]
    have := insIn_shf (lt := lt) (s := s) h1 h2 ha (n - pos) (by omega)
    rw [show pos + (n - pos) = n by omega, shf_self] at this
    exact this
end
theorem srt_id {N : Nat} {p : Nat → Nat} (h : Srt 0 N p) (hb : ∀ k, k < N → p k < N) : ∀ k, k < N → p k = k := by
  have h1 : ∀ k, k < N → k ≤ p k := fun k => by
    induction k with
    | zero => intro _; exact Nat.zero_le _
    | succ k ih => intro hk; have := h k (k + 1) (Nat.zero_le _) (by omega) hk; have := ih (by omega); omega
  have h2 : ∀ t k, k + t + 1 = N → p k + t < N := fun t => by
    induction t with
    | zero => intro k hk; exact hb k (by omega)
    | succ t ih => intro k hk; have := ih (k + 1) (by omega); have := h k (k + 1) (Nat.zero_le _) (by omega) (by omega); omega
  intro k hk
  have a1 := h1 k hk
  have a2 := h2 (N - 1 - k) k (by omega)
  omega
theorem stab_ok {s : Nat → MV} {pos n : Nat} (hn : n < 39) (hp : pos ≤ n) (hs : ∀ i j, i ≤ j → j < n → (s i).ln ≤ (s j).ln) (h1 : ∀ k, k < pos → (s k).ln ≤ (s n).ln) (h2 : ∀ k, pos ≤ k → k < n → (s n).ln < (s k).ln) (h3 : ∀ j k, j ≤ n → n < k → (s j).ln ≤ (s k).ln) :
    ls (n + 1) (stab ltM (n + 1) s) = ls (n + 1) (shf pos n s) := by
  have no : ∀ a k, a + 1 ≤ k → k < n → ltM (s k) (s (k - 1)) = false := fun a k x y => decide_eq_false (by have := hs (k - 1) k (by omega) y; omega)
  have yes : ∀ k, pos ≤ k → k < n → ltM (s n) (s k) = true := fun k x y => decide_eq_true (h2 k x y)
  have nop : ∀ k, k < pos → ltM (s n) (s k) = false := fun k x => decide_eq_false (by have := h1 k x; omega)
  have base : insS ltM 0 (n + 1) s = shf pos n s := insS_last (no 0) (Nat.zero_le _) hp yes (by
    by_cases h : pos = 0
    · exact .inl h
    · exact .inr (nop _ (by omega)))
  by_cases hN : n + 1 < 20
  · rw [stab_lt hN, base]
  · by_cases hN2 : n + 1 = 20
    · rw [stab_20 hN2]
      have e : insS ltM 0 20 s = shf pos n s := by rw [← hN2]; exact base
      rw [e]; rfl
    · rw [stab_gt hN hN2, insS_id (fun k x y => no 0 k x (by omega))]
      rw [insS_last (pos := max pos 20) (no 20) (by omega) (by omega) (fun k x y => yes k (by omega) y) (by
        by_cases h : pos ≤ 20
        · exact .inl (by omega)
        · exact .inr (nop _ (by omega)))]
      obtain ⟨p0, hp0⟩ : ∃ p0 : Nat → Nat, p0 = fun k => if 20 ≤ pos then k else if k < pos then k else if k < 20 then k + 1 else if k = 20 then pos else k := ⟨_, rfl⟩
      have e : shf (max pos 20) n s = fun k => shf pos n s (p0 k) := by
        funext k; rw [hp0]
        by_cases c : 20 ≤ pos
        · simp only [if_pos c]; rw [show max pos 20 = pos by omega]
        · simp only [if_neg c]; rw [show max pos 20 = 20 by omega]
          by_cases c1 : k < pos
          · rw [if_pos c1]; unfold shf; rw [if_pos (by omega), if_pos c1]
          · rw [if_neg c1]
            by_cases c2 : k < 20
            · rw [if_pos c2]; unfold shf; rw [if_pos c2, if_neg (by omega), if_neg (by omega), if_pos (by omega)]; rfl
            · rw [if_neg c2]
              by_cases c3 : k = 20
              · rw [if_pos c3]; unfold shf; rw [if_neg (by omega), if_pos c3, if_neg (by omega), if_pos rfl]
              · rw [if_neg c3]; unfold shf
                by_cases c4 : k ≤ n
                · rw [if_neg (by omega), if_neg (by omega), if_pos c4, if_neg (by omega), if_neg (by omega)]
                · rw [if_neg (by omega), if_neg (by omega), if_neg c4, if_neg (by omega), if_neg (by omega)]
      rw [e]
      have fs : ∀ x y, x < y → x ≤ n → (shf pos n s x).ln ≤ (shf pos n s y).ln := fun x y hxy hx => by
        unfold shf
        by_cases c1 : y < pos
        · rw [if_pos (by omega), if_pos c1]; exact hs x y (by omega) (by omega)
        · rw [if_neg c1]
          by_cases c2 : y = pos
          · rw [if_pos (by omega), if_pos c2]; exact h1 x (by omega)
          · rw [if_neg c2]
            by_cases c3 : y ≤ n
            · rw [if_pos c3]
              by_cases d1 : x < pos
              · rw [if_pos d1]; exact hs _ _ (by omega) (by omega)
              · by_cases d2 : x = pos
                · rw [if_neg d1, if_pos d2]; exact Int.le_of_lt (h2 _ (by omega) (by omega))
                · rw [if_neg d1, if_neg d2, if_pos hx]; exact hs _ _ (by omega) (by omega)
            · rw [if_neg c3]
              by_cases d1 : x < pos
              · rw [if_pos d1]; exact h3 _ _ (by omega) (by omega)
              · by_cases d2 : x = pos
                · rw [if_neg d1, if_pos d2]; exact h3 _ _ (by omega) (by omega)
                · rw [if_neg d1, if_neg d2, if_pos hx]; exact h3 _ _ (by omega) (by omega)
      have fp : shf pos n s pos = s n := by unfold shf; rw [if_neg (by omega), if_pos rfl]
      rw [nat_symM (shf pos n s) (lt := ltM) (lt' := fun x y => ltM (shf pos n s x) (shf pos n s y)) (fun _ _ => rfl)]
      have ok := symM_ok (lt := fun x y => ltM (shf pos n s x) (shf pos n s y)) (Lf := fun x => if 20 ≤ pos then x < 20 else x ≤ 20 ∧ x ≠ pos) (fun x y hx hy => by
        by_cases c : 20 ≤ pos
        · simp only [if_pos c] at hx hy
          rw [decide_eq_false (show ¬ y < x by omega)]
          exact decide_eq_false (by have := fs x y (by omega) (by omega); omega)
        · simp only [if_neg c] at hx hy
          by_cases c1 : y = pos
          · subst c1
            by_cases c2 : y < x
            · rw [decide_eq_true c2]
              refine decide_eq_true ?_
              rw [fp]
              have : shf y n s x = s (x - 1) := by unfold shf; rw [if_neg (by omega), if_neg (by omega), if_pos (by omega)]
              rw [this]; exact h2 _ (by omega) (by omega)
            · rw [decide_eq_false c2]
              exact decide_eq_false (by have := fs x y (by omega) (by omega); omega)
          · rw [decide_eq_false (show ¬ y < x by omega)]
            exact decide_eq_false (by have := fs x y (by omega) (by omega); omega)) (n + 1) 0 20 (n + 1) p0 (by omega) (by omega) (by omega)
        (fun i j x y z => by rw [hp0]; by_cases c : 20 ≤ pos <;> simp only [c, if_true, if_false] <;> (repeat' split) <;> omega)
        (fun i j x y z => by rw [hp0]; by_cases c : 20 ≤ pos <;> simp only [c, if_true, if_false] <;> (repeat' split) <;> omega)
        (fun k x y => by rw [hp0]; by_cases c : 20 ≤ pos <;> simp only [c, if_true, if_false] <;> (repeat' split) <;> omega)
        (fun k x y => by rw [hp0]; by_cases c : 20 ≤ pos <;> simp only [c, if_true, if_false] <;> (repeat' split) <;> omega)
      generalize symM (fun x y => ltM (shf pos n s x) (shf pos n s y)) (n + 1) 0 20 (n + 1) p0 = p1 at ok
      have hid := srt_id ok.1 (fun k hk => by
        obtain ⟨j, j1, j2, ej⟩ := ok.2.2 k (Nat.zero_le _) hk
        rw [ej, hp0]
        by_cases c : 20 ≤ pos <;> simp only [c, if_true, if_false] <;> (repeat' split) <;> omega)
      unfold ls
      refine List.map_congr_left fun k hk => ?_
      rw [hid k (List.mem_range.1 hk)]
end Go.Proofs.Ytmfkapbllmfegaa.L10
