/- Sorting, plain: two rows that are sorted, merged. -/
import Derived.Test.YtgmcjkiofcpjbaaQ14
namespace Go.Proofs.Ytgmcjkiofcpjbaa.L10
set_option maxRecDepth 100000

theorem bsA_ok (P : Nat → Bool) : ∀ (f i j : Nat), j - i ≤ f → (∀ x y, i ≤ x → x ≤ y → y < j → P y = true → P x = true) → (∀ h, i ≤ h → h < bsA P f i j → P h = true) ∧ (∀ h, bsA P f i j ≤ h → h < j → P h = false)
  | 0, i, j, h1, _ => ⟨fun h a b => absurd b (by simp only [bsA]; omega), fun h a b => absurd b (by simp only [bsA] at a; omega)⟩
  | f + 1, i, j, h1, h2 => by
    by_cases hl : i < j
    · obtain ⟨h, hh⟩ : ∃ h, (i + j) / 2 = h := ⟨_, rfl⟩
      cases hp : P h with
      | true =>
        rw [bsA_yes hl hh hp]
        obtain ⟨r1, r2⟩ := bsA_ok P f (h + 1) j (by omega) (fun x y a b c d => h2 x y (by omega) b c d)
        refine ⟨fun x a b => ?_, r2⟩
        by_cases hx : x ≤ h
        · exact h2 x h a hx (by omega) hp
        · exact r1 x (by omega) b
      | false =>
        rw [bsA_no hl hh hp]
        obtain ⟨r1, r2⟩ := bsA_ok P f i h (by omega) (fun x y a b c d => h2 x y a b (by omega) d)
        refine ⟨r1, fun x a b => ?_⟩
        by_cases hx : x < h
        · exact r2 x a hx
        · cases hp2 : P x with
          | false => rfl
          | true => rw [h2 h x (by omega) (by omega) b hp2] at hp; exact hp
    · rw [bsA_end hl]
      exact ⟨fun h a b => absurd b (by omega), fun h a b => absurd b (by omega)⟩
def Srt (a b : Nat) (p : Nat → Nat) : Prop := ∀ i j, a ≤ i → i < j → j < b → p i < p j
theorem Srt.le {a b : Nat} {p : Nat → Nat} (h : Srt a b p) {i j : Nat} (h1 : a ≤ i) (h2 : i ≤ j) (h3 : j < b) : p i ≤ p j := by
  rcases Nat.lt_or_eq_of_le h2 with h4 | h4
  · exact Nat.le_of_lt (h i j h1 h4 h3)
  · rw [h4]; exact Nat.le_refl _
/-- Nothing out of a to b has changed; what stands there now stood there. -/
def Inn (a b : Nat) (p p' : Nat → Nat) : Prop := (∀ k, ¬ (a ≤ k ∧ k < b) → p' k = p k) ∧ ∀ k, a ≤ k → k < b → ∃ j, a ≤ j ∧ j < b ∧ p' k = p j
theorem Inn.refl (a b : Nat) (p : Nat → Nat) : Inn a b p p := ⟨fun _ _ => rfl, fun k h1 h2 => ⟨k, h1, h2, rfl⟩⟩
theorem Inn.trans {a b : Nat} {p q r : Nat → Nat} (h : Inn a b p q) (k : Inn a b q r) : Inn a b p r :=
  ⟨fun x hx => (k.1 x hx).trans (h.1 x hx), fun x h1 h2 => by
    obtain ⟨j, j1, j2, e⟩ := k.2 x h1 h2
    obtain ⟨i, i1, i2, e2⟩ := h.2 j j1 j2
    exact ⟨i, i1, i2, e.trans e2⟩⟩
theorem Inn.wide {a b a' b' : Nat} {p q : Nat → Nat} (h : Inn a b p q) (ha : a' ≤ a) (hb : b ≤ b') : Inn a' b' p q :=
  ⟨fun x hx => h.1 x (by omega), fun x h1 h2 => by
    by_cases hx : a ≤ x ∧ x < b
    · obtain ⟨j, j1, j2, e⟩ := h.2 x hx.1 hx.2
      exact ⟨j, by omega, by omega, e⟩
    · exact ⟨x, h1, h2, h.1 x hx⟩⟩
section
variable {lt : Nat → Nat → Bool} {Lf : Nat → Prop} (H : ∀ x y, Lf x → ¬ Lf y → lt y x = decide (y < x))
include H
omit H in
theorem ne_lf {x y : Nat} (hx : Lf x) (hy : ¬ Lf y) : x ≠ y := fun e => hy (e ▸ hx)
theorem sym1_ok (a m b : Nat) (p : Nat → Nat) (hm : m = a + 1) (hmb : m < b) (h2 : Srt m b p) (hL : Lf (p a)) (hR : ∀ k, m ≤ k → k < b → ¬ Lf (p k)) : Srt a b (sym1 lt a m b p) ∧ Inn a b p (sym1 lt a m b p) := by
  obtain ⟨r, hr⟩ : ∃ r, bsA (fun h => lt (p h) (p a)) (b - m) m b = r := ⟨_, rfl⟩
  have hb := bsA_bd (fun h => lt (p h) (p a)) (b - m) m b (by omega)
  have ho := bsA_ok (fun h => lt (p h) (p a)) (b - m) m b (by omega) (fun x y h3 h4 h5 h6 => by
    have e1 := H (p a) (p x) hL (hR x (by omega) (by omega))
    have e2 := H (p a) (p y) hL (hR y (by omega) (by omega))
    simp only [e1, e2, decide_eq_true_eq] at h6 ⊢
    have := h2.le h3 h4 h5
    omega)
  rw [hr] at ho hb
  have o1 : ∀ h, m ≤ h → h < r → p h < p a := fun h h3 h4 => by
    have := ho.1 h h3 h4
    simp only [H (p a) (p h) hL (hR h h3 (by omega)), decide_eq_true_eq] at this
    exact this
  have o2 : ∀ h, r ≤ h → h < b → p a < p h := fun h h3 h4 => by
    have := ho.2 h h3 h4
    simp only [H (p a) (p h) hL (hR h (by omega) h4), decide_eq_false_iff_not] at this
    have := ne_lf hL (hR h (by omega) h4)
    omega
  have e : ∀ k, sym1 lt a m b p k = if a ≤ k ∧ k < r - 1 then p (k + 1) else if k = r - 1 then p a else p k := fun k => by
    unfold sym1; rw [hr, up_eq, show a + (r - 1 - a) = r - 1 by omega]
  refine ⟨fun i j h3 h4 h5 => ?_, fun k hk => ?_, fun k h3 h4 => ?_⟩
  · rw [e i, e j]
    by_cases c1 : j < r - 1
    · rw [if_pos (by omega), if_pos (by omega)]; exact h2 _ _ (by omega) (by omega) (by omega)
    · by_cases c2 : j = r - 1
      · rw [if_pos (by omega), if_neg (by omega), if_pos c2]; exact o1 _ (by omega) (by omega)
      · rw [if_neg (show ¬ (a ≤ j ∧ j < r - 1) by omega), if_neg c2]
        by_cases c3 : i < r - 1
        · rw [if_pos (by omega)]; exact h2 _ _ (by omega) (by omega) (by omega)
        · by_cases c4 : i = r - 1
          · rw [if_neg (by omega), if_pos c4]; exact o2 _ (by omega) (by omega)
          · rw [if_neg (by omega), if_neg c4]; exact h2 _ _ (by omega) (by omega) (by omega)
  · rw [e k, if_neg (by omega), if_neg (by omega)]
  · rw [e k]
    by_cases c1 : k < r - 1
    · rw [if_pos (by omega)]; exact ⟨k + 1, by omega, by omega, rfl⟩
    · by_cases c2 : k = r - 1
      · rw [if_neg (by omega), if_pos c2]; exact ⟨a, by omega, by omega, rfl⟩
      · rw [if_neg (by omega), if_neg c2]; exact ⟨k, by omega, by omega, rfl⟩
theorem sym2_ok (a m b : Nat) (p : Nat → Nat) (hma : a < m) (hm : b = m + 1) (h2 : Srt a m p) (hL : ∀ k, a ≤ k → k < m → Lf (p k)) (hR : ¬ Lf (p m)) : Srt a b (sym2 lt a m b p) ∧ Inn a b p (sym2 lt a m b p) := by
  obtain ⟨r, hr⟩ : ∃ r, bsA (fun h => !lt (p m) (p h)) (m - a) a m = r := ⟨_, rfl⟩
  have hb := bsA_bd (fun h => !lt (p m) (p h)) (m - a) a m (by omega)
  have ho := bsA_ok (fun h => !lt (p m) (p h)) (m - a) a m (by omega) (fun x y h3 h4 h5 h6 => by
    have e1 := H (p x) (p m) (hL x (by omega) (by omega)) hR
    have e2 := H (p y) (p m) (hL y (by omega) (by omega)) hR
    simp only [e1, e2, Bool.not_eq_true', decide_eq_false_iff_not] at h6 ⊢
    have := h2.le h3 h4 h5
    omega)
  rw [hr] at ho hb
  have o1 : ∀ h, a ≤ h → h < r → p h < p m := fun h h3 h4 => by
    have := ho.1 h h3 h4
    simp only [H (p h) (p m) (hL h h3 (by omega)) hR, Bool.not_eq_true', decide_eq_false_iff_not] at this
    have := ne_lf (hL h h3 (by omega)) hR
    omega
  have o2 : ∀ h, r ≤ h → h < m → p m < p h := fun h h3 h4 => by
    have := ho.2 h h3 h4
    simp only [H (p h) (p m) (hL h (by omega) h4) hR, Bool.not_eq_false', decide_eq_true_eq] at this
    exact this
  have e : ∀ k, sym2 lt a m b p k = if k = r then p m else if r < k ∧ k ≤ m then p (k - 1) else p k := fun k => by
    unfold sym2; rw [hr, dn_eq _ _ _ _ (by omega)]
    by_cases c1 : k = r
    · rw [if_pos (by omega), if_pos c1]
    · rw [if_neg (by omega), if_neg c1]
      by_cases c2 : r < k ∧ k ≤ m
      · rw [if_pos (by omega), if_pos c2]
      · rw [if_neg (by omega), if_neg c2]
  refine ⟨fun i j h3 h4 h5 => ?_, fun k hk => ?_, fun k h3 h4 => ?_⟩
  · rw [e i, e j]
    by_cases c1 : i < r
    · rw [if_neg (by omega), if_neg (by omega)]
      by_cases c2 : j < r
      · rw [if_neg (by omega), if_neg (by omega)]; exact h2 _ _ (by omega) (by omega) (by omega)
      · by_cases c3 : j = r
        · rw [if_pos c3]; exact o1 _ (by omega) (by omega)
        · rw [if_neg c3, if_pos (by omega)]; exact h2 _ _ (by omega) (by omega) (by omega)
    · by_cases c2 : i = r
      · rw [if_pos c2, if_neg (by omega), if_pos (by omega)]; exact o2 _ (by omega) (by omega)
      · rw [if_neg c2, if_pos (by omega), if_neg (by omega), if_pos (by omega)]; exact h2 _ _ (by omega) (by omega) (by omega)
  · rw [e k, if_neg (by omega), if_neg (by omega)]
  · rw [e k]
    by_cases c1 : k = r
    · rw [if_pos c1]; exact ⟨m, by omega, by omega, rfl⟩
    · rw [if_neg c1]
      by_cases c2 : r < k ∧ k ≤ m
      · rw [if_pos c2]; exact ⟨k - 1, by omega, by omega, rfl⟩
      · rw [if_neg c2]; exact ⟨k, by omega, by omega, rfl⟩
end
end Go.Proofs.Ytgmcjkiofcpjbaa.L10
