/- Sorting, plain: symMerge merges. -/
import Derived.Test.YtgmcjkiofcpjbaaQ15
namespace Go.Proofs.Ytgmcjkiofcpjbaa.L10
set_option maxRecDepth 100000
section
variable {lt : Nat → Nat → Bool} {Lf : Nat → Prop} (H : ∀ x y, Lf x → ¬ Lf y → lt y x = decide (y < x))
include H
omit H in
/-- Behind the search: what lies where. -/
theorem symT_ok {f : Nat} (ih : ∀ (a m b : Nat) (p : Nat → Nat), a < m → m < b → b - a ≤ f → Srt a m p → Srt m b p → (∀ k, a ≤ k → k < m → Lf (p k)) → (∀ k, m ≤ k → k < b → ¬ Lf (p k)) → Srt a b (symM lt f a m b p) ∧ Inn a b p (symM lt f a m b p))
    (a m b mid st en : Nat) (p : Nat → Nat) (ha : a ≤ st) (h1 : st ≤ m) (h2 : st ≤ mid) (h3 : m ≤ en) (h4 : en ≤ b) (h5 : mid ≤ en) (h6 : mid < b) (h7 : a < mid) (h8 : en + st = mid + m) (hf : b - a ≤ f + 1) (hL : Srt a m p) (hR : Srt m b p)
    (lL : ∀ k, a ≤ k → k < m → Lf (p k)) (lR : ∀ k, m ≤ k → k < b → ¬ Lf (p k)) (c1 : ∀ i j, a ≤ i → i < st → en ≤ j → j < b → p i < p j) (c2 : ∀ i j, m ≤ i → i < en → st ≤ j → j < m → p i < p j) :
    Srt a b (symT (symM lt f) a m b mid st en p) ∧ Inn a b p (symT (symM lt f) a m b mid st en p) := by
  unfold symT
  obtain ⟨q, hq⟩ : ∃ q, tI (st < m ∧ m < en) (rota st m en) p = q := ⟨_, rfl⟩
  have e : ∀ k, q k = if st ≤ k ∧ k < mid then p (k + (m - st)) else if mid ≤ k ∧ k < en then p (k - (en - m)) else p k := fun k => by
    rw [← hq]
    by_cases hc : st < m ∧ m < en
    · rw [tI_pos hc]; unfold rota
      rw [rot_eq' _ _ _ _ _ _ (by omega) (by omega) (by omega) (by omega)]
      by_cases d1 : st ≤ k ∧ k < mid
      · rw [if_pos (by omega), if_pos d1]
      · by_cases d2 : mid ≤ k ∧ k < en
        · rw [if_neg (by omega), if_pos (by omega), if_neg d1, if_pos d2]
        · rw [if_neg (by omega), if_neg (by omega), if_neg d1, if_neg d2]
    · rw [tI_neg hc]
      by_cases d1 : st ≤ k ∧ k < mid
      · rw [if_pos d1]; congr 1; omega
      · rw [if_neg d1]
        by_cases d2 : mid ≤ k ∧ k < en
        · rw [if_pos d2]; congr 1; omega
        · rw [if_neg d2]
  rw [hq]
  have q1 : ∀ k, a ≤ k → k < st → q k = p k := fun k x y => by rw [e, if_neg (by omega), if_neg (by omega)]
  have q2 : ∀ k, st ≤ k → k < mid → q k = p (k + (m - st)) := fun k x y => by rw [e, if_pos ⟨x, y⟩]
  have q3 : ∀ k, mid ≤ k → k < en → q k = p (k - (en - m)) := fun k x y => by rw [e, if_neg (by omega), if_pos ⟨x, y⟩]
  have q4 : ∀ k, en ≤ k → k < b → q k = p k := fun k x y => by rw [e, if_neg (by omega), if_neg (by omega)]
  have iq : Inn a b p q := ⟨fun k hk => by rw [e, if_neg (by omega), if_neg (by omega)], fun k x y => by
    by_cases d1 : k < st
    · exact ⟨k, x, y, q1 k x d1⟩
    · by_cases d2 : k < mid
      · exact ⟨_, by omega, by omega, q2 k (by omega) d2⟩
      · by_cases d3 : k < en
        · exact ⟨_, by omega, by omega, q3 k (by omega) d3⟩
        · exact ⟨k, x, y, q4 k (by omega) y⟩⟩
  have S1 : Srt a st q := fun i j x y z => by rw [q1 i x (by omega), q1 j (by omega) z]; exact hL i j x y (by omega)
  have S2 : Srt st mid q := fun i j x y z => by rw [q2 i x (by omega), q2 j (by omega) z]; exact hR _ _ (by omega) (by omega) (by omega)
  have S3 : Srt mid en q := fun i j x y z => by rw [q3 i x (by omega), q3 j (by omega) z]; exact hL _ _ (by omega) (by omega) (by omega)
  have S4 : Srt en b q := fun i j x y z => by rw [q4 i x (by omega), q4 j (by omega) z]; exact hR i j (by omega) y z
  obtain ⟨u, hu⟩ : ∃ u, tI (a < st ∧ st < mid) (symM lt f a st mid) q = u := ⟨_, rfl⟩
  have hA : Srt a mid u ∧ Inn a mid q u := by
    rw [← hu]
    by_cases hc : a < st ∧ st < mid
    · rw [tI_pos hc]
      exact ih a st mid q hc.1 hc.2 (by omega) S1 S2 (fun k x y => by rw [q1 k x y]; exact lL k x (by omega)) (fun k x y => by rw [q2 k x y]; exact lR _ (by omega) (by omega))
    · rw [tI_neg hc]
      refine ⟨?_, Inn.refl _ _ _⟩
      by_cases d : st = a
      · subst d; exact S2
      · have d2 : st = mid := by omega
        rw [d2] at S1; exact S1
  rw [hu]
  have u4 : ∀ k, mid ≤ k → u k = q k := fun k x => hA.2.1 k (by omega)
  have hB : Srt mid b (tI (mid < en ∧ en < b) (symM lt f mid en b) u) ∧ Inn mid b u (tI (mid < en ∧ en < b) (symM lt f mid en b) u) := by
    have T3 : Srt mid en u := fun i j x y z => by rw [u4 i x, u4 j (by omega)]; exact S3 i j x y z
    have T4 : Srt en b u := fun i j x y z => by rw [u4 i (by omega), u4 j (by omega)]; exact S4 i j x y z
    by_cases hc : mid < en ∧ en < b
    · rw [tI_pos hc]
      exact ih mid en b u hc.1 hc.2 (by omega) T3 T4 (fun k x y => by rw [u4 k x, q3 k x y]; exact lL _ (by omega) (by omega)) (fun k x y => by rw [u4 k (by omega), q4 k x y]; exact lR k (by omega) y)
    · rw [tI_neg hc]
      refine ⟨?_, Inn.refl _ _ _⟩
      by_cases d : en = mid
      · rw [d] at T4; exact T4
      · have d2 : en = b := by omega
        rw [d2] at T3; exact T3
  generalize tI (mid < en ∧ en < b) (symM lt f mid en b) u = v at *
  have X : ∀ i j, a ≤ i → i < mid → mid ≤ j → j < b → q i < q j := fun i j x1 x2 x3 x4 => by
    by_cases d1 : i < st
    · rw [q1 i x1 d1]
      by_cases d2 : j < en
      · rw [q3 j x3 d2]; exact hL _ _ x1 (by omega) (by omega)
      · rw [q4 j (by omega) x4]; exact c1 i j x1 d1 (by omega) x4
    · rw [q2 i (by omega) x2]
      by_cases d2 : j < en
      · rw [q3 j x3 d2]; exact c2 _ _ (by omega) (by omega) (by omega) (by omega)
      · rw [q4 j (by omega) x4]; exact hR _ _ (by omega) (by omega) x4
  refine ⟨fun i j x1 x2 x3 => ?_, iq.trans ((hA.2.wide (Nat.le_refl _) (Nat.le_of_lt h6)).trans (hB.2.wide (Nat.le_of_lt h7) (Nat.le_refl _)))⟩
  by_cases d1 : j < mid
  · rw [hB.2.1 i (by omega), hB.2.1 j (by omega)]; exact hA.1 i j x1 x2 d1
  · by_cases d2 : mid ≤ i
    · exact hB.1 i j d2 x2 x3
    · rw [hB.2.1 i (by omega)]
      obtain ⟨i', y1, y2, e1⟩ := hA.2.2 i x1 (by omega)
      obtain ⟨j', z1, z2, e2⟩ := hB.2.2 j (by omega) x3
      rw [e1, e2, u4 j' z1]
      exact X i' j' y1 y2 z1 z2
theorem symM_ok : ∀ (f a m b : Nat) (p : Nat → Nat), a < m → m < b → b - a ≤ f → Srt a m p → Srt m b p → (∀ k, a ≤ k → k < m → Lf (p k)) → (∀ k, m ≤ k → k < b → ¬ Lf (p k)) → Srt a b (symM lt f a m b p) ∧ Inn a b p (symM lt f a m b p)
  | 0, a, m, b, p, h1, h2, h3, _, _, _, _ => absurd h3 (by omega)
  | f + 1, a, m, b, p, h1, h2, h3, hL, hR, lL, lR => by
    by_cases e1 : m = a + 1
    · rw [symM, if_pos e1]
      exact sym1_ok H a m b p e1 h2 hR (lL a (Nat.le_refl _) h1) lR
    · by_cases e2 : b = m + 1
      · rw [symM, if_neg e1, if_pos e2]
        exact sym2_ok H a m b p h1 e2 hL lL (lR m (Nat.le_refl _) h2)
      · obtain ⟨mid, hmid⟩ : ∃ mid, (a + b) / 2 = mid := ⟨_, rfl⟩
        obtain ⟨st0, hst0⟩ : ∃ st0, (if mid < m then mid + m - b else a) = st0 := ⟨_, rfl⟩
        obtain ⟨r0, hr0⟩ : ∃ r0, (if mid < m then mid else m) = r0 := ⟨_, rfl⟩
        obtain ⟨pp, hpp⟩ : ∃ pp, mid + m - 1 = pp := ⟨_, rfl⟩
        obtain ⟨st, hst⟩ : ∃ st, bsA (fun c => !lt (p (pp - c)) (p c)) (r0 - st0) st0 r0 = st := ⟨_, rfl⟩
        obtain ⟨en, hen⟩ : ∃ en, mid + m - st = en := ⟨_, rfl⟩
        rw [symM_3 e1 e2 hmid hst0 hr0 hpp hst hen]
        have hc : (mid < m ∧ st0 = mid + m - b ∧ r0 = mid) ∨ (¬ mid < m ∧ st0 = a ∧ r0 = m) := by
          by_cases hm : mid < m
          · rw [if_pos hm] at hst0 hr0; exact .inl ⟨hm, hst0.symm, hr0.symm⟩
          · rw [if_neg hm] at hst0 hr0; exact .inr ⟨hm, hst0.symm, hr0.symm⟩
        clear hst0 hr0
        have hr : ∀ c, st0 ≤ c → c < r0 → a ≤ c ∧ c < m ∧ m ≤ pp - c ∧ pp - c < b ∧ c ≤ pp := fun c x y => by omega
        have hbd := bsA_bd (fun c => !lt (p (pp - c)) (p c)) (r0 - st0) st0 r0 (by omega)
        have ho := bsA_ok (fun c => !lt (p (pp - c)) (p c)) (r0 - st0) st0 r0 (by omega) (fun x y x1 x2 x3 x4 => by
          obtain ⟨a1, a2, a3, a4, a5⟩ := hr x x1 (by omega)
          obtain ⟨b1, b2, b3, b4, b5⟩ := hr y (by omega) x3
          simp only [H _ _ (lL x a1 a2) (lR (pp - x) a3 a4), H _ _ (lL y b1 b2) (lR (pp - y) b3 b4), Bool.not_eq_true', decide_eq_false_iff_not] at x4 ⊢
          have := hL.le a1 x2 b2
          have := hR.le b3 (show pp - y ≤ pp - x by omega) a4
          omega)
        rw [hst] at hbd ho
        have o1 : ∀ c, st0 ≤ c → c < st → p c < p (pp - c) := fun c x y => by
          obtain ⟨a1, a2, a3, a4, a5⟩ := hr c x (by omega)
          have := ho.1 c x y
          simp only [H _ _ (lL c a1 a2) (lR (pp - c) a3 a4), Bool.not_eq_true', decide_eq_false_iff_not] at this
          have := ne_lf (lL c a1 a2) (lR (pp - c) a3 a4)
          omega
        have o2 : ∀ c, st ≤ c → c < r0 → p (pp - c) < p c := fun c x y => by
          obtain ⟨a1, a2, a3, a4, a5⟩ := hr c (by omega) y
          have := ho.2 c x y
          simp only [H _ _ (lL c a1 a2) (lR (pp - c) a3 a4), Bool.not_eq_false', decide_eq_true_eq] at this
          exact this
        refine symT_ok (symM_ok f) a m b mid st en p (by omega) (by omega) (by omega) (by omega) (by omega) (by omega) (by omega) (by omega) (by omega) h3 hL hR lL lR (fun i j x1 x2 x3 x4 => ?_) (fun i j x1 x2 x3 x4 => ?_)
        · have y1 : st0 < st := by omega
          have z1 := o1 (st - 1) (by omega) (by omega)
          have z2 := hL.le x1 (show i ≤ st - 1 by omega) (by omega)
          have z3 := hR.le (show m ≤ pp - (st - 1) by omega) (show pp - (st - 1) ≤ j by omega) x4
          omega
        · have y1 : st < r0 := by omega
          have z1 := o2 st (Nat.le_refl _) y1
          have z2 := hL.le (show a ≤ st by omega) x3 x4
          have z3 := hR.le x1 (show i ≤ pp - st by omega) (by omega)
          omega
end
end Go.Proofs.Ytgmcjkiofcpjbaa.L10
