/- The walk of FourOther. -/
import Derived.Test.YthkpopphefolmaaDoorLFwd
import Derived.BigQuiet
import Derived.Deep.QuietTactic
namespace Go.Proofs.YthkpopphefolmaaDoor.fourOther
open Go.RowKit Go.Proofs.YthkpopphefolmaaDoor.G Go.Proofs.YthkpopphefolmaaDoor.Cell Go.Proofs.YthkpopphefolmaaDoor.F4
open Go.Proofs.YthkpopphefolmaaDoor.fourForward (low_more below_only tw_new)
attribute [local go_sem ↓] Go.wp_at_zero Go.wp_at_succ
set_option maxRecDepth 100000

/-! ### Plain: what a turn does to the cells -/
/-- One cell at most is another one. -/
def One (m m' : List Int) : Prop := ∃ (j : Nat) (v : Int), m' = m.set j v ∨ m' = m
theorem one_w (s : St) (b : Int) : One s.m (wStep (w1 s b)).m := by
  have e : (w1 s b).m = s.m := by unfold w1; split <;> rfl
  obtain ⟨x, hx⟩ := w1_some s b
  rw [← e]
  simp only [wStep, hx]
  unfold wNext
  split
  · exact ⟨0, 0, .inr rfl⟩
  split
  · exact ⟨0, 0, .inr rfl⟩
  split
  · exact ⟨_, _, .inl rfl⟩
  split
  · exact ⟨_, _, .inl rfl⟩
  · exact ⟨_, _, .inl rfl⟩
theorem one_r (s : St) : One s.m (rStep (rBegin s)).m := by
  have e : (rBegin s).m = s.m := by unfold rBegin; split <;> rfl
  obtain ⟨y, hy⟩ := r1_some s
  rw [← e]
  simp only [rStep, hy]
  unfold rNext
  split
  · exact ⟨0, 0, .inr rfl⟩
  split
  · exact ⟨_, _, .inl rfl⟩
  split
  · exact ⟨0, 0, .inr rfl⟩
  split
  · exact ⟨0, 0, .inr rfl⟩
  · exact ⟨0, 0, .inr rfl⟩
/-- The place of a read that has one, as the statement reckons it. -/
def PInv (s : St) (pc : Int) : Prop := ∀ y, s.rd = some y → y.k = 3 → pc = (pl 1 y.p y.q : Nat)
theorem place_w {s : St} {b o lo la : Int} {g : Nat → Int} {y : Rr} (h : Inv s b o lo la g) (hW : s.W = 1) (hy : s.rd = some y) (hk : y.k = 3) : nth (wStep (w1 s b)).m (pl 1 y.p y.q) = nth s.m (pl 1 y.p y.q) := by
  have e : (w1 s b).m = s.m := by unfold w1; split <;> rfl
  have eW : (w1 s b).W = s.W := by unfold w1; split <;> rfl
  have hr := h.ok.rd y hy
  obtain ⟨v, iv⟩ := (h.hrd y hy).hv (by omega)
  have hpl := pl_lt (W := 1) hr.p hr.q (show 0 < 1 by omega)
  rw [Nat.add_zero] at hpl
  cases hx : s.wr with
  | none =>
    have : w1 s b = { s with wr := some ⟨0, List.replicate s.W (b + 1), 0, 0⟩ } := by simp [w1, hx]
    rw [this]
    simp only [wStep, wNext, if_true]
  | some x =>
    have : w1 s b = s := by simp [w1, hx]
    rw [this]
    have hw := h.ok.wr x hx
    have hwp := hw.p
    simp only [wStep, hx]
    unfold wNext
    split
    · rfl
    split
    · rfl
    split
    · rename_i k0 k1 k2
      show nth (s.m.set _ _) _ = _
      refine nth_set_ne _ _ fun e' => ?_
      rw [hW] at e'
      have e2 : pl 1 y.p y.q = pl 1 y.p y.q + 0 := rfl
      rw [e2] at e'
      obtain ⟨i1, i2, _⟩ := pl_inj hw.p hw.q (by omega) hr.p hr.q (by omega) e'
      have ha := iv.apart x hx (by omega) (by omega) i1
      have hc := hw.c (by omega) (by omega)
      have hb := bit_nat (h.ok.bits (2 + y.p) (by have := hr.p; omega))
      unfold slot at ha
      rw [i1] at hc
      omega
    split
    · show nth (s.m.set _ _) _ = _
      exact nth_set_ne _ _ (by omega)
    · show nth (s.m.set _ _) _ = _
      exact nth_set_ne _ _ (by omega)
theorem w1_rd (s : St) (b : Int) : (wStep (w1 s b)).rd = s.rd ∧ (wStep (w1 s b)).W = s.W := by
  have e : (w1 s b).rd = s.rd := by unfold w1; split <;> rfl
  have eW : (w1 s b).W = s.W := by unfold w1; split <;> rfl
  obtain ⟨x, hx⟩ := w1_some s b
  simp only [wStep, hx]
  unfold wNext
  split
  · exact ⟨e, eW⟩
  split
  · exact ⟨e, eW⟩
  split
  · exact ⟨e, eW⟩
  split
  · exact ⟨e, eW⟩
  · exact ⟨e, eW⟩
theorem pinv_w {s : St} {b pc : Int} (h : PInv s pc) : PInv (wStep (w1 s b)) pc := fun y hy hk => h y (by rw [← (w1_rd s b).1]; exact hy) hk
/-- Behind a turn of the reader: the place is what the statement reckons of the cells, if it was the third access. -/
theorem pinv_r {s : St} {b o lo la : Int} {g : Nat → Int} {pc : Int} (h : Inv s b o lo la g) (hW : s.W = 1) : (rStep (rBegin s)).W = 1 ∧
    (rLeft s = 2 → PInv (rStep (rBegin s)) (4 + 2 * nth (rStep (rBegin s)).m 1 + nth (rStep (rBegin s)).m (2 + (nth (rStep (rBegin s)).m 1).toNat))) ∧ (rLeft s ≠ 2 → PInv (rStep (rBegin s)) pc) := by
  have eW : (rBegin s).W = s.W := by unfold rBegin; split <;> rfl
  cases hy : s.rd with
  | none =>
    have e : rBegin s = { s with rd := some ⟨0, 0, 0, List.replicate s.W 0⟩ } := by simp [rBegin, hy]
    have hl : rLeft s = 0 := by simp [rLeft, hy]
    rw [e]
    refine ⟨by simp only [rStep, rNext, if_true]; exact hW, fun h2 => by omega, fun _ => ?_⟩
    intro y hy' hk
    simp only [rStep, rNext, if_true] at hy'
    obtain rfl := Option.some.inj hy'
    simp at hk
  | some y =>
    have e : rBegin s = s := by simp [rBegin, hy]
    have hl : rLeft s = 4 - y.k := by simp [rLeft, hy, hW]
    have hr := h.ok.rd y hy
    have hk := hr.k
    rw [e]
    simp only [rStep, hy]
    by_cases k0 : y.k = 0
    · refine ⟨by simp [rNext, k0, hW], fun h2 => by omega, fun _ => ?_⟩
      intro z hz hk'
      simp only [rNext, k0, if_true] at hz
      obtain rfl := Option.some.inj hz
      simp at hk'
    by_cases k1 : y.k = 1
    · refine ⟨by simp [rNext, k1, hW], fun h2 => by omega, fun _ => ?_⟩
      intro z hz hk'
      simp only [rNext, k1, if_true, if_neg (show ¬ (1 : Nat) = 0 by omega)] at hz
      obtain rfl := Option.some.inj hz
      simp at hk'
    by_cases k2 : y.k = 2
    · refine ⟨by simp [rNext, k2, hW], fun _ => ?_, fun h2 => by omega⟩
      intro z hz hk'
      simp only [rNext, k2, if_true, if_neg (show ¬ (2 : Nat) = 0 by omega), if_neg (show ¬ (2 : Nat) = 1 by omega)] at hz ⊢
      obtain rfl := Option.some.inj hz
      have hc := hr.c (by omega)
      have hb := bit_nat (h.ok.bits (2 + y.p) (by have := hr.p; omega))
      show 4 + 2 * nth s.m 1 + nth s.m (2 + (nth s.m 1).toNat) = ((pl 1 y.p (nth s.m (2 + y.p)).toNat : Nat) : Int)
      rw [hc, Int.toNat_natCast]
      unfold pl
      omega
    · have k3 : y.k = 3 := by omega
      refine ⟨by simp [rNext, k3, hW], fun h2 => by omega, fun _ => ?_⟩
      intro z hz hk'
      simp only [rNext, k3, if_neg (show ¬ (3 : Nat) = 0 by omega), if_neg (show ¬ (3 : Nat) = 1 by omega), if_neg (show ¬ (3 : Nat) = 2 by omega), hW, if_neg (show ¬ (3 : Nat) < 2 + 1 by omega)] at hz
      cases hz
end Go.Proofs.YthkpopphefolmaaDoor.fourOther
