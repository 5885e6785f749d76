/- A ring through which 1, 2, .. go: whole turns, plain. -/
import Derived.Test.YtpoidnajhcjmcaaDoorRTurn3
namespace Go.Proofs.YtpoidnajhcjmcaaDoor.R8
open Go.Proofs.YtpoidnajhcjmcaaDoor.Cell Go.Proofs.YtpoidnajhcjmcaaDoor.Ob
variable {s : St} {i o : Nat} {fu lo : Bool}
/-- What is under way has made an access. -/
def Kp (s : St) : Prop := (∀ x, s.pu = some x → 1 ≤ x.k) ∧ (∀ y, s.po = some y → 1 ≤ y.k)
theorem kp_s0 (D W : Nat) : Kp (s0 D W) := ⟨fun x e => (by cases e), fun y e => (by cases e)⟩
theorem kp_ustep (h : ∀ y, s.po = some y → 1 ≤ y.k) : Kp (uStep s) := by
  unfold uStep
  cases hx : s.pu with
  | none => exact ⟨fun x e => (by simp only at e; rw [hx] at e; cases e), h⟩
  | some x =>
    simp only
    unfold uNext
    split
    · exact ⟨fun z e => (by obtain rfl := Option.some.inj e; exact Nat.le_refl _), h⟩
    split
    · refine ⟨fun z e => ?_, h⟩
      have e : (if uFull s x then none else some { x with k := 2, t := nth s.m 1 }) = some z := e
      split at e
      · cases e
      · obtain rfl := Option.some.inj e; show 1 ≤ 2; omega
    split
    · exact ⟨fun z e => (by obtain rfl := Option.some.inj e; show 1 ≤ x.k + 1; omega), h⟩
    · exact ⟨fun z e => (by cases e), h⟩
theorem kp_ostep (h : ∀ x, s.pu = some x → 1 ≤ x.k) : Kp (oStep s) := by
  unfold oStep
  cases hx : s.po with
  | none => exact ⟨h, fun x e => (by simp only at e; rw [hx] at e; cases e)⟩
  | some y =>
    simp only
    unfold oNext
    split
    · exact ⟨h, fun z e => (by obtain rfl := Option.some.inj e; exact Nat.le_refl _)⟩
    split
    · refine ⟨h, fun z e => ?_⟩
      have e : (if oLow s y then none else some { y with k := 2, h := nth s.m 0 }) = some z := e
      split at e
      · cases e
      · obtain rfl := Option.some.inj e; show 1 ≤ 2; omega
    split
    · exact ⟨h, fun z e => (by obtain rfl := Option.some.inj e; show 1 ≤ y.k + 1; omega)⟩
    · exact ⟨h, fun z e => (by cases e)⟩
theorem inv_turn_u (h : Inv s i o fu lo) (hk : Kp s) (hv : okV ((i : Int) + 1) = true) : Inv (uStep (u1 s i)) (i1 s i) o (fu1 s i o fu) lo ∧ Kp (uStep (u1 s i)) ∧ (s.pu ≠ none → (uErr s = 0 ∨ (uOver s = true ∧ uErr s = 2 ∧ fu = true))) ∧ i ≤ i1 s i ∧ i1 s i ≤ i + 1 := by
  obtain ⟨h1, ⟨x, hx⟩, e1, e2⟩ := inv_u1 h hv
  have h0 : x.k = 0 → fu1 s i o fu = decide (i = o + (u1 s i).D) := by
    intro k0
    rw [e1]
    unfold fu1
    cases hp : s.pu with
    | none => simp
    | some z =>
      have : u1 s i = s := by simp [u1, hp]
      rw [this] at hx
      have := hk.1 x hx
      omega
  obtain ⟨h2, h3⟩ := inv_ustep h1 hx h0
  have hpo : (u1 s i).po = s.po := by unfold u1; split <;> rfl
  refine ⟨h2, kp_ustep (fun y e => hk.2 y (by rw [← hpo]; exact e)), fun hne => ?_, ?_, ?_⟩
  · obtain ⟨z, hz⟩ := Option.ne_none_iff_exists'.1 hne
    have e3 : u1 s i = s := by simp [u1, hz]
    have e4 : fu1 s i o fu = fu := by simp [fu1, hz]
    rw [e3, e4] at h3
    exact h3
  · unfold i1; split <;> omega
  · unfold i1; split <;> omega
theorem inv_turn_o (h : Inv s i o fu lo) (hk : Kp s) : Inv (oStep (oBegin s)) i (o1 s o) fu (lo1 s i o lo) ∧ Kp (oStep (oBegin s)) ∧ OCase (oBegin s) (lo1 s i o lo) o := by
  obtain ⟨h1, ⟨y, hy⟩, e1, e2⟩ := inv_o1 h
  have h0 : y.k = 0 → lo1 s i o lo = decide (i = o) := by
    intro k0
    unfold lo1
    cases hp : s.po with
    | none => simp
    | some z =>
      have : oBegin s = s := by simp [oBegin, hp]
      rw [this] at hy
      have := hk.2 y hy
      omega
  obtain ⟨h2, h3, h4⟩ := inv_ostep h1 hy h0
  have hpu : (oBegin s).pu = s.pu := by unfold oBegin; split <;> rfl
  refine ⟨h2, kp_ostep (fun x e => hk.1 x (by rw [← hpu]; exact e)), ?_⟩
  rcases h3 with h3 | ⟨h3, h5, h6⟩
  · cases ho : oOver (oBegin s) with
    | false => exact .inl ⟨h3, ho⟩
    | true => exact .inr (.inl ⟨h3, ho, h4 (by rw [ho, h3]; rfl)⟩)
  · exact .inr (.inr ⟨h5, h3, h6⟩)
end Go.Proofs.YtpoidnajhcjmcaaDoor.R8
