/- What a turn keeps. No memory. -/
import Derived.Test.YthkpopphefolmaaDoorFTurn2
namespace Go.Proofs.YthkpopphefolmaaDoor.F4
open Go.RowKit Go.Proofs.YthkpopphefolmaaDoor.G Go.Proofs.YthkpopphefolmaaDoor.Cell
variable {s : St} {b o lo la : Int} {g : Nat → Int}
theorem inv_tw (h : Inv s b o lo la g) (hb : okV (b + 1) = true) : ∃ g', Inv (wStep (w1 s b)) (b1 s b) (o1 s b o) lo la g' ∧ b ≤ b1 s b ∧ b1 s b ≤ b + 1 := by
  unfold o1 b1 w1
  cases hx : s.wr with
  | none =>
    simp only [Option.isSome_none, Bool.false_eq_true, if_false]
    have h2 := inv_write h hb hx
    have hd : wDone { s with wr := some ⟨0, List.replicate s.W (b + 1), 0, 0⟩ } = false := by simp [wDone]; omega
    rw [hd]
    simp only [Bool.false_eq_true, if_false]
    obtain ⟨g', h3⟩ := inv_wstep h2 rfl (Nat.zero_le _)
    exact ⟨g', h3, by omega, by omega⟩
  | some x =>
    simp only [Option.isSome_some, if_true]
    have hk := (h.ok.wr x hx).k
    by_cases hl : x.k = 3 + s.W
    · have hd : wDone s = true := by simp [wDone, hx, hl]
      have hs : wStep s = wNext s x := by simp [wStep, hx]
      rw [hd, hs]
      simp only [if_true]
      exact ⟨g, (inv_wlast h hx hl).2, by omega, by omega⟩
    · have hd : wDone s = false := by simp [wDone, hx, hl]
      have hs : wStep s = wNext s x := by simp [wStep, hx]
      rw [hd, hs]
      simp only [Bool.false_eq_true, if_false]
      obtain ⟨g', h3⟩ := inv_wstep h hx (by omega)
      exact ⟨g', h3, by omega, by omega⟩
theorem inv_tr (h : Inv s b o lo la g) : ∃ v, (rDone (rBegin s) = true → ∀ i, i < s.W → nth (rOut (rBegin s)) i = v) ∧ (rDone (rBegin s) = true → l1 s o lo ≤ v ∧ v ≤ b ∧ la ≤ v) ∧ Inv (rStep (rBegin s)) b o (l1 s o lo) (if rDone (rBegin s) then v else la) g := by
  have hW1 := h.ok.w1
  have key : ∀ (s' : St) (lo' : Int) (y : Rr), Inv s' b o lo' la g → s'.rd = some y → s'.W = s.W → ∃ v, (rDone s' = true → ∀ i, i < s.W → nth (rOut s') i = v) ∧ (rDone s' = true → lo' ≤ v ∧ v ≤ b ∧ la ≤ v) ∧ Inv (rStep s') b o lo' (if rDone s' then v else la) g := by
    intro s' lo' y h' hy hW
    have hk := (h'.ok.rd y hy).k
    have hs : rStep s' = rNext s' y := by simp [rStep, hy]
    by_cases hl : y.k = 2 + s'.W
    · have hd : rDone s' = true := by simp [rDone, hy, hl]
      have ho : rOut s' = rTold s' y := by simp [rOut, hy, hl]
      obtain ⟨v, a1, a2, a3, a4, a5, a6, a7⟩ := inv_rlast h' hy hl
      refine ⟨v, fun _ i hi => by rw [ho]; exact a1 i (by rw [hW]; exact hi), fun _ => ⟨a3, a4, a5⟩, ?_⟩
      rw [hd, hs]
      exact a7
    · have hd : rDone s' = false := by simp [rDone, hy, hl]
      refine ⟨0, fun e => (by rw [hd] at e; cases e), fun e => (by rw [hd] at e; cases e), ?_⟩
      rw [hd, hs]
      exact inv_rstep h' hy (by omega)
  unfold l1 rBegin
  cases hy : s.rd with
  | none =>
    simp only [Option.isSome_none, Bool.false_eq_true, if_false]
    exact key _ o _ (inv_read h) rfl rfl
  | some y =>
    simp only [Option.isSome_some, if_true]
    exact key s lo y h hy rfl
end Go.Proofs.YthkpopphefolmaaDoor.F4
