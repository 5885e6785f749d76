/- A region that draws its order, by an invariant: whatever operations are done, in whatever order the edges allow. Conditions: none but those that each theorem names. -/
import Derived.Orders
import Derived.Calls
import Derived.WalkKit
namespace Go.Proofs.YtkhcmgnocbddmaaDoor.G
open Go
variable {P : Program} {ops : Array Oper} {Q : Exit → Act → World → Prop} {md : Region.Mode}
/-- Every edge goes back. -/
def backward (ops : Array Oper) : Bool := (List.range ops.size).all fun i => ((ops[i]?).map fun o => o.after.all fun e => decide (e.on < i)).getD true
theorem backward_at (h : backward ops = true) {i : Nat} {o : Oper} (ho : ops[i]? = some o) : ∀ e ∈ o.after, e.on < i := by
  have hi : i < ops.size := by
    rcases Nat.lt_or_ge i ops.size with h1 | h1
    · exact h1
    · rw [Array.getElem?_eq_none h1] at ho; cases ho
  have h1 := List.all_eq_true.1 h i (List.mem_range.2 hi)
  rw [ho] at h1
  intro e he
  have h2 : o.after.all (fun e => decide (e.on < i)) = true := h1
  exact of_decide_eq_true (Array.all_eq_true_iff_forall_mem.1 h2 e he)
def done (l : Array Bool) : Nat → Bool := fun j => l.getD j false
theorem all_done (hb : backward ops = true) {l : Array Bool} (hl : l.size = ops.size) (hr : Region.ready md ops l = []) : ∀ i, i < ops.size → done l i = true := by
  intro i
  induction i using Nat.strongRecOn with
  | ind i ih =>
    intro hi
    rcases Bool.eq_false_or_eq_true (done l i) with h1 | h1
    · exact h1
    · exfalso
      have ho : ops[i]? = some ops[i] := Array.getElem?_eq_getElem hi
      have hm : i ∈ Region.ready md ops l := mem_ready.2 ⟨by
        unfold done at h1
        rw [Array.getD, dif_pos (by omega)] at h1 ⊢
        exact h1, _, ho, fun e he _ => ih e.on (backward_at hb ho e he) (Nat.lt_trans (backward_at hb ho e he) hi)⟩
      rw [hr] at hm
      cases hm
theorem done_set {l : Array Bool} {i : Nat} (hi : i < l.size) : done (l.setIfInBounds i true) = fun j => decide (j = i) || done l j := by
  funext j
  unfold done
  by_cases hj : j = i
  · subst hj
    simp [Array.getD, hi]
  · simp only [hj, decide_false, Bool.false_or]
    exact getD_set_ne _ (fun h => hj h.symm)
theorem count_set {l : Array Bool} {i : Nat} (hi : i < l.size) (h : done l i = false) : (l.setIfInBounds i true).toList.countP (fun b => !b) + 1 = l.toList.countP (fun b => !b) := by
  have h1 : l.toList[i]'(by simpa using hi) = false := by
    unfold done at h
    rw [Array.getD, dif_pos hi] at h
    simpa using h
  rw [Array.toList_setIfInBounds, List.countP_set (by simpa using hi), h1]
  have : 0 < l.toList.countP (fun b => !b) := List.countP_pos_iff.2 ⟨_, List.getElem_mem (by simpa using hi), by rw [h1]; rfl⟩
  show _ - (if (!false) = true then 1 else 0) + (if (!true) = true then 1 else 0) + 1 = _
  rw [if_pos (show (!false) = true from rfl), if_neg (show ¬ (!true) = true by decide)]
  omega
theorem wpAny_inv (I : (Nat → Bool) → Act → World → Prop) (hb : backward ops = true)
    (step : ∀ d a w i o, ops[i]? = some o → d i = false → (∀ e ∈ o.after, Region.binds md e = true → d e.on = true) → I d a w → wpOp P ops Q i (fun a' w' => I (fun j => decide (j = i) || d j) a' w') a w)
    (fin : ∀ d a w, (∀ i, i < ops.size → d i = true) → I d a w → Q .normal a w) :
    ∀ fuel l a w, I (done l) a w → l.toList.countP (fun b => !b) ≤ fuel → l.size = ops.size → wpAny P md ops Q fuel l a w := by
  intro fuel
  induction fuel with
  | zero =>
    intro l a w h hc hl
    have hall : ∀ i, i < ops.size → done l i = true := fun i hi => by
      have h0 := List.countP_eq_zero.1 (Nat.le_zero.1 hc) (l.toList[i]'(by simpa [hl] using hi)) (List.getElem_mem _)
      unfold done
      rw [Array.getD, dif_pos (by omega)]
      simpa using h0
    refine ⟨?_, fin _ a w hall h⟩
    cases hr : Region.ready md ops l with
    | nil => rfl
    | cons x xs =>
      exfalso
      have hm : x ∈ Region.ready md ops l := by rw [hr]; exact List.mem_cons_self
      obtain ⟨h1, o, ho, _⟩ := mem_ready.1 hm
      have hx : x < ops.size := by
        rcases Nat.lt_or_ge x ops.size with h2 | h2
        · exact h2
        · rw [Array.getElem?_eq_none h2] at ho; cases ho
      have h3 := hall x hx
      unfold done at h3
      rw [Array.getD, dif_pos (by omega)] at h1 h3
      rw [h1] at h3; cases h3
  | succ fuel ih =>
    intro l a w h hc hl
    refine ⟨fun hr => fin _ a w (all_done hb hl hr) h, fun i hi => ?_⟩
    obtain ⟨h1, o, ho, h2⟩ := mem_ready.1 hi
    have hx : i < ops.size := by
      rcases Nat.lt_or_ge i ops.size with h2 | h2
      · exact h2
      · rw [Array.getElem?_eq_none h2] at ho; cases ho
    have hd : done l i = false := by
      unfold done
      rw [Array.getD, dif_pos (by omega)] at h1 ⊢
      exact h1
    have hc' := count_set (l := l) (i := i) (by omega) hd
    refine wpOp_mono (fun a' w' h' => ih _ _ _ ?_ (by omega) (by simpa using hl)) (step _ a w i o ho hd h2 h)
    rw [done_set (by omega)]
    exact h'
/-- A region that draws: what holds ahead of it and is kept by each operation, whichever are done, holds behind it. -/
theorem wp_region_inv {id : Nat} {a : Act} {w : World} (hm : P.follows .mixedOrders = true) (I : (Nat → Bool) → Act → World → Prop) (hb : backward ops = true)
    (start : I (fun _ => false) a w.drew)
    (step : ∀ d a w i o, ops[i]? = some o → d i = false → (∀ e ∈ o.after, Region.binds .any e = true → d e.on = true) → I d a w → wpOp P ops Q i (fun a' w' => I (fun j => decide (j = i) || d j) a' w') a w)
    (fin : ∀ d a w, (∀ i, i < ops.size → d i = true) → I d a w → Q .normal a w) : (Code.region id ops true).wp P Q a w := by
  refine wp_region_any hm (wpAny_inv I hb step fin _ _ _ _ ?_ ?_ (by simp))
  · have e : done (Array.replicate ops.size false) = fun _ => false := by
      funext j
      unfold done
      simp [Array.getD]
    rw [e]; exact start
  · exact Nat.le_trans List.countP_le_length (by simp)
/-- The same, the invariant told with the act that the region begins with. -/
theorem wp_region_inv0 {id : Nat} {a : Act} {w : World} (I : Act → (Nat → Bool) → Act → World → Prop) (hm : P.follows .mixedOrders = true) (hb : backward ops = true)
    (start : I a (fun _ => false) a w.drew)
    (step : ∀ d x V i o, ops[i]? = some o → d i = false → (∀ e ∈ o.after, Region.binds .any e = true → d e.on = true) → I a d x V → wpOp P ops Q i (fun a' w' => I a (fun j => decide (j = i) || d j) a' w') x V)
    (fin : ∀ d x V, (∀ i, i < ops.size → d i = true) → I a d x V → Q .normal x V) : (Code.region id ops true).wp P Q a w :=
  wp_region_inv hm (I a) hb start step fin
/-- An operation that is wanted. -/
theorem wpOp_of {i : Nat} {o : Oper} {K : Act → World → Prop} {a : Act} {w : World} (ho : ops[i]? = some o) (hw : Region.wanted o (yielded ops a.tmps) = true) (h : o.wp P a w K Q) : wpOp P ops Q i K a w := by
  unfold wpOp
  rw [ho]
  simp only
  rw [if_pos hw]
  exact .inl h
end Go.Proofs.YtkhcmgnocbddmaaDoor.G
