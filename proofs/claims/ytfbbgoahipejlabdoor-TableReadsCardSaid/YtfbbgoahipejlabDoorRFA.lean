/- Texts laid together: RInv, RFill. -/
import Derived.Orders
import Derived.Calls
import Derived.WalkKit
import Derived.StillTail
/- A region that draws its order, by an invariant: whatever operations are done, in whatever order the edges allow. Conditions: none but those that each theorem names. -/
namespace Go.Proofs.YtfbbgoahipejlabDoor.G
open Go
variable {P : Program} {ops : Array Oper} {Q : Exit → Act → World → Prop} {md : Region.Mode}
/-- Every edge goes back. -/
def backward (ops : Array Oper) : Bool := (List.range ops.size).all fun i => ((ops[i]?).map fun o => o.after.all fun e => decide (e.on < i)).getD true
theorem backward_at (h : backward ops = true) {i : Nat} {o : Oper} (ho : ops[i]? = some o) : ∀ e ∈ o.after, e.on < i := by
  have hi : i < ops.size := by
    rcases Nat.lt_or_ge i ops.size with h1 | h1
    · exact h1
    · rw [Array.getElem?_eq_none h1] at ho; cases ho
  have h1 := List.all_eq_true.1 h i (List.mem_range.2 hi)
  rw [ho] at h1
  intro e he
  have h2 : o.after.all (fun e => decide (e.on < i)) = true := h1
  exact of_decide_eq_true (Array.all_eq_true_iff_forall_mem.1 h2 e he)
def done (l : Array Bool) : Nat → Bool := fun j => l.getD j false
theorem all_done (hb : backward ops = true) {l : Array Bool} (hl : l.size = ops.size) (hr : Region.ready md ops l = []) : ∀ i, i < ops.size → done l i = true := by
  intro i
  induction i using Nat.strongRecOn with
  | ind i ih =>
    intro hi
    rcases Bool.eq_false_or_eq_true (done l i) with h1 | h1
    · exact h1
    · exfalso
      have ho : ops[i]? = some ops[i] := Array.getElem?_eq_getElem hi
      have hm : i ∈ Region.ready md ops l := mem_ready.2 ⟨by
        unfold done at h1
        rw [Array.getD, dif_pos (by omega)] at h1 ⊢
        exact h1, _, ho, fun e he _ => ih e.on (backward_at hb ho e he) (Nat.lt_trans (backward_at hb ho e he) hi)⟩
      rw [hr] at hm
      cases hm
theorem done_set {l : Array Bool} {i : Nat} (hi : i < l.size) : done (l.setIfInBounds i true) = fun j => decide (j = i) || done l j := by
  funext j
  unfold done
  by_cases hj : j = i
  · subst hj
    simp [Array.getD, hi]
  · simp only [hj, decide_false, Bool.false_or]
    exact getD_set_ne _ (fun h => hj h.symm)
theorem count_set {l : Array Bool} {i : Nat} (hi : i < l.size) (h : done l i = false) : (l.setIfInBounds i true).toList.countP (fun b => !b) + 1 = l.toList.countP (fun b => !b) := by
  have h1 : l.toList[i]'(by simpa using hi) = false := by
    unfold done at h
    rw [Array.getD, dif_pos hi] at h
    simpa using h
  rw [Array.toList_setIfInBounds, List.countP_set (by simpa using hi), h1]
  have : 0 < l.toList.countP (fun b => !b) := List.countP_pos_iff.2 ⟨_, List.getElem_mem (by simpa using hi), by rw [h1]; rfl⟩
  show _ - (if (!false) = true then 1 else 0) + (if (!true) = true then 1 else 0) + 1 = _
  rw [if_pos (show (!false) = true from rfl), if_neg (show ¬ (!true) = true by decide)]
  omega
theorem wpAny_inv (I : (Nat → Bool) → Act → World → Prop) (hb : backward ops = true)
    (step : ∀ d a w i o, ops[i]? = some o → d i = false → (∀ e ∈ o.after, Region.binds md e = true → d e.on = true) → I d a w → wpOp P ops Q i (fun a' w' => I (fun j => decide (j = i) || d j) a' w') a w)
    (fin : ∀ d a w, (∀ i, i < ops.size → d i = true) → I d a w → Q .normal a w) :
    ∀ fuel l a w, I (done l) a w → l.toList.countP (fun b => !b) ≤ fuel → l.size = ops.size → wpAny P md ops Q fuel l a w := by
  intro fuel
  induction fuel with
  | zero =>
    intro l a w h hc hl
    have hall : ∀ i, i < ops.size → done l i = true := fun i hi => by
      have h0 := List.countP_eq_zero.1 (Nat.le_zero.1 hc) (l.toList[i]'(by simpa [hl] using hi)) (List.getElem_mem _)
      unfold done
      rw [Array.getD, dif_pos (by omega)]
      simpa using h0
    refine ⟨?_, fin _ a w hall h⟩
    cases hr : Region.ready md ops l with
    | nil => rfl
    | cons x xs =>
      exfalso
      have hm : x ∈ Region.ready md ops l := by rw [hr]; exact List.mem_cons_self
      obtain ⟨h1, o, ho, _⟩ := mem_ready.1 hm
      have hx : x < ops.size := by
        rcases Nat.lt_or_ge x ops.size with h2 | h2
        · exact h2
        · rw [Array.getElem?_eq_none h2] at ho; cases ho
      have h3 := hall x hx
      unfold done at h3
      rw [Array.getD, dif_pos (by omega)] at h1 h3
      rw [h1] at h3; cases h3
  | succ fuel ih =>
    intro l a w h hc hl
    refine ⟨fun hr => fin _ a w (all_done hb hl hr) h, fun i hi => ?_⟩
    obtain ⟨h1, o, ho, h2⟩ := mem_ready.1 hi
    have hx : i < ops.size := by
      rcases Nat.lt_or_ge i ops.size with h2 | h2
      · exact h2
      · rw [Array.getElem?_eq_none h2] at ho; cases ho
    have hd : done l i = false := by
      unfold done
      rw [Array.getD, dif_pos (by omega)] at h1 ⊢
      exact h1
    have hc' := count_set (l := l) (i := i) (by omega) hd
    refine wpOp_mono (fun a' w' h' => ih _ _ _ ?_ (by omega) (by simpa using hl)) (step _ a w i o ho hd h2 h)
    rw [done_set (by omega)]
    exact h'
/-- A region that draws: what holds ahead of it and is kept by each operation, whichever are done, holds behind it. -/
theorem wp_region_inv {id : Nat} {a : Act} {w : World} (hm : P.follows .mixedOrders = true) (I : (Nat → Bool) → Act → World → Prop) (hb : backward ops = true)
    (start : I (fun _ => false) a w.drew)
    (step : ∀ d a w i o, ops[i]? = some o → d i = false → (∀ e ∈ o.after, Region.binds .any e = true → d e.on = true) → I d a w → wpOp P ops Q i (fun a' w' => I (fun j => decide (j = i) || d j) a' w') a w)
    (fin : ∀ d a w, (∀ i, i < ops.size → d i = true) → I d a w → Q .normal a w) : (Code.region id ops true).wp P Q a w := by
  refine wp_region_any hm (wpAny_inv I hb step fin _ _ _ _ ?_ ?_ (by simp))
  · have e : done (Array.replicate ops.size false) = fun _ => false := by
      funext j
      unfold done
      simp [Array.getD]
    rw [e]; exact start
  · exact Nat.le_trans List.countP_le_length (by simp)
/-- The same, the invariant told with the act that the region begins with. -/
theorem wp_region_inv0 {id : Nat} {a : Act} {w : World} (I : Act → (Nat → Bool) → Act → World → Prop) (hm : P.follows .mixedOrders = true) (hb : backward ops = true)
    (start : I a (fun _ => false) a w.drew)
    (step : ∀ d x V i o, ops[i]? = some o → d i = false → (∀ e ∈ o.after, Region.binds .any e = true → d e.on = true) → I a d x V → wpOp P ops Q i (fun a' w' => I a (fun j => decide (j = i) || d j) a' w') x V)
    (fin : ∀ d x V, (∀ i, i < ops.size → d i = true) → I a d x V → Q .normal x V) : (Code.region id ops true).wp P Q a w :=
  wp_region_inv hm (I a) hb start step fin
/-- An operation that is wanted. -/
theorem wpOp_of {i : Nat} {o : Oper} {K : Act → World → Prop} {a : Act} {w : World} (ho : ops[i]? = some o) (hw : Region.wanted o (yielded ops a.tmps) = true) (h : o.wp P a w K Q) : wpOp P ops Q i K a w := by
  unfold wpOp
  rw [ho]
  simp only
  rw [if_pos hw]
  exact .inl h
end Go.Proofs.YtfbbgoahipejlabDoor.G
/- A region that draws its order: reads, one thing that is made, one operation with a law of its own behind all of these, and two at the end: by the values alone that each of the first ones yields. -/
namespace Go.Proofs.YtfbbgoahipejlabDoor.G
open Go
variable {P : Program} {ops : Array Oper} {Q : Exit → Act → World → Prop}
/-- Of the first n operations those of d have filled their slots. -/
structure Fill (a x : Act) (n : Nat) (slot : Nat → Nat) (val : Nat → Value) (d : Nat → Bool) : Prop where
  df : x.defers = a.defers
  sz : x.tmps.size = a.tmps.size
  on : ∀ i, i < n → d i = true → x.tmps[slot i]? = some (val i)
  off : ∀ t, (∀ i, i < n → slot i ≠ t) → x.tmps[t]? = a.tmps[t]?
theorem put_at (x : Act) (s t : Nat) (v : Value) : (x.put (some s) v).tmps[t]? = if s = t then (if s < x.tmps.size then some v else none) else x.tmps[t]? := by
  show (x.tmps.setIfInBounds s v)[t]? = _
  rw [Array.getElem?_setIfInBounds]
theorem Fill.put {a x : Act} {n : Nat} {slot : Nat → Nat} {val : Nat → Value} {d : Nat → Bool} (h : Fill a x n slot val d) (hinj : ∀ i j, i < n → j < n → slot i = slot j → i = j) (hin : ∀ i, i < n → slot i < a.tmps.size) {i : Nat} (hi : i < n) : Fill a (x.put (some (slot i)) (val i)) n slot val (fun j => decide (j = i) || d j) := by
  refine ⟨h.df, ?_, fun j hj hd => ?_, fun t ht => ?_⟩
  · show (x.tmps.setIfInBounds (slot i) (val i)).size = _
    rw [Array.size_setIfInBounds]; exact h.sz
  · rw [put_at]
    by_cases e : slot i = slot j
    · obtain rfl := hinj i j hi hj e
      rw [if_pos rfl, if_pos (by rw [h.sz]; exact hin _ hi)]
    · rw [if_neg e]
      refine h.on j hj ?_
      have : j ≠ i := fun e2 => e (by rw [e2])
      simpa [this] using hd
  · rw [put_at, if_neg (ht i hi)]
    exact h.off t ht
theorem Fill.start (a : Act) (n : Nat) (slot : Nat → Nat) (val : Nat → Value) : Fill a a n slot val (fun _ => false) := ⟨rfl, rfl, fun _ _ h => (by cases h), fun _ _ => rfl⟩
theorem Fill.eq {a x y : Act} {n : Nat} {slot : Nat → Nat} {val : Nat → Value} {d d' : Nat → Bool} (h : Fill a x n slot val d) (h' : Fill a y n slot val d') (hd : ∀ i, i < n → d i = true) (hd' : ∀ i, i < n → d' i = true) : x = y := by
  obtain ⟨xt, xd⟩ := x
  obtain ⟨yt, yd⟩ := y
  have e1 : xd = yd := h.df.trans h'.df.symm
  have e2 : xt = yt := by
    apply Array.ext_getElem?
    intro t
    by_cases ht : ∃ i, i < n ∧ slot i = t
    · obtain ⟨i, hi, rfl⟩ := ht
      exact (h.on i hi (hd i hi)).trans (h'.on i hi (hd' i hi)).symm
    · have ht' : ∀ i, i < n → slot i ≠ t := fun i hi e => ht ⟨i, hi, e⟩
      exact (h.off t ht').trans (h'.off t ht').symm
  rw [e1, e2]
/-- All of them, in their row. -/
def filled (a : Act) (slot : Nat → Nat) (val : Nat → Value) : Nat → Act
  | 0 => a
  | n + 1 => (filled a slot val n).put (some (slot n)) (val n)
theorem filled_fill {a : Act} {n : Nat} {slot : Nat → Nat} {val : Nat → Value} (hinj : ∀ i j, i < n → j < n → slot i = slot j → i = j) (hin : ∀ i, i < n → slot i < a.tmps.size) : ∀ m, m ≤ n → Fill a (filled a slot val m) n slot val (fun j => decide (j < m))
  | 0, _ => by
    have := Fill.start a n slot val
    refine ⟨this.df, this.sz, fun i _ h => ?_, this.off⟩
    simp at h
  | m + 1, h => by
    have ih := (filled_fill (val := val) hinj hin m (by omega)).put hinj hin (i := m) (by omega)
    refine ⟨ih.df, ih.sz, fun i hi hd => ih.on i hi ?_, ih.off⟩
    have : i < m + 1 := of_decide_eq_true hd
    by_cases e : i = m
    · simp [e]
    · have : i < m := by omega
      simp [this]
/-- What an operation of the first ones yields, wherever the ones that it waits for have filled their slots. -/
def Yields (P : Program) (ops : Array Oper) (a : Act) (n : Nat) (slot : Nat → Nat) (val : Nat → Value) (i : Nat) (V V' : World) : Prop :=
  ∀ o, ops[i]? = some o → ∀ x : Act, (∀ e ∈ o.after, Region.binds .any e = true → x.tmps[slot e.on]? = some (val e.on)) → (∀ t, (∀ j, j < n → slot j ≠ t) → x.tmps[t]? = a.tmps[t]?) → o.dst = some (slot i) ∧ Region.wanted o (yielded ops x.tmps) = true ∧ (execOp x.eval o).run P V = .ok (.value (val i)) V'
theorem sink_done {n : Nat} (hs : Region.sinkB .any ops n = true) {d : Nat → Bool} (hcl : ∀ j, j ≤ n → d j = true → ∀ o, ops[j]? = some o → ∀ e ∈ o.after, Region.binds .any e = true → d e.on = true) (hn : d n = true) : ∀ m i, n - i = m → i < n → d i = true := by
  intro m
  induction m using Nat.strongRecOn with
  | ind m ih =>
    intro i hm hi
    have h1 := List.all_eq_true.1 hs i (List.mem_range.2 hi)
    obtain ⟨j, hj, hj2⟩ := List.any_eq_true.1 h1
    simp only [Bool.and_eq_true, decide_eq_true_eq] at hj2
    obtain ⟨oj, hoj, e, he, hb, hon⟩ := Region.waitsFor_spec hj2.2
    have hjn : j ≤ n := by have := List.mem_range.1 hj; omega
    have hdj : d j = true := by
      by_cases e2 : j = n
      · rw [e2]; exact hn
      · exact ih (n - j) (by omega) j rfl (by omega)
    rw [← hon]
    exact hcl j hjn hdj oj hoj e he hb
theorem wp_region_fill {id : Nat} {a : Act} {w : World} (n k : Nat) (slot : Nat → Nat) (val : Nat → Value) (V1 : World) (hm : P.follows .mixedOrders = true) (hb : backward ops = true) (hsz : ops.size = n + 3) (hs : Region.sinkB .any ops n = true)
    (hc1 : Region.waitsFor .any ops (n + 1) n = true) (hc2 : Region.waitsFor .any ops (n + 2) (n + 1) = true) (hkn : k < n)
    (hinj : ∀ i j, i < n → j < n → slot i = slot j → i = j) (hin : ∀ i, i < n → slot i < a.tmps.size)
    (h0 : ∀ i, i < n → i ≠ k → Yields P ops a n slot val i w.drew w.drew) (h1 : ∀ i, i < n → i ≠ k → Yields P ops a n slot val i V1 V1) (hk : Yields P ops a n slot val k w.drew V1)
    (hend : wpOp P ops Q n (fun a1 w1 => wpOp P ops Q (n + 1) (fun a2 w2 => wpOp P ops Q (n + 2) (fun a3 w3 => Q .normal a3 w3) a2 w2) a1 w1) (filled a slot val n) V1) : (Code.region id ops true).wp P Q a w := by
  refine wp_region_inv hm (fun d x V => (∀ j, j ≤ n + 2 → d j = true → ∀ o, ops[j]? = some o → ∀ e ∈ o.after, Region.binds .any e = true → d e.on = true) ∧
    (d n = false → Fill a x n slot val d ∧ V = if d k = true then V1 else w.drew) ∧
    (d n = true → d (n + 1) = false → wpOp P ops Q (n + 1) (fun a2 w2 => wpOp P ops Q (n + 2) (fun a3 w3 => Q .normal a3 w3) a2 w2) x V) ∧
    (d (n + 1) = true → d (n + 2) = false → wpOp P ops Q (n + 2) (fun a3 w3 => Q .normal a3 w3) x V) ∧ (d (n + 2) = true → Q .normal x V)) hb ?_ ?_ ?_
  · exact ⟨fun _ _ h => (by cases h), fun _ => ⟨Fill.start a n slot val, by simp⟩, fun h => (by cases h), fun h => (by cases h), fun h => (by cases h)⟩
  · rintro d x V i o ho hdi hpre ⟨hcl, hA, hB, hC, hD⟩
    have hi3 : i < n + 3 := by
      rw [← hsz]
      rcases Nat.lt_or_ge i ops.size with h | h
      · exact h
      · rw [Array.getElem?_eq_none h] at ho; cases ho
    have hcl' : ∀ j, j ≤ n + 2 → (decide (j = i) || d j) = true → ∀ o, ops[j]? = some o → ∀ e ∈ o.after, Region.binds .any e = true → (decide (e.on = i) || d e.on) = true := fun j hj hdj o' ho' e he hbe => by
      by_cases e1 : j = i
      · subst e1
        rw [ho] at ho'; injection ho' with ho'; subst ho'
        rw [hpre e he hbe, Bool.or_true]
      · have : d j = true := by simpa [e1] using hdj
        rw [hcl j hj this o' ho' e he hbe, Bool.or_true]
    have w1 : ∀ {p q : Nat}, Region.waitsFor .any ops p q = true → ∀ {dd : Nat → Bool}, (∀ o, ops[p]? = some o → ∀ e ∈ o.after, Region.binds .any e = true → dd e.on = true) → dd q = true := fun hw dd hh => by
      obtain ⟨oj, hoj, e, he, hbe, hon⟩ := Region.waitsFor_spec hw
      rw [← hon]; exact hh oj hoj e he hbe
    by_cases hin' : i < n
    · have hdn : d n = false := by
        cases hx : d n with
        | false => rfl
        | true =>
          have := sink_done hs (fun j hj => hcl j (by omega)) hx (n - i) i rfl hin'
          rw [this] at hdi; cases hdi
      obtain ⟨hF, hV⟩ := hA hdn
      have hd1 : d (n + 1) = false := by
        cases hx : d (n + 1) with
        | false => rfl
        | true => have := w1 hc1 (dd := d) (fun o ho e he hbe => hcl (n + 1) (by omega) hx o ho e he hbe); rw [this] at hdn; cases hdn
      have hd2 : d (n + 2) = false := by
        cases hx : d (n + 2) with
        | false => rfl
        | true => have := w1 hc2 (dd := d) (fun o ho e he hbe => hcl (n + 2) (by omega) hx o ho e he hbe); rw [this] at hd1; cases hd1
      have hlt : ∀ e ∈ o.after, e.on < i := backward_at hb ho
      have hdep : ∀ e ∈ o.after, Region.binds .any e = true → x.tmps[slot e.on]? = some (val e.on) := fun e he hbe => hF.on _ (by have := hlt e he; omega) (hpre e he hbe)
      have key : ∃ V', o.dst = some (slot i) ∧ Region.wanted o (yielded ops x.tmps) = true ∧ (execOp x.eval o).run P V = .ok (.value (val i)) V' ∧ V' = if (decide (k = i) || d k) = true then V1 else w.drew := by
        by_cases e : i = k
        · subst e
          rw [hdi, if_neg (by decide)] at hV
          subst hV
          obtain ⟨k1, k2, k3⟩ := hk o ho x hdep hF.off
          exact ⟨V1, k1, k2, k3, by simp⟩
        · have e' : ¬ k = i := fun h => e h.symm
          cases hdk : d k with
          | true =>
            rw [hdk, if_pos rfl] at hV
            subst hV
            obtain ⟨k1, k2, k3⟩ := h1 i hin' e o ho x hdep hF.off
            exact ⟨V, k1, k2, k3, by simp⟩
          | false =>
            rw [hdk, if_neg (by decide)] at hV
            subst hV
            obtain ⟨k1, k2, k3⟩ := h0 i hin' e o ho x hdep hF.off
            exact ⟨w.drew, k1, k2, k3, by simp [e']⟩
      obtain ⟨V', k1, k2, k3, k4⟩ := key
      refine wpOp_of ho k2 ?_
      unfold Oper.wp
      rw [k3]
      show _ ∧ _
      rw [k1]
      have en : ¬ n = i := by omega
      have en1 : ¬ n + 1 = i := by omega
      have en2 : ¬ n + 2 = i := by omega
      refine ⟨hcl', fun _ => ⟨hF.put hinj hin hin', k4⟩, fun h => ?_, fun h => ?_, fun h => ?_⟩
      · simp [en, hdn] at h
      · simp [en1, hd1] at h
      · simp [en2, hd2] at h
    · rcases (show i = n ∨ i = n + 1 ∨ i = n + 2 by omega) with rfl | rfl | rfl
      · obtain ⟨hF, hV⟩ := hA hdi
        have hall : ∀ j, j < i → d j = true := fun j hj => by
          have := sink_done (d := fun q => decide (q = i) || d q) hs (fun q hq => hcl' q (by omega)) (by simp) (i - j) j rfl hj
          simpa [show ¬ j = i by omega] using this
        have hx : x = filled a slot val i := hF.eq (filled_fill hinj hin i (Nat.le_refl _)) hall (fun j hj => by simpa using hj)
        rw [hall k hkn, if_pos rfl] at hV
        subst hx hV
        have hd1 : d (i + 1) = false := by
          cases hx : d (i + 1) with
          | false => rfl
          | true => have := w1 hc1 (dd := d) (fun o ho e he hbe => hcl (i + 1) (by omega) hx o ho e he hbe); rw [this] at hdi; cases hdi
        have hd2 : d (i + 2) = false := by
          cases hx : d (i + 2) with
          | false => rfl
          | true => have := w1 hc2 (dd := d) (fun o ho e he hbe => hcl (i + 2) (by omega) hx o ho e he hbe); rw [this] at hd1; cases hd1
        refine wpOp_mono (fun a' w' h' => ?_) hend
        refine ⟨hcl', fun h => ?_, fun _ _ => h', fun h => ?_, fun h => ?_⟩
        · simp at h
        · simp [hd1] at h
        · simp [hd2] at h
      · have hdn : d n = true := w1 hc1 (dd := d) (fun o' ho' e he hbe => by rw [ho] at ho'; injection ho' with ho'; subst ho'; exact hpre e he hbe)
        have hd2 : d (n + 2) = false := by
          cases hx : d (n + 2) with
          | false => rfl
          | true => have := w1 hc2 (dd := d) (fun o ho e he hbe => hcl (n + 2) (by omega) hx o ho e he hbe); rw [this] at hdi; cases hdi
        refine wpOp_mono (fun a' w' h' => ?_) (hB hdn hdi)
        refine ⟨hcl', fun h => ?_, fun _ h => ?_, fun _ _ => h', fun h => ?_⟩
        · simp [hdn] at h
        · simp at h
        · simp [hd2] at h
      · have hd1 : d (n + 1) = true := w1 hc2 (dd := d) (fun o' ho' e he hbe => by rw [ho] at ho'; injection ho' with ho'; subst ho'; exact hpre e he hbe)
        have hdn : d n = true := w1 hc1 (dd := d) (fun o ho e he hbe => hcl (n + 1) (by omega) hd1 o ho e he hbe)
        refine wpOp_mono (fun a' w' h' => ?_) (hC hd1 hdi)
        refine ⟨hcl', fun h => ?_, fun _ h => ?_, fun _ h => ?_, fun _ => h'⟩
        · simp [hdn] at h
        · simp [hd1] at h
        · simp at h
  · rintro d x V hall ⟨_, _, _, _, hD⟩
    exact hD (hall (n + 2) (by omega))
end Go.Proofs.YtfbbgoahipejlabDoor.G
