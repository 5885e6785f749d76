/- Sorting, plain: rows as lists. append of a message as a step of a region. -/
import Derived.Test.YtmfkapbllmfegaaQSt
import Derived.Deep.RegionLaw
namespace Go.Proofs.Ytmfkapbllmfegaa.L10
open Go.RowKit Go.Proofs.Ytmfkapbllmfegaa.G
set_option maxRecDepth 100000
def le (m x : MV) : Bool := decide (x.ln ≤ m.ln)
/-- Behind those of its lane, and of lower-numbered ones. -/
def insL (d : List MV) (m : MV) : List MV := d.filter (le m) ++ m :: d.filter (fun x => !le m x)
def SrtL (d : List MV) : Prop := d.Pairwise (fun x y => x.ln ≤ y.ln)
theorem split_srt (m : MV) : ∀ (d : List MV), SrtL d → d.filter (le m) ++ d.filter (fun x => !le m x) = d
  | [], _ => rfl
  | x :: t, h => by
    have ht := split_srt m t (List.Pairwise.of_cons h)
    by_cases hx : le m x = true
    · simp only [List.filter_cons, hx, if_true, Bool.not_true, Bool.false_eq_true, if_false, List.cons_append]
      rw [ht]
    · have hx' : le m x = false := by simpa using hx
      have hall : ∀ y ∈ t, le m y = false := fun y hy => by
        have h1 := List.rel_of_pairwise_cons h hy
        unfold le at hx' ⊢
        have := of_decide_eq_false hx'
        exact decide_eq_false (by omega)
      have e1 : t.filter (le m) = [] := List.filter_eq_nil_iff.2 fun y hy => by rw [hall y hy]; simp
      have e2 : t.filter (fun x => !le m x) = t := List.filter_eq_self.2 fun y hy => by rw [hall y hy]; rfl
      simp only [List.filter_cons, hx', Bool.false_eq_true, if_false, Bool.not_false, if_true, e1, e2, List.nil_append]
theorem insL_len (d : List MV) (m : MV) (h : SrtL d) : (insL d m).length = d.length + 1 := by
  have := congrArg List.length (split_srt m d h)
  unfold insL
  simp only [List.length_append, List.length_cons] at this ⊢
  omega
theorem insL_mem {d : List MV} {m x : MV} (h : x ∈ insL d m) : x = m ∨ x ∈ d := by
  unfold insL at h
  rcases List.mem_append.1 h with h | h
  · exact .inr (List.mem_filter.1 h).1
  · rcases List.mem_cons.1 h with h | h
    · exact .inl h
    · exact .inr (List.mem_filter.1 h).1
theorem insL_srt (d : List MV) (m : MV) (h : SrtL d) : SrtL (insL d m) := by
  unfold insL SrtL
  refine List.pairwise_append.2 ⟨h.filter _, List.pairwise_cons.2 ⟨fun y hy => ?_, h.filter _⟩, fun x hx y hy => ?_⟩
  · have := (List.mem_filter.1 hy).2
    unfold le at this
    simp only [Bool.not_eq_true', decide_eq_false_iff_not] at this
    omega
  · have h1 := (List.mem_filter.1 hx).2
    unfold le at h1
    have h1 := of_decide_eq_true h1
    rcases List.mem_cons.1 hy with rfl | hy
    · exact h1
    · have := (List.mem_filter.1 hy).2
      unfold le at this
      simp only [Bool.not_eq_true', decide_eq_false_iff_not] at this
      omega
def dflt : MV := ⟨none, [], 0, 1000, 0, 0, 0⟩
/-- A row as a function of places. -/
def fn (l : List MV) : Nat → MV := fun k => l.getD k dflt
theorem fn_at {l : List MV} {k : Nat} {x : MV} (h : l[k]? = some x) : fn l k = x := by unfold fn; rw [List.getD_eq_getElem?_getD, h]; rfl
theorem fn_out {l : List MV} {k : Nat} (h : l.length ≤ k) : fn l k = dflt := by unfold fn; rw [List.getD_eq_getElem?_getD, List.getElem?_eq_none h]; rfl
theorem ls_fn (l : List MV) : ls l.length (fn l) = l := by
  apply List.ext_getElem?
  intro k
  by_cases hk : k < l.length
  · rw [ls_at _ _ hk, fn_at (List.getElem?_eq_getElem hk), List.getElem?_eq_getElem hk]
  · rw [List.getElem?_eq_none (by rw [ls_len]; omega), List.getElem?_eq_none (by omega)]
theorem ls_shf (A B : List MV) (m : MV) : ls ((A ++ B).length + 1) (shf A.length (A ++ B).length (fn (A ++ B ++ [m]))) = A ++ m :: B := by
  apply List.ext_getElem?
  intro k
  by_cases hk : k < (A ++ B).length + 1
  · rw [ls_at _ _ hk]
    simp only [List.length_append] at hk
    unfold shf
    by_cases c1 : k < A.length
    · rw [if_pos c1, List.getElem?_append_left c1]
      have : (A ++ B ++ [m])[k]? = A[k]? := by rw [List.append_assoc, List.getElem?_append_left c1]
      rw [List.getElem?_eq_getElem c1] at this ⊢
      rw [fn_at this]
    · rw [if_neg c1]
      by_cases c2 : k = A.length
      · rw [if_pos c2, c2, List.getElem?_append_right (Nat.le_refl _), Nat.sub_self]
        have : (A ++ B ++ [m])[(A ++ B).length]? = some m := by rw [List.getElem?_append_right (Nat.le_refl _), Nat.sub_self]; rfl
        rw [fn_at this]; rfl
      · rw [if_neg c2, if_pos (by simp only [List.length_append]; omega), List.getElem?_append_right (by omega)]
        obtain ⟨j, hj⟩ : ∃ j, k - A.length = j + 1 := ⟨k - A.length - 1, by omega⟩
        have hj' : j < B.length := by omega
        rw [hj, List.getElem?_cons_succ]
        have : (A ++ B ++ [m])[k - 1]? = B[j]? := by rw [List.append_assoc, List.getElem?_append_right (by omega), List.getElem?_append_left (by omega)]; congr 1; omega
        rw [List.getElem?_eq_getElem hj'] at this ⊢
        rw [fn_at this]
  · rw [List.getElem?_eq_none (by rw [ls_len]; omega), List.getElem?_eq_none (by simp only [List.length_append, List.length_cons] at hk ⊢; omega)]
theorem put_srt (d : List MV) (m : MV) (h : SrtL d) (hn : d.length < 39) (hb : ∀ x ∈ d, x.ln ≤ 1000) (hm : m.ln ≤ 1000) : ls (d ++ [m]).length (stab ltM (d ++ [m]).length (fn (d ++ [m]))) = insL d m := by
  have hs := split_srt m d h
  obtain ⟨A, hA⟩ : ∃ A, d.filter (le m) = A := ⟨_, rfl⟩
  obtain ⟨B, hB⟩ : ∃ B, d.filter (fun x => !le m x) = B := ⟨_, rfl⟩
  unfold insL
  rw [hA, hB] at hs ⊢
  have a1 : ∀ x ∈ A, x.ln ≤ m.ln := fun x hx => by
    rw [← hA] at hx
    have h1 := (List.mem_filter.1 hx).2
    unfold le at h1; exact of_decide_eq_true h1
  have b1 : ∀ x ∈ B, m.ln < x.ln := fun x hx => by
    rw [← hB] at hx
    have h1 := (List.mem_filter.1 hx).2
    unfold le at h1
    simp only [Bool.not_eq_true', decide_eq_false_iff_not] at h1
    omega
  subst hs
  clear hA hB
  have hlen : (A ++ B ++ [m]).length = (A ++ B).length + 1 := by rw [List.length_append]; rfl
  have at_d : ∀ k, k < (A ++ B).length → ∃ x, x ∈ A ++ B ∧ (A ++ B)[k]? = some x ∧ fn (A ++ B ++ [m]) k = x := fun k hk =>
    ⟨(A ++ B)[k], List.getElem_mem hk, List.getElem?_eq_getElem hk, fn_at (by rw [List.getElem?_append_left hk, List.getElem?_eq_getElem hk])⟩
  have at_m : fn (A ++ B ++ [m]) (A ++ B).length = m := fn_at (by rw [List.getElem?_append_right (Nat.le_refl _), Nat.sub_self]; rfl)
  rw [hlen, stab_ok (pos := A.length) hn (by simp) (fun i j hij hj => ?_) (fun k hk => ?_) (fun k h1 h2 => ?_) (fun j k h1 h2 => ?_)]
  · exact ls_shf A B m
  · obtain ⟨x, _, e1, e2⟩ := at_d i (by omega)
    obtain ⟨y, _, e3, e4⟩ := at_d j hj
    rw [e2, e4]
    rcases Nat.lt_or_eq_of_le hij with h1 | h1
    · have := List.pairwise_iff_getElem.1 h i j (by omega) hj h1
      rw [List.getElem?_eq_getElem (by omega)] at e1 e3
      injection e1 with e1
      injection e3 with e3
      rw [← e1, ← e3]; exact this
    · subst h1; rw [e1] at e3; injection e3 with e3; rw [e3]; exact Int.le_refl _
  · obtain ⟨x, _, e1, e2⟩ := at_d k (by simp only [List.length_append]; omega)
    rw [e2, at_m]
    rw [List.getElem?_append_left hk] at e1
    exact a1 x (List.mem_of_getElem? e1)
  · obtain ⟨x, _, e1, e2⟩ := at_d k h2
    rw [e2, at_m]
    rw [List.getElem?_append_right h1] at e1
    exact b1 x (List.mem_of_getElem? e1)
  · rw [fn_out (l := A ++ B ++ [m]) (k := k) (by rw [hlen]; omega)]
    show _ ≤ (1000 : Int)
    rcases Nat.lt_or_eq_of_le h1 with h3 | h3
    · obtain ⟨x, hx, _, e2⟩ := at_d j h3
      rw [e2]; exact hb x hx
    · rw [h3, at_m]; exact hm

/-! ### append of one message, as a step -/
theorem step_app {ops : Array Oper} {o : Oper} {a : Act} {K : Act → World → Prop} {Q : Exit → Act → World → Prop} {E : Prop} {w : World} (hgd : o.guard = none) (s x : Operand)
    (ho : o.op = .call { callee := .builtin .append, args := #[s, x], argTypes := #[29, 29] })
    {v : Value} {d : List MV} {g : Nat} {m : MV} (hs : a.eval s = v) (hv : Own w 0 43 5 v d.length (mvs d)) (hx : a.eval x = .slice (some ⟨g, 0, none⟩) 1 1) (hr : Row w (some ⟨g, 0, none⟩) m.cells) (hl : d.length ≤ 1000)
    (h : ∀ v' w', Own w' 0 43 5 v' (d.length + 1) (mvs (d ++ [m])) → w.grownBy w' v.ownBlock → (v'.ownBlock = v.ownBlock ∨ v'.ownBlock = some w.heap.size) → K (a.put o.dst v') w') :
    if Region.wanted o (yielded ops a.tmps) = true then Oper.wp Try.prog o a w K Q else E := by
  obtain ⟨i0, hi, hz0, hz1, hz2⟩ := info_parts infoM
  obtain ⟨v', w', hrun, h2, h3, h5⟩ := run_app Try.underlying29 hi hz0 hz1 hz2 rfl (by decide) w o.type 0 v d.length (mvs d) hv (some ⟨g, 0, none⟩) 1 1 m.cells hr rfl (MV.one m) (by omega) (by decide) (Nat.zero_le _)
  rw [if_pos (by simp [Region.wanted, hgd])]
  unfold Oper.wp execOp
  simp only [ho, resolve, invoke, builtin, Sem.run_bind, Sem.run_pure, Result.andThen_ok, List.map_toArray, List.map_cons, List.map_nil, hs, hx, hrun]
  exact h v' w' (by rw [mvs_snoc]; exact h2) h3 h5
end Go.Proofs.Ytmfkapbllmfegaa.L10
