/- A struct by value, whatever its number of cells, read out of its box and stored to it as ONE step of a plain region: what stays, by blocks. -/
import Derived.Test.YtmfkapbllmfegaaQMem
import Derived.Deep.MidRow
namespace Go.Proofs.Ytmfkapbllmfegaa.L10
open Go.RowKit Go.Proofs.Ytmfkapbllmfegaa.G
variable {w : World} {q : Nat} {t : TypeId}
def setL (cs : Array Value) : Nat → List Value → Array Value
  | _, [] => cs
  | o, v :: r => setL (cs.setIfInBounds o v) (o + 1) r
theorem blk_setL : ∀ (vs : List Value) (o : Nat) (w : World) (cs : Array Value), Blk w q t cs → Blk (w.setCells q o vs) q t (setL cs o vs)
  | [], _, _, _, h => h
  | v :: r, o, _, _, h => blk_setL r (o + 1) _ _ (h.set_ o v)
theorem setL_size : ∀ (vs : List Value) (o : Nat) (cs : Array Value), (setL cs o vs).size = cs.size
  | [], _, _ => rfl
  | v :: r, o, cs => by rw [setL, setL_size r]; simp
theorem setL_at : ∀ (vs : List Value) (o : Nat) (cs : Array Value) (i : Nat), (setL cs o vs)[i]? = if i < o then cs[i]? else if i < o + vs.length ∧ i < cs.size then vs[i - o]? else cs[i]?
  | [], o, cs, i => by
    rw [setL]
    split
    · rfl
    · rw [if_neg (by simp; omega)]
  | v :: r, o, cs, i => by
    rw [setL, setL_at r (o + 1) _ i, Array.getElem?_setIfInBounds, Array.size_setIfInBounds, List.length_cons]
    by_cases h1 : i < o
    · rw [if_pos (by omega), if_neg (by omega), if_pos h1]
    · by_cases h2 : i = o
      · subst h2
        rw [if_pos (by omega), if_pos rfl, if_neg h1]
        by_cases h3 : i < cs.size
        · rw [if_pos h3, if_pos ⟨by omega, h3⟩, Nat.sub_self]; rfl
        · rw [if_neg h3, if_neg (fun h => h3 h.2), Array.getElem?_eq_none (by omega)]
      · rw [if_neg (show ¬ i < o + 1 by omega), if_neg (show ¬ o = i by omega), if_neg h1]
        by_cases h3 : i < o + 1 + r.length ∧ i < cs.size
        · rw [if_pos h3, if_pos ⟨by omega, h3.2⟩, show i - o = (i - (o + 1)) + 1 by omega, List.getElem?_cons_succ]
        · rw [if_neg h3, if_neg (fun h => h3 ⟨by omega, h.2⟩)]
theorem setL_all {vs : List Value} {cs : Array Value} (h : cs.size = vs.length) : setL cs 0 vs = vs.toArray := by
  apply Array.ext_getElem?
  intro i
  rw [setL_at, if_neg (by omega)]
  by_cases h1 : i < cs.size
  · rw [if_pos ⟨by omega, h1⟩]; simp
  · rw [if_neg (fun x => h1 x.2), Array.getElem?_eq_none (by omega), Array.getElem?_eq_none (by simp; omega)]
theorem only_sets : ∀ (vs : List Value) (o : Nat) (w : World), Only (fun k => k = q) w (w.setCells q o vs)
  | [], _, w => Only.refl _ w
  | v :: r, o, w => ((Only.refl (fun k => k = q) w).set_ (.inl rfl) o v).trans_ (only_sets r (o + 1) _)
theorem sets_blk {cs cs' : Array Value} (h : Blk w q t cs) (hs : cs.size = cs'.size) : Blk (w.setCells q 0 cs'.toList) q t cs' := by
  have := blk_setL cs'.toList 0 w cs h
  rw [setL_all (by simpa using hs)] at this
  simpa using this
variable {P : Program} {ops : Array Oper} {rest : List Oper} {op : Oper} {a : Act} {Q : Exit → Act → World → Prop}
/-- The struct in its box is read. -/
theorem wpl_load (hgd : op.guard = none) (ty : TypeId) (x : Operand) (ho : op.op = .load ty x) (hx : a.eval x = .pointer (some ⟨q, 0, none⟩)) {cs : Array Value} {d : TypeDesc} (hc : Blk w q t cs)
    (hu : P.underlying ty = some d) (hd : d.isRow = true) (hi : (P.info? ty).map (·.size) = some cs.size)
    (h : wpList P ops Q rest (a.put op.dst (.agg cs)) w) : wpList P ops Q (op :: rest) a w := by
  have := wpList_load_mid (ops := ops) (rest := rest) (Q := Q) hgd ty x ho q 0 hx cs.toList d (fun j v hj => by rw [Nat.zero_add, hc.cell]; simpa using hj) hu hd (by simpa using hi) (by simpa using h)
  exact this
theorem run_whole {ty : TypeId} {cs : Array Value} {d : TypeDesc} (hc : Blk w q t cs) (hu : P.underlying ty = some d) (hd : d.isRow = true) (hi : (P.info? ty).map (·.size) = some cs.size) : (loadVar ty ⟨q, 0, none⟩).run P w = .ok (.agg cs) w := by
  have := run_loadVar_mid (P := P) w q 0 ty cs.toList d (fun j v hj => by rw [Nat.zero_add, hc.cell]; simpa using hj) hu hd (by simpa using hi)
  simpa using this
/-- The struct in its box is stored to: the operation. -/
theorem wps_store {K : Act → World → Prop} (ty : TypeId) (x y : Operand) (ho : op.op = .store ty x y) {cs cs' : Array Value} (hx : a.eval x = .pointer (some ⟨q, 0, none⟩)) (hy : a.eval y = .agg cs')
    (hc : Blk w q t cs) (hs : cs.size = cs'.size) (hi : (P.info? ty).map (·.size) = some cs'.size) (h1 : cs'.all (·.oneCell') = true)
    (h : ∀ W, Blk W q t cs' → Only (fun k => k = q) w W → K (a.put op.dst undef) W) : op.wp P a w K Q :=
  wp_store_mid ty x y ho q 0 cs' hx hy (fun j hj => by
    rw [Nat.zero_add, hc.cell, hc.frozen]
    exact ⟨by rw [Array.getElem?_eq_getElem (by omega)]; rfl, rfl⟩) hi h1 (h _ (sets_blk hc hs) (only_sets _ 0 w))
/-- The struct in its box is stored to. -/
theorem wpl_store (hgd : op.guard = none) (ty : TypeId) (x y : Operand) (ho : op.op = .store ty x y) {cs cs' : Array Value} (hx : a.eval x = .pointer (some ⟨q, 0, none⟩)) (hy : a.eval y = .agg cs')
    (hc : Blk w q t cs) (hs : cs.size = cs'.size) (hi : (P.info? ty).map (·.size) = some cs'.size) (h1 : cs'.all (·.oneCell') = true)
    (h : ∀ W, Blk W q t cs' → Only (fun k => k = q) w W → wpList P ops Q rest (a.put op.dst undef) W) : wpList P ops Q (op :: rest) a w :=
  wpList_store_mid hgd ty x y ho q 0 cs' hx hy (fun j hj => by
    rw [Nat.zero_add, hc.cell, hc.frozen]
    exact ⟨by rw [Array.getElem?_eq_getElem (by omega)]; rfl, rfl⟩) hi h1 (h _ (sets_blk hc hs) (only_sets _ 0 w))
/-- A part of it is stored to. -/
theorem wpl_part (hgd : op.guard = none) (ty : TypeId) (x y : Operand) (ho : op.op = .store ty x y) {o : Nat} {cs vs : Array Value} (hx : a.eval x = .pointer (some ⟨q, o, none⟩)) (hy : a.eval y = .agg vs)
    (hc : Blk w q t cs) (hs : o + vs.size ≤ cs.size) (hi : (P.info? ty).map (·.size) = some vs.size) (h1 : vs.all (·.oneCell') = true)
    (h : ∀ W, Blk W q t (setL cs o vs.toList) → Only (fun k => k = q) w W → wpList P ops Q rest (a.put op.dst undef) W) : wpList P ops Q (op :: rest) a w :=
  wpList_store_mid hgd ty x y ho q o vs hx hy (fun j hj => by
    rw [hc.cell, hc.frozen]
    exact ⟨by rw [Array.getElem?_eq_getElem (by omega)]; rfl, rfl⟩) hi h1 (h _ (blk_setL _ o w cs hc) (only_sets _ o w))
end Go.Proofs.Ytmfkapbllmfegaa.L10
