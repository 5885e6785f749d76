/- The document's own pool: what Take and Give store: words for memory. -/
import Derived.Test.YtppmfmgmlicefaaPR9c
namespace Go.Proofs.Ytppmfmgmlicefaa.P9
open Go.RowKit Go.Proofs.Ytppmfmgmlicefaa.G
set_option maxRecDepth 100000
variable {w w' : World} {b n : Nat} {s : SS} {t : Nat → Int} {c : Int}
theorem own_set {w : World} {B g : Nat} {t : TypeId} {m n c : Nat} {xs : List Value} (h : Own w B t m (.slice (some ⟨g, 0, none⟩) n c) n xs) (j : Nat) (u : Value) : Own (w.setCell ⟨g, j, none⟩ u) B t m (.slice (some ⟨g, 0, none⟩) n c) n (xs.set j u) := by
  refine ⟨by rw [List.length_set]; exact h.1, ?_⟩
  rcases h.2 with ⟨e, _⟩ | ⟨g', cap, cur, e, hB, hh, hle, hm, hs, ht⟩
  · cases e
  · injection e with e1 e2 e3
    injection e1 with e1
    injection e1 with e1
    subst e1
    refine .inr ⟨g, cap, cur.setIfInBounds j u, by rw [← e3], hB, ?_, hle, hm, by simpa using hs, ?_⟩
    · have := Blk.set_ (w := w) (g := g) (t := t) (cs := cur) hh j u
      exact this
    · have hl : xs.length = n * m := h.1
      rw [Array.toList_setIfInBounds, List.take_set, ht]
theorem own_cur {w : World} {B g : Nat} {ty : TypeId} {m n c : Nat} {xs : List Value} (h : Own w B ty m (.slice (some ⟨g, 0, none⟩) n c) n xs) : B ≤ g ∧ ∃ cur, Blk w g ty cur := Own.block_lt h rfl
theorem own_cellf {w : World} {B g : Nat} {ty : TypeId} {n c : Nat} {xs : List Value} (h : Own w B ty 1 (.slice (some ⟨g, 0, none⟩) n c) n xs) {k : Nat} {u : Value} (hk : xs[k]? = some u) : w.cell? ⟨g, k, none⟩ = some u ∧ ∀ i, w.frozen? ⟨g, i, none⟩ = false := by
  have hlt := (List.getElem?_eq_some_iff.1 hk).1
  have hl : xs.length = n * 1 := h.1
  obtain ⟨_, cur, hb⟩ := own_cur h
  exact ⟨by rw [World.ownsRow.cellAt (g := g) (cap := c) h k (by omega), hk], hb.frozen⟩
theorem set_map {f : Nat → Value} {n k : Nat} {u : Value} {f' : Nat → Value} (h1 : f' k = u) (h2 : ∀ j, j ≠ k → f' j = f j) : ((List.range n).map f).set k u = (List.range n).map f' := by
  apply List.ext_getElem?
  intro j
  rw [List.getElem?_set]
  by_cases e : k = j
  · subst e
    by_cases hk : k < n
    · simp [hk, h1]
    · simp [hk]
  · rw [if_neg e]
    by_cases hj : j < n
    · simp [hj, h2 j (fun e' => e e'.symm)]
    · simp [hj]
theorem bl_set (s : SS) (n k : Nat) (o : Option Int) : (bl s n).set k (.bool (B1 o)) = bl (upd s k o) n := set_map (by simp [upd]) (fun j hj => by simp [upd, hj])
theorem ol_set (s : SS) (n k : Nat) (o : Option Int) : (ol s n).set k (.int .i64 (V1 o)) = ol (upd s k o) n := set_map (by simp [upd]) (fun j hj => by simp [upd, hj])
theorem tl_set (t : Nat → Int) (n k : Nat) (v : Int) : (tl t n).set k (.int .i64 v) = tl (upd t k v) n := set_map (by simp [upd]) (fun j hj => by simp [upd, hj])
/-- Within Take, Give: the box of the pool that came in, now with lists of its own, and the block of what is answered. -/
structure TS (w V : World) (B g1 c1 g2 c2 g3 c3 n : Nat) (xs ys zs : List Value) : Prop where
  box : Blk V w.heap.size 29 #[.slice (some ⟨g1, 0, none⟩) n c1, .slice (some ⟨g2, 0, none⟩) n c2, .slice (some ⟨g3, 0, none⟩) n c3]
  res : Blk V (w.heap.size + 1) 29 #[.slice none 0 0, .slice none 0 0, .slice none 0 0]
  o1 : Own V B 4 1 (.slice (some ⟨g1, 0, none⟩) n c1) n xs
  o2 : Own V B 3 1 (.slice (some ⟨g2, 0, none⟩) n c2) n ys
  o3 : Own V B 3 1 (.slice (some ⟨g3, 0, none⟩) n c3) n zs
  ne : g2 ≠ g3
  hB : w.heap.size ≤ B
  bel : Below w.heap.size w V
variable {V : World} {B g1 c1 g2 c2 g3 c3 : Nat} {xs ys zs : List Value}
theorem own_off {B te m q g : Nat} {v : Value} {xs : List Value} (h : Own w B te m v q xs) (hn : v.ownBlock ≠ some g) (i : Nat) (u : Value) : Own (w.setCell ⟨g, i, none⟩ u) B te m v q xs := by
  refine ⟨h.1, ?_⟩
  rcases h.2 with h0 | ⟨g', cap, cur, hv, hB, hh, r⟩
  · exact .inl h0
  · refine .inr ⟨g', cap, cur, hv, hB, ?_, r⟩
    rw [Below.heap_setCell w ⟨g, i, none⟩ u g' (fun e => hn (by rw [hv]; simp only [Value.ownBlock]; rw [e]))]; exact hh
theorem TS.set1 (h : TS w V B g1 c1 g2 c2 g3 c3 n xs ys zs) (k : Nat) (u : Value) : TS w (V.setCell ⟨g1, k, none⟩ u) B g1 c1 g2 c2 g3 c3 n (xs.set k u) ys zs := by
  obtain ⟨hb, cur, hc⟩ := own_cur h.o1
  exact ⟨h.box.far (p := ⟨g1, k, none⟩) (h.box.ne_ hc (by decide)) u, h.res.far (p := ⟨g1, k, none⟩) (h.res.ne_ hc (by decide)) u, own_set h.o1 k u, h.o2.far hc (by decide) k u, h.o3.far hc (by decide) k u, h.ne, h.hB, h.bel.setCell (Nat.le_trans h.hB hb) _⟩
theorem TS.set2 (h : TS w V B g1 c1 g2 c2 g3 c3 n xs ys zs) (k : Nat) (u : Value) : TS w (V.setCell ⟨g2, k, none⟩ u) B g1 c1 g2 c2 g3 c3 n xs (ys.set k u) zs := by
  obtain ⟨hb, cur, hc⟩ := own_cur h.o2
  exact ⟨h.box.far (p := ⟨g2, k, none⟩) (h.box.ne_ hc (by decide)) u, h.res.far (p := ⟨g2, k, none⟩) (h.res.ne_ hc (by decide)) u, h.o1.far hc (by decide) k u, own_set h.o2 k u, own_off h.o3 (fun e => h.ne (by simpa [Value.ownBlock] using e.symm)) k u, h.ne, h.hB, h.bel.setCell (Nat.le_trans h.hB hb) _⟩
theorem TS.set3 (h : TS w V B g1 c1 g2 c2 g3 c3 n xs ys zs) (k : Nat) (u : Value) : TS w (V.setCell ⟨g3, k, none⟩ u) B g1 c1 g2 c2 g3 c3 n xs ys (zs.set k u) := by
  obtain ⟨hb, cur, hc⟩ := own_cur h.o3
  exact ⟨h.box.far (p := ⟨g3, k, none⟩) (h.box.ne_ hc (by decide)) u, h.res.far (p := ⟨g3, k, none⟩) (h.res.ne_ hc (by decide)) u, h.o1.far hc (by decide) k u, own_off h.o2 (fun e => h.ne (by simpa [Value.ownBlock] using e)) k u, own_set h.o3 k u, h.ne, h.hB, h.bel.setCell (Nat.le_trans h.hB hb) _⟩
theorem own_ty {w : World} {B g : Nat} {ty : TypeId} {m n c : Nat} {xs : List Value} (h : Own w B ty m (.slice (some ⟨g, 0, none⟩) n c) n xs) : ∀ bb o, (some ⟨g, 0, none⟩ : Option Addr) = some ⟨bb, o, none⟩ → ∃ cur, Blk w bb ty cur := fun bb o e => by
  injection e with e; injection e with e1 _; subst e1
  obtain ⟨_, cur, hc⟩ := own_cur h; exact ⟨cur, hc⟩
theorem TS.rs (h : TS w V B g1 c1 g2 c2 g3 c3 n (bl s n) (ol s n) (tl t n)) : RS V (some ⟨g1, 0, none⟩) (some ⟨g2, 0, none⟩) (some ⟨g3, 0, none⟩) n s t := by
  obtain ⟨_, _, e1, r1, _⟩ := Own.row h.o1
  obtain ⟨_, _, e2, r2, _⟩ := Own.row h.o2
  obtain ⟨_, _, e3, r3, _⟩ := Own.row h.o3
  injection e1 with e1 _ _
  injection e2 with e2 _ _
  injection e3 with e3 _ _
  subst e1 e2 e3
  exact ⟨r1, r2, r3, own_ty h.o1, own_ty h.o2, own_ty h.o3⟩
/-- Behind the store of the answer. -/
theorem TS.end_ (h : TS w V B g1 c1 g2 c2 g3 c3 n (bl s n) (ol s n) (tl t n)) (u1 u2 u3 : Value) :
    RS (((V.setCell ⟨w.heap.size + 1, 0, none⟩ u1).setCell ⟨w.heap.size + 1, 1, none⟩ u2).setCell ⟨w.heap.size + 1, 2, none⟩ u3) (some ⟨g1, 0, none⟩) (some ⟨g2, 0, none⟩) (some ⟨g3, 0, none⟩) n s t ∧
    Below w.heap.size w (((V.setCell ⟨w.heap.size + 1, 0, none⟩ u1).setCell ⟨w.heap.size + 1, 1, none⟩ u2).setCell ⟨w.heap.size + 1, 2, none⟩ u3) ∧
    Blk (((V.setCell ⟨w.heap.size + 1, 0, none⟩ u1).setCell ⟨w.heap.size + 1, 1, none⟩ u2).setCell ⟨w.heap.size + 1, 2, none⟩ u3) (w.heap.size + 1) 29 #[u1, u2, u3] := by
  have hle : ∀ i, w.heap.size ≤ (⟨w.heap.size + 1, i, none⟩ : Addr).block := fun i => by show w.heap.size ≤ w.heap.size + 1; omega
  have hne : g2 ≠ g3 := h.ne
  obtain ⟨p, q⟩ := o3_fin (v1 := u1) (v2 := u2) (v3 := u3) h.o1 h.o2 h.o3 (fun g e e' => hne (by simp [Value.ownBlock] at e e'; omega)) h.res
  refine ⟨?_, ((h.bel.setCell (hle 0) _).setCell (hle 1) _).setCell (hle 2) _, q⟩
  obtain ⟨_, _, e1, r1, _⟩ := Own.row p.o1
  obtain ⟨_, _, e2, r2, _⟩ := Own.row p.o2
  obtain ⟨_, _, e3, r3, _⟩ := Own.row p.o3
  injection e1 with e1 _ _
  injection e2 with e2 _ _
  injection e3 with e3 _ _
  subst e1 e2 e3
  exact ⟨r1, r2, r3, own_ty p.o1, own_ty p.o2, own_ty p.o3⟩
/-- Behind the own copy, stored into the box. -/
theorem ts_of {V : World} {A1 A2 A3 : Option Addr} {d1 d2 d3 k : Nat} {u1 u2 u3 : Value} (hw : Below w.heap.size w V) (ho : O3 V B A1 d1 A2 d2 A3 d3 n xs ys zs) (hB : w.heap.size + 1 < B) (hk : k < n)
    (hb : Blk V w.heap.size 29 #[u1, u2, u3]) (hr : Blk V (w.heap.size + 1) 29 #[.slice none 0 0, .slice none 0 0, .slice none 0 0]) :
    ∃ g1 g2 g3, A1 = some ⟨g1, 0, none⟩ ∧ A2 = some ⟨g2, 0, none⟩ ∧ A3 = some ⟨g3, 0, none⟩ ∧
      TS w (((V.setCell ⟨w.heap.size, 0, none⟩ (.slice A1 n d1)).setCell ⟨w.heap.size, 1, none⟩ (.slice A2 n d2)).setCell ⟨w.heap.size, 2, none⟩ (.slice A3 n d3)) B g1 d1 g2 d2 g3 d3 n xs ys zs := by
  have f : ∀ {te : TypeId} {A : Option Addr} {d : Nat} {xs : List Value}, Own V B te 1 (.slice A n d) n xs → ∃ g, A = some ⟨g, 0, none⟩ := fun {te A d xs} h => by
    rcases h.2 with ⟨e, h0⟩ | ⟨g, cap, cur, e, _⟩
    · omega
    · injection e with e1 _ _; exact ⟨g, e1⟩
  obtain ⟨g1, rfl⟩ := f ho.o1
  obtain ⟨g2, rfl⟩ := f ho.o2
  obtain ⟨g3, rfl⟩ := f ho.o3
  have hle : ∀ i, w.heap.size ≤ (⟨w.heap.size, i, none⟩ : Addr).block := fun i => Nat.le_refl _
  obtain ⟨p, q⟩ := o3_fin (v1 := .slice (some ⟨g1, 0, none⟩) n d1) (v2 := .slice (some ⟨g2, 0, none⟩) n d2) (v3 := .slice (some ⟨g3, 0, none⟩) n d3) ho.o1 ho.o2 ho.o3 ho.ne hb
  have hn : ∀ i, w.heap.size + 1 ≠ (⟨w.heap.size, i, none⟩ : Addr).block := fun i => by show w.heap.size + 1 ≠ w.heap.size; omega
  refine ⟨g1, g2, g3, rfl, rfl, rfl, q, ((hr.far (hn 0) _).far (hn 1) _).far (hn 2) _, p.o1, p.o2, p.o3, fun e => ?_, by omega, ((hw.setCell (hle 0) _).setCell (hle 1) _).setCell (hle 2) _⟩
  exact p.ne g2 rfl (by rw [e]; rfl)
end Go.Proofs.Ytppmfmgmlicefaa.P9
