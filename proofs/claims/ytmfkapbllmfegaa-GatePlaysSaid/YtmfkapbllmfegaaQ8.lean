/- Sorting messages: a row whose elements change places, as a function of places; how it lies in memory. -/
import Derived.Test.YtmfkapbllmfegaaQ7
namespace Go.Proofs.Ytmfkapbllmfegaa.L10
open Go.RowKit Go.Proofs.Ytmfkapbllmfegaa.G Go.Sort
set_option maxRecDepth 100000
variable {w w' : World}

/-! ### Rows, plain -/
section
variable {α : Type}
def sw (i j : Nat) (s : Nat → α) : Nat → α := fun k => if k = i then s j else if k = j then s i else s k
/-- The row's first n, as a list. -/
def ls (n : Nat) (s : Nat → α) : List α := (List.range n).map s
theorem ls_len (n : Nat) (s : Nat → α) : (ls n s).length = n := by simp [ls]
theorem ls_at (n : Nat) (s : Nat → α) {k : Nat} (h : k < n) : (ls n s)[k]? = some (s k) := by simp [ls, h]
theorem ls_sw (n : Nat) (s : Nat → α) (i j : Nat) (hi : i < n) (hj : j < n) (hij : i ≠ j) : ((ls n s).set i (s j)).set j (s i) = ls n (sw i j s) := by
  apply List.ext_getElem
  · simp [ls]
  · intro k h1 h2
    simp only [ls, List.getElem_set, List.getElem_map, List.getElem_range, sw]
    by_cases e1 : j = k
    · subst e1
      simp [Ne.symm hij]
    · by_cases e2 : i = k
      · subst e2; simp [e1]
      · simp [e1, e2, Ne.symm e1, Ne.symm e2]
variable (lt : α → α → Bool)
/-- One element goes down to its place. -/
def insIn (a : Nat) : Nat → (Nat → α) → (Nat → α)
  | 0, s => s
  | j + 1, s => if a < j + 1 ∧ lt (s (j + 1)) (s j) = true then insIn a j (sw (j + 1) j s) else s
/-- n elements, from the i-th on. -/
def insOut (a : Nat) : Nat → Nat → (Nat → α) → (Nat → α)
  | 0, _, s => s
  | n + 1, i, s => insOut a n (i + 1) (insIn lt a i s)
def insS (a b : Nat) (s : Nat → α) : Nat → α := insOut lt a (b - (a + 1)) (a + 1) s
end
def ltM (x y : MV) : Bool := decide (x.ln < y.ln)

/-! ### Rows in memory -/
theorem set5_mvs (x : MV) : ∀ (l : List MV) (k : Nat), k < l.length → (((((mvs l).set (k * 5) (.slice x.a x.ws.length x.c)).set (k * 5 + 1) (.int .i64 x.ln)).set (k * 5 + 2) (.int .i64 x.st)).set (k * 5 + 3) (.int .i64 x.lt)).set (k * 5 + 4) (.int .i64 x.sq) = mvs (l.set k x)
  | [], _, h => absurd h (by simp)
  | m :: t, 0, _ => by simp [mvs, MV.cells]
  | m :: t, k + 1, h => by
    have ih := set5_mvs x t k (by simpa using h)
    have e : ∀ t' : List MV, mvs (m :: t') = .slice m.a m.ws.length m.c :: .int .i64 m.ln :: .int .i64 m.st :: .int .i64 m.lt :: .int .i64 m.sq :: mvs t' := fun t' => by simp [mvs, MV.cells]
    rw [List.set_cons_succ, e, e, ← ih]
    have e0 : (k + 1) * 5 = k * 5 + 5 := by omega
    rw [e0]
    simp only [List.set_cons_succ]
theorem own_set {B g : Nat} {t : TypeId} {m n c : Nat} {xs : List Value} (h : Own w B t m (.slice (some ⟨g, 0, none⟩) n c) n xs) (j : Nat) (u : Value) : Own (w.setCell ⟨g, j, none⟩ u) B t m (.slice (some ⟨g, 0, none⟩) n c) n (xs.set j u) := by
  refine ⟨by rw [List.length_set]; exact h.1, ?_⟩
  rcases h.2 with ⟨e, _⟩ | ⟨g', cap, cur, e, hB, hh, hle, hm, hs, ht⟩
  · cases e
  · injection e with e1 e2 e3
    injection e1 with e1
    injection e1 with e1
    subst e1
    refine .inr ⟨g, cap, cur.setIfInBounds j u, by rw [← e3], hB, ?_, hle, hm, by simpa using hs, ?_⟩
    · exact Blk.set_ (w := w) (g := g) (t := t) (cs := cur) hh j u
    · rw [Array.toList_setIfInBounds, List.take_set, ht]
/-- A row of n messages in block g: s tells each; since w0 nothing else has turned. -/
structure Sv (w0 : World) (g n c : Nat) (s : Nat → MV) (W : World) : Prop where
  own : Own W 0 43 5 (.slice (some ⟨g, 0, none⟩) n c) n (mvs (ls n s))
  on : Only (fun k => k = g) w0 W
variable {w0 W : World} {g n c : Nat} {s : Nat → MV}
theorem Sv.below (h : Sv w0 g n c s W) {W' : World} (hb : Below W.heap.size W W') : Sv w0 g n c s W' := ⟨h.own.below hb, h.on.bel hb⟩
theorem Sv.blk (h : Sv w0 g n c s W) : ∃ cur, Blk W g 43 cur := by
  obtain ⟨_, cur, hc⟩ := h.own.block_lt (g := g) (by simp [Value.ownBlock])
  exact ⟨cur, hc⟩
theorem Sv.at_ (h : Sv w0 g n c s W) {k : Nat} (hk : k < n) : MsgAt W g (k * 5) (s k) := by
  have ho := h.own
  rw [show Own W 0 43 5 (.slice (some ⟨g, 0, none⟩) n c) n (mvs (ls n s)) = Own W 0 43 5 (.slice (some ⟨g, 0, none⟩) n c) (ls n s).length (mvs (ls n s)) by rw [ls_len]] at ho
  obtain ⟨_, g', e, _, hm⟩ := own_msg ho (ls_at n s hk)
  injection e with e
  injection e with e
  subst e
  exact hm
theorem Sv.frozen (h : Sv w0 g n c s W) (i : Nat) : W.frozen? ⟨g, i, none⟩ = false := by
  obtain ⟨cur, hb⟩ := h.blk; exact hb.frozen i
def put5 (W : World) (g o : Nat) (x : MV) : World := ((((W.setCell ⟨g, o, none⟩ (.slice x.a x.ws.length x.c)).setCell ⟨g, o + 1, none⟩ (.int .i64 x.ln)).setCell ⟨g, o + 2, none⟩ (.int .i64 x.st)).setCell ⟨g, o + 3, none⟩ (.int .i64 x.lt)).setCell ⟨g, o + 4, none⟩ (.int .i64 x.sq)
theorem only_put5 {F : Nat → Prop} {a : World} (h : Only F a W) (hg : F g) (o : Nat) (x : MV) : Only F a (put5 W g o x) :=
  ((((h.set_ (.inl hg) o _).set_ (.inl hg) (o + 1) _).set_ (.inl hg) (o + 2) _).set_ (.inl hg) (o + 3) _).set_ (.inl hg) (o + 4) _
theorem Sv.swap (h : Sv w0 g n c s W) {i j : Nat} (hi : i < n) (hj : j < n) (hij : i ≠ j) : Sv w0 g n c (sw i j s) (put5 (put5 W g (i * 5) (s j)) g (j * 5) (s i)) := by
  refine ⟨?_, ?_⟩
  · have h1 := own_set (own_set (own_set (own_set (own_set h.own (i * 5) (.slice (s j).a (s j).ws.length (s j).c)) (i * 5 + 1) (.int .i64 (s j).ln)) (i * 5 + 2) (.int .i64 (s j).st)) (i * 5 + 3) (.int .i64 (s j).lt)) (i * 5 + 4) (.int .i64 (s j).sq)
    rw [set5_mvs _ _ _ (by rw [ls_len]; exact hi)] at h1
    have h2 := own_set (own_set (own_set (own_set (own_set h1 (j * 5) (.slice (s i).a (s i).ws.length (s i).c)) (j * 5 + 1) (.int .i64 (s i).ln)) (j * 5 + 2) (.int .i64 (s i).st)) (j * 5 + 3) (.int .i64 (s i).lt)) (j * 5 + 4) (.int .i64 (s i).sq)
    rw [set5_mvs _ _ _ (by rw [List.length_set, ls_len]; exact hj), ls_sw n s i j hi hj hij] at h2
    exact h2
  · exact only_put5 (only_put5 h.on rfl _ _) rfl _ _
end Go.Proofs.Ytmfkapbllmfegaa.L10
