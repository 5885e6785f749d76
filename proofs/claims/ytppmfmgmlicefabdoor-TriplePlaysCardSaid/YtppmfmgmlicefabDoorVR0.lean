/- The document's register of three slots as it lies in memory: lists that are its own, what each shows of the plain state. -/
import Derived.Test.YtppmfmgmlicefabDoorVAll
namespace Go.Proofs.YtppmfmgmlicefabDoor.T3
open Go.RowKit Go.Proofs.YtppmfmgmlicefabDoor.G Go.Proofs.YtppmfmgmlicefabDoor.Cell
set_option maxRecDepth 100000

theorem ext_nth {l r : List Int} (h : l.length = r.length) (hn : ∀ i, i < l.length → nth l i = nth r i) : l = r := by
  apply List.ext_getElem h
  intro i h1 h2
  have := hn i h1
  simpa [nth, h1, h2] using this
/-- The words of the message j. -/
def seg (s : St) (j : Nat) : List Int := (s.m.drop (pl s.W j)).take s.W
theorem seg_len {s : St} (h : Ok s) {j : Nat} (hj : j ≤ 2) : (seg s j).length = s.W := by
  have hl := h.len
  have h1 := h.w1
  have := pl_lt (W := s.W) hj (i := s.W - 1) (by omega)
  unfold seg
  rw [List.length_take, List.length_drop]; omega
theorem seg_nth {s : St} {j i : Nat} (hi : i < s.W) : nth (seg s j) i = nth s.m (pl s.W j + i) := by
  unfold seg nth
  rw [List.getD_eq_getElem?_getD, List.getD_eq_getElem?_getD, List.getElem?_take_of_lt hi, List.getElem?_drop]
theorem seg_eq {s s' : St} (hW : s'.W = s.W) (h : Ok s) (h' : Ok s') {j : Nat} (hj : j ≤ 2) (hm : ∀ i, i < s.W → nth s'.m (pl s.W j + i) = nth s.m (pl s.W j + i)) : seg s' j = seg s j := by
  apply ext_nth (by rw [seg_len h' hj, seg_len h hj, hW])
  intro i hi
  rw [seg_len h' hj, hW] at hi
  rw [seg_nth (by rw [hW]; exact hi), seg_nth hi, hW]
  exact hm i hi
theorem seg_m {s s' : St} (hW : s'.W = s.W) (hm : s'.m = s.m) (j : Nat) : seg s' j = seg s j := by unfold seg; rw [hW, hm]
theorem seg_all {s : St} (h : Ok s) : nth s.m 0 :: (seg s 0 ++ (seg s 1 ++ seg s 2)) = s.m := by
  have hl := h.len
  have l0 := seg_len h (j := 0) (by omega)
  have l1 := seg_len h (j := 1) (by omega)
  have l2 := seg_len h (j := 2) (by omega)
  apply ext_nth (by simp [l0, l1, l2, hl]; omega)
  intro i hi
  simp only [List.length_cons, List.length_append, l0, l1, l2] at hi
  rcases i with _ | i
  · rfl
  · have e : nth (nth s.m 0 :: (seg s 0 ++ (seg s 1 ++ seg s 2))) (i + 1) = nth (seg s 0 ++ (seg s 1 ++ seg s 2)) i := by simp [nth]
    rw [e]
    have ap : ∀ (l r : List Int) (i : Nat), nth (l ++ r) i = if i < l.length then nth l i else nth r (i - l.length) := fun l r i => by
      unfold nth
      rw [List.getD_eq_getElem?_getD, List.getElem?_append]
      split <;> rw [List.getD_eq_getElem?_getD]
    rw [ap]
    split
    · rename_i h0
      rw [seg_nth (by rw [← l0]; exact h0)]
      congr 1; simp [pl]; omega
    rw [ap, l0]
    split
    · rename_i h0
      rw [l1] at h0
      rw [seg_nth h0]
      congr 1; simp [pl]; omega
    · rw [l1]
      rename_i h0 h1
      rw [l0] at h0; rw [l1] at h1
      rw [seg_nth (by omega)]
      congr 1; simp [pl]; omega

/-- A list that can be read, in blocks that are N's. -/
def LF (w : World) (N : Nat → Prop) (v : Value) (l : List Int) : Prop := ∃ (A : Option Addr) (c : Nat), v = .slice A l.length c ∧ l.length ≤ c ∧ c ≤ 9223372036854775807 ∧ (0 < l.length → ∃ g o, A = some ⟨g, o, none⟩ ∧ N g ∧ g < w.heap.size ∧ ∀ j, j < l.length → w.cell? ⟨g, o + j, none⟩ = some (.int .i64 (nth l j)))
variable {w w' : World} {N : Nat → Prop} {v : Value} {l : List Int}
theorem LF.nil (w : World) (N : Nat → Prop) : LF w N (.slice none 0 0) [] := ⟨none, 0, rfl, by simp, by omega, fun h => absurd h (by simp)⟩
theorem LF.only {G : Nat → Prop} (h : LF w N v l) (hO : Only G w w') (hn : ∀ g, N g → ¬ G g) : LF w' N v l := by
  obtain ⟨A, c, h1, h2, h3, h4⟩ := h
  refine ⟨A, c, h1, h2, h3, fun h0 => ?_⟩
  obtain ⟨g, o, e, hN, hg, hc⟩ := h4 h0
  exact ⟨g, o, e, hN, Nat.lt_of_lt_of_le hg hO.size, fun j hj => (World.cell?_of_block (hO.block g hg (hn g hN))).trans (hc j hj)⟩
theorem LF.bel (h : LF w N v l) (hb : Below w.heap.size w w') : LF w' N v l := h.only (G := fun _ => False) (.of_below hb) fun _ _ => id
theorem LF.mono {N' : Nat → Prop} (h : LF w N v l) (hN : ∀ g, g < w.heap.size → N g → N' g) : LF w N' v l := by
  obtain ⟨A, c, h1, h2, h3, h4⟩ := h
  refine ⟨A, c, h1, h2, h3, fun h0 => ?_⟩
  obtain ⟨g, o, e, hN', hg, hc⟩ := h4 h0
  exact ⟨g, o, e, hN g hg hN', hg, hc⟩
theorem LF.far {q o : Nat} (h : LF w N v l) (hq : ¬ N q) (u : Value) : LF (w.setCell ⟨q, o, none⟩ u) N v l := by
  obtain ⟨A, c, h1, h2, h3, h4⟩ := h
  refine ⟨A, c, h1, h2, h3, fun h0 => ?_⟩
  obtain ⟨g, o', e, hN', hg, hc⟩ := h4 h0
  have hne : g ≠ q := fun e => hq (e ▸ hN')
  exact ⟨g, o', e, hN', by simpa [World.setCell] using hg, fun j hj => (World.cell?_of_block (Below.heap_setCell w ⟨q, o, none⟩ u g hne)).trans (hc j hj)⟩
theorem LF.row (h : LF w N v l) : ∃ A c, v = .slice A l.length c ∧ l.length ≤ c ∧ c ≤ 9223372036854775807 ∧ Row w A (iv' l) := by
  obtain ⟨A, c, h1, h2, h3, h4⟩ := h
  refine ⟨A, c, h1, h2, h3, fun h0 => ?_⟩
  have hl : (iv' l).length = l.length := by simp [iv']
  rw [hl] at h0
  obtain ⟨g, o, e, hN', hg, hc⟩ := h4 h0
  refine ⟨g, o, e, hg, fun j u hj => ?_⟩
  have hjl : j < l.length := by rw [← hl]; exact (List.getElem?_eq_some_iff.1 hj).1
  rw [hc j hjl, ← hj]; simp [iv', nth, hjl]
theorem LF.of_own {B n : Nat} (h : w.ownsRow B 3 1 v n (l.map (Value.int .i64))) (hn : n = l.length) (hN : ∀ g, B ≤ g → N g) : LF w N v l := by
  subst hn
  rcases h.2 with ⟨e, h0⟩ | ⟨g, cap, cur, e, hB, hh, r⟩
  · refine ⟨none, 0, ?_, by omega, by omega, fun h1 => by omega⟩
    rw [e, h0]
  · refine ⟨some ⟨g, 0, none⟩, cap, e, ?_, ?_, fun h0 => ⟨g, 0, rfl, hN g hB, Blk.lt (t := 3) (cs := cur) hh, fun j hj => ?_⟩⟩
    · exact r.1
    · have := r.2.1; unfold maxLen at this; exact this
    · subst e
      rw [Nat.zero_add, h.cellAt j (by omega)]; simp [nth, hj]
theorem LF.of_own_at {B n g cap : Nat} (h : w.ownsRow B 3 1 (.slice (some ⟨g, 0, none⟩) n cap) n (l.map (Value.int .i64))) (hn : n = l.length) : LF w (fun x => x = g) (.slice (some ⟨g, 0, none⟩) n cap) l := by
  subst hn
  rcases h.2 with ⟨e, h0⟩ | ⟨g', cap', cur, e, hB, hh, r⟩
  · cases e
  · injection e with e1 e2 e3
    injection e1 with e1
    injection e1 with e1
    subst e1 e3
    refine ⟨_, _, rfl, r.1, by have := r.2.1; unfold maxLen at this; exact this, fun h0 => ⟨g, 0, rfl, rfl, Blk.lt (t := 3) (cs := cur) hh, fun j hj => ?_⟩⟩
    rw [Nat.zero_add, h.cellAt j (by omega)]; simp [nth, hj]
end Go.Proofs.YtppmfmgmlicefabDoor.T3
