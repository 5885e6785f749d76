/- Lanes in memory: their struct in one block, the row of all in a block of its own; what stays where something else turns. -/
import Derived.Test.YtmfkapbllmfegaaGen
namespace Go.Proofs.Ytmfkapbllmfegaa.L10
open Go.RowKit Go.Proofs.Ytmfkapbllmfegaa.G
set_option maxRecDepth 100000

/-- A message as it lies: where its words are, which, for how many there is room; its four numbers. -/
structure MV where
  a : Option Addr
  ws : List Int
  c : Nat
  ln : Int
  st : Int
  lt : Int
  sq : Int
instance : Inhabited MV := ⟨⟨none, [], 0, 0, 0, 0, 0⟩⟩
def MV.cells (m : MV) : List Value := [.slice m.a m.ws.length m.c, .int .i64 m.ln, .int .i64 m.st, .int .i64 m.lt, .int .i64 m.sq]
def MV.val (m : MV) : Value := .agg #[.slice m.a m.ws.length m.c, .int .i64 m.ln, .int .i64 m.st, .int .i64 m.lt, .int .i64 m.sq]
/-- What it tells. -/
structure Pm where
  ws : List Int
  ln : Int
  st : Int
  lt : Int
  sq : Int
  deriving DecidableEq
def MV.pl (m : MV) : Pm := ⟨m.ws, m.ln, m.st, m.lt, m.sq⟩
def mvs (l : List MV) : List Value := l.flatMap MV.cells
theorem MV.cells_len (m : MV) : m.cells.length = 5 := rfl
theorem MV.one (m : MV) : ∀ u ∈ m.cells, u.oneCell' = true := by
  intro u hu
  simp only [MV.cells, List.mem_cons, List.not_mem_nil, or_false] at hu
  rcases hu with rfl | rfl | rfl | rfl | rfl <;> rfl
theorem mvs_len (l : List MV) : (mvs l).length = l.length * 5 := flat_len MV.cells_len l
theorem mvs_one (l : List MV) : ∀ u ∈ mvs l, u.oneCell' = true := flat_one MV.one l
theorem mvs_app (l r : List MV) : mvs (l ++ r) = mvs l ++ mvs r := List.flatMap_append
theorem mvs_snoc (l : List MV) (m : MV) : mvs (l ++ [m]) = mvs l ++ m.cells := by rw [mvs_app]; simp [mvs]
def MsgAt (w : World) (b o : Nat) (m : MV) : Prop := w.cell? ⟨b, o, none⟩ = some (.slice m.a m.ws.length m.c) ∧ w.cell? ⟨b, o + 1, none⟩ = some (.int .i64 m.ln) ∧ w.cell? ⟨b, o + 2, none⟩ = some (.int .i64 m.st) ∧ w.cell? ⟨b, o + 3, none⟩ = some (.int .i64 m.lt) ∧ w.cell? ⟨b, o + 4, none⟩ = some (.int .i64 m.sq)
theorem row_msg {w : World} {A : Option Addr} {l : List MV} (h : Row w A (mvs l)) {k : Nat} {m : MV} (hm : l[k]? = some m) : ∃ b o : Nat, A = some ⟨b, o, none⟩ ∧ b < w.heap.size ∧ MsgAt w b (o + k * 5) m := by
  have hk : k < l.length := (List.getElem?_eq_some_iff.1 hm).1
  obtain ⟨b, o, e, hb, hc⟩ := h (by rw [mvs_len]; omega)
  have hf := fun j (hj : j < 5) => flat_at MV.cells_len l k j m hm hj
  refine ⟨b, o, e, hb, ?_, ?_, ?_, ?_, ?_⟩
  · exact hc (k * 5 + 0) _ (by rw [mvs, hf 0 (by omega)]; rfl)
  · have := hc (k * 5 + 1) _ (by rw [mvs, hf 1 (by omega)]; rfl); rwa [← Nat.add_assoc] at this
  · have := hc (k * 5 + 2) _ (by rw [mvs, hf 2 (by omega)]; rfl); rwa [← Nat.add_assoc] at this
  · have := hc (k * 5 + 3) _ (by rw [mvs, hf 3 (by omega)]; rfl); rwa [← Nat.add_assoc] at this
  · have := hc (k * 5 + 4) _ (by rw [mvs, hf 4 (by omega)]; rfl); rwa [← Nat.add_assoc] at this
theorem own_msg {w : World} {B n c : Nat} {A : Option Addr} {l : List MV} (h : Own w B 43 5 (.slice A n c) l.length (mvs l)) {k : Nat} {m : MV} (hm : l[k]? = some m) : n = l.length ∧ ∃ g : Nat, A = some ⟨g, 0, none⟩ ∧ g < w.heap.size ∧ MsgAt w g (k * 5) m := by
  obtain ⟨A', c', e, hr, _, _, hA⟩ := h.row
  injection e with e1 e2 e3
  subst e1 e3
  obtain ⟨g, o, rfl, hg, hq⟩ := row_msg hr hm
  obtain ⟨rfl, _⟩ := hA g o rfl
  rw [Nat.zero_add] at hq
  exact ⟨e2, g, rfl, hg, hq⟩
theorem infoM : (Try.prog.info? 43).map (fun i => (i.zero, i.size, i.bytes)) = some (some (.agg #[.slice none 0 0, .int .i64 0, .int .i64 0, .int .i64 0, .int .i64 0]), 5, 56) := by kernel_rfl
theorem infoI : (Try.prog.info? 3).map (fun i => (i.zero, i.size, i.bytes)) = some (some (.int .i64 0), 1, 8) := by kernel_rfl

/-! ### What has turned -/
/-- Nothing but the blocks of F, and new ones, has turned. -/
structure Only (F : Nat → Prop) (w w' : World) : Prop where
  os : w'.os = w.os
  tape : w'.tape = w.tape
  output : w'.output = w.output
  size : w.heap.size ≤ w'.heap.size
  block : ∀ b, b < w.heap.size → ¬ F b → w'.heap[b]? = w.heap[b]?
def Gr (F : Nat → Prop) (n : Nat) : Nat → Prop := fun b => F b ∨ n ≤ b
theorem Only.refl (F : Nat → Prop) (w : World) : Only F w w := ⟨rfl, rfl, rfl, Nat.le_refl _, fun _ _ _ => rfl⟩
theorem Only.trans {F : Nat → Prop} {x y z : World} (h : Only F x y) (k : Only (Gr F x.heap.size) y z) : Only F x z :=
  ⟨k.os.trans h.os, k.tape.trans h.tape, k.output.trans h.output, Nat.le_trans h.size k.size, fun b hb hn => (k.block b (Nat.lt_of_lt_of_le hb h.size) (fun hh => hh.elim hn (fun h2 => by omega))).trans (h.block b hb hn)⟩
theorem Only.mono {F G : Nat → Prop} {x y : World} (h : Only F x y) (hFG : ∀ b, F b → G b) : Only G x y := ⟨h.os, h.tape, h.output, h.size, fun b hb hn => h.block b hb fun hf => hn (hFG b hf)⟩
theorem Only.trans_ {F : Nat → Prop} {x y z : World} (h : Only F x y) (k : Only F y z) : Only F x z := h.trans (k.mono fun _ hb => .inl hb)
theorem Only.of {F : Nat → Prop} {w w' : World} (h : Below w.heap.size w w') : Only F w w' := ⟨h.os, h.tape, h.output, h.size, fun b hb _ => h.block b hb⟩
theorem Only.bel {F : Nat → Prop} {x y z : World} (h : Only F x y) (k : Below y.heap.size y z) : Only F x z := h.trans_ (.of k)
theorem Only.set_ {F : Nat → Prop} {a w : World} (h : Only F a w) {b : Nat} (hb : F b ∨ a.heap.size ≤ b) (i : Nat) (u : Value) : Only F a (w.setCell ⟨b, i, none⟩ u) :=
  ⟨h.os, h.tape, h.output, by simpa [World.setCell] using h.size, fun k hk hn => (Below.heap_setCell w ⟨b, i, none⟩ u k (fun e => by
    rcases hb with h1 | h1
    · exact hn (by rw [e]; exact h1)
    · have e' : k = b := e
      omega)).trans (h.block k hk hn)⟩
theorem Only.drewN {F : Nat → Prop} {a w : World} (h : Only F a w) (n : Nat) : Only F a (w.drewN n) := ⟨h.os, h.tape, h.output, h.size, h.block⟩
theorem Only.alloc {F : Nat → Prop} {a w : World} (h : Only F a w) (o : Obj) : Only F a (w.alloc o) := h.bel (b01 _ _)
theorem Only.to_below {F : Nat → Prop} {B : Nat} {a w w' : World} (h : Below B a w) (k : Only F w w') (hF : ∀ b, F b → B ≤ b) (hB : B ≤ w.heap.size) : Below B a w' :=
  h.trans ⟨k.os, k.tape, k.output, k.size, fun b hb => k.block b (by omega) (fun hf => by have := hF b hf; omega)⟩
theorem Only.blk {F : Nat → Prop} {w w' : World} {g : Nat} {t : TypeId} {cs : Array Value} (h : Blk w g t cs) (k : Only F w w') (hn : ¬ F g) : Blk w' g t cs := (k.block g h.lt hn).trans h
theorem Only.own {F : Nat → Prop} {w w' : World} {B : Nat} {t : TypeId} {m n : Nat} {v : Value} {xs : List Value} (h : Own w B t m v n xs) (k : Only F w w') (hn : ∀ g, v.ownBlock = some g → ¬ F g) : Own w' B t m v n xs := by
  refine ⟨h.1, ?_⟩
  rcases h.2 with h0 | ⟨g, cap, cur, hv, hB, hh, r⟩
  · exact .inl h0
  · refine .inr ⟨g, cap, cur, hv, hB, ?_, r⟩
    rw [k.block g (Blk.lt (w := w) (t := t) (cs := cur) hh) (hn g (by rw [hv]; simp [Value.ownBlock]))]; exact hh
theorem Only.grown {F : Nat → Prop} {a w w' : World} {row : Option Nat} (h : Only F a w) (g : w.grownBy w' row) (hr : ∀ k, row = some k → F k ∨ a.heap.size ≤ k) : Only F a w' :=
  ⟨g.os.trans h.os, g.tape.trans h.tape, g.output.trans h.output, Nat.le_trans h.size g.size, fun k hk hn => (g.block k (Nat.lt_of_lt_of_le hk h.size) (fun e => by
    rcases hr k e.symm with h1 | h1
    · exact hn h1
    · omega)).trans (h.block k hk hn)⟩

/-! ### Lanes -/
/-- Lanes: their struct in block b, L lanes of P places, the row of all as r tells it. -/
structure Ln (w : World) (b : Nat) (L P : Nat) (r : Value) (d : List MV) : Prop where
  blk : Blk w b 94 #[.int .i64 L, .int .i64 P, r]
  own : Own w 0 43 5 r d.length (mvs d)
/-- The blocks that are theirs. -/
def FL (b : Nat) (r : Value) : Nat → Prop := fun k => k = b ∨ r.ownBlock = some k
variable {w w' : World} {b L P : Nat} {r : Value} {d : List MV}
theorem Ln.lt (h : Ln w b L P r d) : b < w.heap.size := h.blk.lt
theorem Ln.below (h : Ln w b L P r d) (hb : Below w.heap.size w w') : Ln w' b L P r d := ⟨h.blk.bel hb, h.own.below hb⟩
theorem Ln.drewN (h : Ln w b L P r d) (n : Nat) : Ln (w.drewN n) b L P r d := ⟨h.blk.drewN n, h.own.drewN n⟩
theorem Ln.cells (h : Ln w b L P r d) : w.cell? ⟨b, 0, none⟩ = some (.int .i64 L) ∧ w.cell? ⟨b, 1, none⟩ = some (.int .i64 P) ∧ w.cell? ⟨b, 2, none⟩ = some r :=
  ⟨by rw [h.blk.cell]; rfl, by rw [h.blk.cell]; rfl, by rw [h.blk.cell]; rfl⟩
theorem Ln.typ (h : Ln w b L P r d) {k : Nat} (hk : FL b r k) : ∃ t cs, Blk w k t cs ∧ (t = 94 ∨ t = 43) := by
  rcases hk with rfl | hk
  · exact ⟨_, _, h.blk, .inl rfl⟩
  · obtain ⟨_, cur, hc⟩ := h.own.block_lt hk
    exact ⟨_, _, hc, .inr rfl⟩
theorem Ln.off (h : Ln w b L P r d) {g : Nat} {t : TypeId} {cs : Array Value} (hg : Blk w g t cs) (h1 : t ≠ 94) (h2 : t ≠ 43) : ¬ FL b r g := fun hk => by
  obtain ⟨t', cs', hb, ht⟩ := h.typ hk
  unfold Blk at hg hb
  rw [hg] at hb
  injection hb with hb
  injection hb with _ hb
  rcases ht with rfl | rfl
  · exact h1 hb
  · exact h2 hb
/-- What the row of all may be: as it was, or new. -/
def Nw (n : Nat) (r r' : Value) : Prop := r'.ownBlock = r.ownBlock ∨ ∀ k, r'.ownBlock = some k → n ≤ k
theorem Nw.refl (n : Nat) (r : Value) : Nw n r r := .inl rfl
theorem Nw.trans {n m : Nat} {r s t : Value} (h : Nw n r s) (k : Nw m s t) (hn : n ≤ m) : Nw n r t := by
  rcases k with k | k
  · rcases h with h | h
    · exact .inl (k.trans h)
    · exact .inr fun q hq => h q (by rw [← k]; exact hq)
  · exact .inr fun q hq => Nat.le_trans hn (k q hq)
theorem only_FL {b n : Nat} {r r' : Value} {x y z : World} (h : Only (FL b r) x y) (hn : Nw n r r') (hx : x.heap.size ≤ n) (k : Only (FL b r') y z) : Only (FL b r) x z :=
  h.trans (k.mono fun q hq => by
    rcases hq with rfl | hq
    · exact .inl (.inl rfl)
    · rcases hn with hn | hn
      · exact .inl (.inr (by rw [← hn]; exact hq))
      · exact .inr (Nat.le_trans hx (hn q hq)))
/-- All that is theirs is B, or behind it. -/
def Ab (B b : Nat) (r : Value) : Prop := ∀ k, FL b r k → B ≤ k
theorem Ab.of {B b n : Nat} {r r' : Value} (h : Ab B b r) (hn : Nw n r r') (hB : B ≤ n) : Ab B b r' := fun k hk => by
  rcases hk with rfl | hk
  · exact h _ (.inl rfl)
  · rcases hn with hn | hn
    · exact h _ (.inr (by rw [← hn]; exact hk))
    · exact Nat.le_trans hB (hn k hk)
end Go.Proofs.Ytmfkapbllmfegaa.L10
