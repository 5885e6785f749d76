/- A register of four slots in memory: its blocks, and the calls that look at them. -/
import Derived.Test.YthkpopphefolmaaDoorCNew
import Derived.Defers
namespace Go.Proofs.YthkpopphefolmaaDoor.F4
open Go.RowKit Go.Proofs.YthkpopphefolmaaDoor.G Go.Proofs.YthkpopphefolmaaDoor.Cell

/-- Nothing but the blocks of F, and new ones, has turned. -/
structure Only (F : Nat → Prop) (w w' : World) : Prop where
  os : w'.os = w.os
  tape : w'.tape = w.tape
  output : w'.output = w.output
  size : w.heap.size ≤ w'.heap.size
  block : ∀ b, b < w.heap.size → ¬ F b → w'.heap[b]? = w.heap[b]?
/-- F, and all blocks from n on. -/
def Gr (F : Nat → Prop) (n : Nat) : Nat → Prop := fun b => F b ∨ n ≤ b
theorem Only.refl (F : Nat → Prop) (w : World) : Only F w w := ⟨rfl, rfl, rfl, Nat.le_refl _, fun _ _ _ => rfl⟩
theorem Only.trans {F : Nat → Prop} {x y z : World} (h : Only F x y) (k : Only (Gr F x.heap.size) y z) : Only F x z :=
  ⟨k.os.trans h.os, k.tape.trans h.tape, k.output.trans h.output, Nat.le_trans h.size k.size, fun b hb hn => (k.block b (Nat.lt_of_lt_of_le hb h.size) (fun hh => hh.elim hn (fun h2 => by omega))).trans (h.block b hb hn)⟩
theorem Only.mono {F G : Nat → Prop} {x y : World} (h : Only F x y) (hFG : ∀ b, F b → G b) : Only G x y := ⟨h.os, h.tape, h.output, h.size, fun b hb hn => h.block b hb fun hf => hn (hFG b hf)⟩
theorem Only.trans_ {F : Nat → Prop} {x y z : World} (h : Only F x y) (k : Only F y z) : Only F x z := h.trans (k.mono fun _ hb => .inl hb)
theorem Only.of_below {F : Nat → Prop} {w w' : World} (h : Below w.heap.size w w') : Only F w w' := ⟨h.os, h.tape, h.output, h.size, fun b hb _ => h.block b hb⟩
theorem Only.of_keep {F : Nat → Prop} {b g : Nat} {w w' : World} (h : Keep b g w w') (hb : F b) (hg : F g) : Only F w w' :=
  ⟨h.os, h.tape, h.output, h.size, fun k hk hn => h.block k hk (fun e => hn (e ▸ hb)) (fun e => hn (e ▸ hg))⟩
theorem Only.set_ {F : Nat → Prop} {a w : World} (h : Only F a w) {b : Nat} (hb : F b) (i : Nat) (u : Value) : Only F a (w.setCell ⟨b, i, none⟩ u) :=
  ⟨h.os, h.tape, h.output, by simpa [World.setCell] using h.size, fun k hk hn => (Below.heap_setCell w ⟨b, i, none⟩ u k (fun e => hn (by rw [e]; exact hb))).trans (h.block k hk hn)⟩
theorem Only.drew {F : Nat → Prop} {a w : World} (h : Only F a w) : Only F a w.drew := ⟨h.os, h.tape, h.output, h.size, h.block⟩
theorem Only.to_below {F : Nat → Prop} {B : Nat} {a w w' : World} (h : Below B a w) (k : Only F w w') (hF : ∀ b, F b → B ≤ b) (hB : B ≤ w.heap.size) : Below B a w' :=
  h.trans ⟨k.os, k.tape, k.output, k.size, fun b hb => k.block b (by omega) (fun hf => by have := hF b hf; omega)⟩
theorem Only.blk {F : Nat → Prop} {w w' : World} {g : Nat} {t : TypeId} {cs : Array Value} (h : Blk w g t cs) (k : Only F w w') (hn : ¬ F g) : Blk w' g t cs := (k.block g h.lt hn).trans h

/-- Where a write's blocks lie: from lo on, below hi: what is under way, its accesses, their number's room, the variables that they share, and those of each word. -/
structure WA where
  lo : Nat
  hi : Nat
  u : Nat
  L : Nat
  cap : Nat
  rb : Nat
  pb : Nat
  qb : Nat
  ib : Nat → Nat
  vb : Nat → Nat
structure RA where
  lo : Nat
  hi : Nat
  u : Nat
  L : Nat
  cap : Nat
  rb : Nat
  tb : Nat
  t : Nat
  pb : Nat
  qb : Nat
  ib : Nat → Nat
def P (b : Nat) : Value := .pointer (some ⟨b, 0, none⟩)
def wclo (a : WA) (W j : Nat) : Value :=
  if j = 0 then .func (.func 128) #[] #[P a.rb, P a.pb]
  else if j = 1 then .func (.func 130) #[] #[P a.rb, P a.pb, P a.qb]
  else if j < 2 + W then .func (.func 131) #[] #[P a.rb, P a.pb, P a.qb, P (a.ib (j - 2)), P (a.vb (j - 2))]
  else if j = 2 + W then .func (.func 134) #[] #[P a.rb, P a.pb, P a.qb]
  else .func (.func 135) #[] #[P a.rb, P a.pb]
def rclo (a : RA) (j : Nat) : Value :=
  if j = 0 then .func (.func 136) #[] #[P a.rb, P a.pb]
  else if j = 1 then .func (.func 137) #[] #[P a.rb, P a.pb]
  else if j = 2 then .func (.func 138) #[] #[P a.rb, P a.pb, P a.qb]
  else .func (.func 139) #[] #[P a.rb, P a.pb, P a.qb, P (a.ib (j - 3)), P a.tb]
structure WrAt (w : World) (br W : Nat) (a : WA) (x : Wr) : Prop where
  run : Blk w a.u 159 #[.slice (some ⟨a.L, x.k, none⟩) (4 + W - x.k) (a.cap - x.k), .slice none 0 0]
  row : ∃ cs, Blk w a.L 1 cs ∧ ∀ j, j < 4 + W → cs[j]? = some (wclo a W j)
  rb : Blk w a.rb 72 #[P br]
  pb : Blk w a.pb 3 #[.int .i64 x.p]
  qb : Blk w a.qb 3 #[.int .i64 x.q]
  iv : ∀ j, j < W → Blk w (a.ib j) 3 #[.int .i64 j] ∧ Blk w (a.vb j) 3 #[.int .i64 (nth x.l j)]
structure WOrd (a : WA) (W : Nat) : Prop where
  cap : 4 + W ≤ a.cap
  cap2 : a.cap ≤ 9223372036854775807
  u : a.lo ≤ a.u ∧ a.u < a.hi
  L : a.lo ≤ a.L ∧ a.L < a.hi
  rb : a.lo ≤ a.rb ∧ a.rb < a.hi
  pb : a.lo ≤ a.pb ∧ a.pb < a.hi
  qb : a.lo ≤ a.qb ∧ a.qb < a.hi
  pq : a.pb ≠ a.qb
  iv : ∀ j, j < W → a.lo ≤ a.ib j ∧ a.ib j < a.hi ∧ a.lo ≤ a.vb j ∧ a.vb j < a.hi ∧ a.ib j ≠ a.pb ∧ a.ib j ≠ a.qb ∧ a.vb j ≠ a.pb ∧ a.vb j ≠ a.qb
structure RdAt (w : World) (br W : Nat) (a : RA) (y : Rr) : Prop where
  run : Blk w a.u 159 #[.slice (some ⟨a.L, y.k, none⟩) (3 + W - y.k) (a.cap - y.k), .slice (some ⟨a.t, 0, none⟩) W W]
  row : ∃ cs, Blk w a.L 1 cs ∧ ∀ j, j < 3 + W → cs[j]? = some (rclo a j)
  rb : Blk w a.rb 72 #[P br]
  tb : Blk w a.tb 26 #[.slice (some ⟨a.t, 0, none⟩) W W]
  t : Blk w a.t 3 (ints y.t)
  pb : Blk w a.pb 3 #[.int .i64 y.p]
  qb : Blk w a.qb 3 #[.int .i64 y.q]
  iv : ∀ j, j < W → Blk w (a.ib j) 3 #[.int .i64 j]
structure ROrd (a : RA) (W : Nat) : Prop where
  cap : 3 + W ≤ a.cap
  cap2 : a.cap ≤ 9223372036854775807
  u : a.lo ≤ a.u ∧ a.u < a.hi
  L : a.lo ≤ a.L ∧ a.L < a.hi
  rb : a.lo ≤ a.rb ∧ a.rb < a.hi
  tb : a.lo ≤ a.tb ∧ a.tb < a.hi
  t : a.lo ≤ a.t ∧ a.t < a.hi
  pb : a.lo ≤ a.pb ∧ a.pb < a.hi
  qb : a.lo ≤ a.qb ∧ a.qb < a.hi
  pq : a.pb ≠ a.qb ∧ a.t ≠ a.pb ∧ a.t ≠ a.qb
  iv : ∀ j, j < W → a.lo ≤ a.ib j ∧ a.ib j < a.hi ∧ a.ib j ≠ a.pb ∧ a.ib j ≠ a.qb ∧ a.ib j ≠ a.t
def wpt (s : St) (wa : WA) : Value := .pointer (s.wr.map fun _ => ⟨wa.u, 0, none⟩)
def rpt (s : St) (ra : RA) : Value := .pointer (s.rd.map fun _ => ⟨ra.u, 0, none⟩)
/-- A register: its struct in block br, its memory (struct bm, words gm), what is under way; F: all blocks that are its own. -/
structure Reg (w : World) (br bm gm : Nat) (wa : WA) (ra : RA) (s : St) (c : Int) (F : Nat → Prop) : Prop where
  head : Blk w br 153 #[.int .i64 s.W, P bm, wpt s wa, rpt s ra]
  mem : MemAt w bm gm s.m c
  lt : gm < br ∧ bm < br
  own : F br ∧ F bm ∧ F gm
  wr : ∀ x, s.wr = some x → WrAt w br s.W wa x
  wo : s.wr ≠ none → WOrd wa s.W ∧ br < wa.lo ∧ ∀ b, wa.lo ≤ b → b < wa.hi → F b
  rd : ∀ y, s.rd = some y → RdAt w br s.W ra y
  ro : s.rd ≠ none → ROrd ra s.W ∧ br < ra.lo ∧ ∀ b, ra.lo ≤ b → b < ra.hi → F b
  ap : s.wr ≠ none → s.rd ≠ none → wa.hi ≤ ra.lo ∨ ra.hi ≤ wa.lo
variable {w w' : World} {br bm gm W : Nat} {wa : WA} {ra : RA} {s : St} {c : Int} {F : Nat → Prop} {x : Wr} {y : Rr}
theorem WrAt.keep (h : WrAt w br W wa x) (o : WOrd wa W) (hk : ∀ b, b < w.heap.size → wa.lo ≤ b → b < wa.hi → w'.heap[b]? = w.heap[b]?) : WrAt w' br W wa x := by
  obtain ⟨cs, h1, h2⟩ := h.row
  exact ⟨(hk _ h.run.lt o.u.1 o.u.2).trans h.run, ⟨cs, (hk _ h1.lt o.L.1 o.L.2).trans h1, h2⟩, (hk _ h.rb.lt o.rb.1 o.rb.2).trans h.rb, (hk _ h.pb.lt o.pb.1 o.pb.2).trans h.pb, (hk _ h.qb.lt o.qb.1 o.qb.2).trans h.qb,
    fun j hj => ⟨(hk _ (h.iv j hj).1.lt (o.iv j hj).1 (o.iv j hj).2.1).trans (h.iv j hj).1, (hk _ (h.iv j hj).2.lt (o.iv j hj).2.2.1 (o.iv j hj).2.2.2.1).trans (h.iv j hj).2⟩⟩
theorem WrAt.setp (h : WrAt w br W wa x) (o : WOrd wa W) {p : Nat} (hk : ∀ b, b < w.heap.size → wa.lo ≤ b → b < wa.hi → b ≠ wa.pb → w'.heap[b]? = w.heap[b]?) (hp : Blk w' wa.pb 3 #[.int .i64 p]) : WrAt w' br W wa { x with p := p } := by
  obtain ⟨cs, h1, h2⟩ := h.row
  exact ⟨(hk _ h.run.lt o.u.1 o.u.2 (h.run.ne_ h.pb (by decide))).trans h.run, ⟨cs, (hk _ h1.lt o.L.1 o.L.2 (h1.ne_ h.pb (by decide))).trans h1, h2⟩, (hk _ h.rb.lt o.rb.1 o.rb.2 (h.rb.ne_ h.pb (by decide))).trans h.rb, hp, (hk _ h.qb.lt o.qb.1 o.qb.2 (Ne.symm o.pq)).trans h.qb,
    fun j hj => ⟨(hk _ (h.iv j hj).1.lt (o.iv j hj).1 (o.iv j hj).2.1 (o.iv j hj).2.2.2.2.1).trans (h.iv j hj).1, (hk _ (h.iv j hj).2.lt (o.iv j hj).2.2.1 (o.iv j hj).2.2.2.1 (o.iv j hj).2.2.2.2.2.2.1).trans (h.iv j hj).2⟩⟩
theorem WrAt.setq (h : WrAt w br W wa x) (o : WOrd wa W) {q : Nat} (hk : ∀ b, b < w.heap.size → wa.lo ≤ b → b < wa.hi → b ≠ wa.qb → w'.heap[b]? = w.heap[b]?) (hq : Blk w' wa.qb 3 #[.int .i64 q]) : WrAt w' br W wa { x with q := q } := by
  obtain ⟨cs, h1, h2⟩ := h.row
  exact ⟨(hk _ h.run.lt o.u.1 o.u.2 (h.run.ne_ h.qb (by decide))).trans h.run, ⟨cs, (hk _ h1.lt o.L.1 o.L.2 (h1.ne_ h.qb (by decide))).trans h1, h2⟩, (hk _ h.rb.lt o.rb.1 o.rb.2 (h.rb.ne_ h.qb (by decide))).trans h.rb, (hk _ h.pb.lt o.pb.1 o.pb.2 o.pq).trans h.pb, hq,
    fun j hj => ⟨(hk _ (h.iv j hj).1.lt (o.iv j hj).1 (o.iv j hj).2.1 (o.iv j hj).2.2.2.2.2.1).trans (h.iv j hj).1, (hk _ (h.iv j hj).2.lt (o.iv j hj).2.2.1 (o.iv j hj).2.2.2.1 (o.iv j hj).2.2.2.2.2.2.2).trans (h.iv j hj).2⟩⟩
theorem WrAt.adv (h : WrAt w br W wa x) (o : WOrd wa W) (hk : ∀ b, b < w.heap.size → wa.lo ≤ b → b < wa.hi → b ≠ wa.u → w'.heap[b]? = w.heap[b]?) (hu : Blk w' wa.u 159 #[.slice (some ⟨wa.L, x.k + 1, none⟩) (4 + W - (x.k + 1)) (wa.cap - (x.k + 1)), .slice none 0 0]) : WrAt w' br W wa { x with k := x.k + 1 } := by
  obtain ⟨cs, h1, h2⟩ := h.row
  exact ⟨hu, ⟨cs, (hk _ h1.lt o.L.1 o.L.2 (h1.ne_ h.run (by decide))).trans h1, h2⟩, (hk _ h.rb.lt o.rb.1 o.rb.2 (h.rb.ne_ h.run (by decide))).trans h.rb, (hk _ h.pb.lt o.pb.1 o.pb.2 (h.pb.ne_ h.run (by decide))).trans h.pb, (hk _ h.qb.lt o.qb.1 o.qb.2 (h.qb.ne_ h.run (by decide))).trans h.qb,
    fun j hj => ⟨(hk _ (h.iv j hj).1.lt (o.iv j hj).1 (o.iv j hj).2.1 ((h.iv j hj).1.ne_ h.run (by decide))).trans (h.iv j hj).1, (hk _ (h.iv j hj).2.lt (o.iv j hj).2.2.1 (o.iv j hj).2.2.2.1 ((h.iv j hj).2.ne_ h.run (by decide))).trans (h.iv j hj).2⟩⟩
theorem RdAt.keep (h : RdAt w br W ra y) (o : ROrd ra W) (hk : ∀ b, b < w.heap.size → ra.lo ≤ b → b < ra.hi → w'.heap[b]? = w.heap[b]?) : RdAt w' br W ra y := by
  obtain ⟨cs, h1, h2⟩ := h.row
  exact ⟨(hk _ h.run.lt o.u.1 o.u.2).trans h.run, ⟨cs, (hk _ h1.lt o.L.1 o.L.2).trans h1, h2⟩, (hk _ h.rb.lt o.rb.1 o.rb.2).trans h.rb, (hk _ h.tb.lt o.tb.1 o.tb.2).trans h.tb, (hk _ h.t.lt o.t.1 o.t.2).trans h.t, (hk _ h.pb.lt o.pb.1 o.pb.2).trans h.pb, (hk _ h.qb.lt o.qb.1 o.qb.2).trans h.qb,
    fun j hj => (hk _ (h.iv j hj).lt (o.iv j hj).1 (o.iv j hj).2.1).trans (h.iv j hj)⟩
theorem RdAt.setp (h : RdAt w br W ra y) (o : ROrd ra W) {p : Nat} (hk : ∀ b, b < w.heap.size → ra.lo ≤ b → b < ra.hi → b ≠ ra.pb → w'.heap[b]? = w.heap[b]?) (hp : Blk w' ra.pb 3 #[.int .i64 p]) : RdAt w' br W ra { y with p := p } := by
  obtain ⟨cs, h1, h2⟩ := h.row
  exact ⟨(hk _ h.run.lt o.u.1 o.u.2 (h.run.ne_ h.pb (by decide))).trans h.run, ⟨cs, (hk _ h1.lt o.L.1 o.L.2 (h1.ne_ h.pb (by decide))).trans h1, h2⟩, (hk _ h.rb.lt o.rb.1 o.rb.2 (h.rb.ne_ h.pb (by decide))).trans h.rb, (hk _ h.tb.lt o.tb.1 o.tb.2 (h.tb.ne_ h.pb (by decide))).trans h.tb, (hk _ h.t.lt o.t.1 o.t.2 o.pq.2.1).trans h.t, hp, (hk _ h.qb.lt o.qb.1 o.qb.2 (Ne.symm o.pq.1)).trans h.qb,
    fun j hj => (hk _ (h.iv j hj).lt (o.iv j hj).1 (o.iv j hj).2.1 (o.iv j hj).2.2.1).trans (h.iv j hj)⟩
theorem RdAt.setq (h : RdAt w br W ra y) (o : ROrd ra W) {q : Nat} (hk : ∀ b, b < w.heap.size → ra.lo ≤ b → b < ra.hi → b ≠ ra.qb → w'.heap[b]? = w.heap[b]?) (hq : Blk w' ra.qb 3 #[.int .i64 q]) : RdAt w' br W ra { y with q := q } := by
  obtain ⟨cs, h1, h2⟩ := h.row
  exact ⟨(hk _ h.run.lt o.u.1 o.u.2 (h.run.ne_ h.qb (by decide))).trans h.run, ⟨cs, (hk _ h1.lt o.L.1 o.L.2 (h1.ne_ h.qb (by decide))).trans h1, h2⟩, (hk _ h.rb.lt o.rb.1 o.rb.2 (h.rb.ne_ h.qb (by decide))).trans h.rb, (hk _ h.tb.lt o.tb.1 o.tb.2 (h.tb.ne_ h.qb (by decide))).trans h.tb, (hk _ h.t.lt o.t.1 o.t.2 o.pq.2.2).trans h.t, (hk _ h.pb.lt o.pb.1 o.pb.2 o.pq.1).trans h.pb, hq,
    fun j hj => (hk _ (h.iv j hj).lt (o.iv j hj).1 (o.iv j hj).2.1 (o.iv j hj).2.2.2.1).trans (h.iv j hj)⟩
theorem RdAt.sett (h : RdAt w br W ra y) (o : ROrd ra W) {l : List Int} (hk : ∀ b, b < w.heap.size → ra.lo ≤ b → b < ra.hi → b ≠ ra.t → w'.heap[b]? = w.heap[b]?) (hq : Blk w' ra.t 3 (ints l)) : RdAt w' br W ra { y with t := l } := by
  obtain ⟨cs, h1, h2⟩ := h.row
  exact ⟨(hk _ h.run.lt o.u.1 o.u.2 (h.run.ne_ h.t (by decide))).trans h.run, ⟨cs, (hk _ h1.lt o.L.1 o.L.2 (h1.ne_ h.t (by decide))).trans h1, h2⟩, (hk _ h.rb.lt o.rb.1 o.rb.2 (h.rb.ne_ h.t (by decide))).trans h.rb, (hk _ h.tb.lt o.tb.1 o.tb.2 (h.tb.ne_ h.t (by decide))).trans h.tb, hq, (hk _ h.pb.lt o.pb.1 o.pb.2 (Ne.symm o.pq.2.1)).trans h.pb, (hk _ h.qb.lt o.qb.1 o.qb.2 (Ne.symm o.pq.2.2)).trans h.qb,
    fun j hj => (hk _ (h.iv j hj).lt (o.iv j hj).1 (o.iv j hj).2.1 (o.iv j hj).2.2.2.2).trans (h.iv j hj)⟩
theorem RdAt.adv (h : RdAt w br W ra y) (o : ROrd ra W) (hk : ∀ b, b < w.heap.size → ra.lo ≤ b → b < ra.hi → b ≠ ra.u → w'.heap[b]? = w.heap[b]?) (hu : Blk w' ra.u 159 #[.slice (some ⟨ra.L, y.k + 1, none⟩) (3 + W - (y.k + 1)) (ra.cap - (y.k + 1)), .slice (some ⟨ra.t, 0, none⟩) W W]) : RdAt w' br W ra { y with k := y.k + 1 } := by
  obtain ⟨cs, h1, h2⟩ := h.row
  exact ⟨hu, ⟨cs, (hk _ h1.lt o.L.1 o.L.2 (h1.ne_ h.run (by decide))).trans h1, h2⟩, (hk _ h.rb.lt o.rb.1 o.rb.2 (h.rb.ne_ h.run (by decide))).trans h.rb, (hk _ h.tb.lt o.tb.1 o.tb.2 (h.tb.ne_ h.run (by decide))).trans h.tb, (hk _ h.t.lt o.t.1 o.t.2 (h.t.ne_ h.run (by decide))).trans h.t, (hk _ h.pb.lt o.pb.1 o.pb.2 (h.pb.ne_ h.run (by decide))).trans h.pb, (hk _ h.qb.lt o.qb.1 o.qb.2 (h.qb.ne_ h.run (by decide))).trans h.qb,
    fun j hj => (hk _ (h.iv j hj).lt (o.iv j hj).1 (o.iv j hj).2.1 ((h.iv j hj).ne_ h.run (by decide))).trans (h.iv j hj)⟩
/-- Elsewhere: nothing turns. -/
theorem Reg.only (h : Reg w br bm gm wa ra s c F) {G : Nat → Prop} (hb : Only G w w') (hn : ∀ b, F b → ¬ G b) : Reg w' br bm gm wa ra s c F :=
  ⟨Only.blk h.head hb (hn _ h.own.1), ⟨Only.blk h.mem.head hb (hn _ h.own.2.1), Only.blk h.mem.words hb (hn _ h.own.2.2)⟩, h.lt, h.own,
   fun x e => (h.wr x e).keep (h.wo (by rw [e]; simp)).1 fun b h0 h1 h2 => hb.block b h0 (hn b ((h.wo (by rw [e]; simp)).2.2 b h1 h2)), h.wo,
   fun y e => (h.rd y e).keep (h.ro (by rw [e]; simp)).1 fun b h0 h1 h2 => hb.block b h0 (hn b ((h.ro (by rw [e]; simp)).2.2 b h1 h2)), h.ro, h.ap⟩
theorem Reg.below (h : Reg w br bm gm wa ra s c F) (hb : Below w.heap.size w w') : Reg w' br bm gm wa ra s c F :=
  h.only (G := fun _ => False) (.of_below hb) fun _ _ => id
theorem Reg.mono {G : Nat → Prop} (h : Reg w br bm gm wa ra s c F) (hFG : ∀ b, F b → G b) : Reg w br bm gm wa ra s c G :=
  ⟨h.head, h.mem, h.lt, ⟨hFG _ h.own.1, hFG _ h.own.2.1, hFG _ h.own.2.2⟩, h.wr, fun e => ⟨(h.wo e).1, (h.wo e).2.1, fun b h1 h2 => hFG b ((h.wo e).2.2 b h1 h2)⟩, h.rd, fun e => ⟨(h.ro e).1, (h.ro e).2.1, fun b h1 h2 => hFG b ((h.ro e).2.2 b h1 h2)⟩, h.ap⟩

/-! ### What one access does -/
/-- What the writer's next access does, ahead of 'it made one more'. -/
def wDo (s : St) (x : Wr) : St :=
  if x.k = 0 then { s with wr := some { x with p := (1 - nth s.m 1).toNat } }
  else if x.k = 1 then { s with wr := some { x with q := (1 - nth s.m (2 + x.p)).toNat } }
  else if x.k < 2 + s.W then { s with m := s.m.set (pl s.W x.p x.q + (x.k - 2)) (nth x.l (x.k - 2)) }
  else if x.k = 2 + s.W then { s with m := s.m.set (2 + x.p) x.q }
  else { s with m := s.m.set 0 x.p }
def wAdv (s : St) : St := { s with wr := s.wr.map fun x => { x with k := x.k + 1 } }
theorem wNext_adv {s : St} {x : Wr} (hx : s.wr = some x) (hk : x.k ≤ 2 + s.W) : wNext s x = wAdv (wDo s x) := by
  unfold wNext wDo wAdv
  by_cases k0 : x.k = 0
  · simp [k0]
  · by_cases k1 : x.k = 1
    · simp [k1]
    · by_cases k2 : x.k < 2 + s.W
      · simp [k0, k1, k2, hx]
      · have k3 : x.k = 2 + s.W := by omega
        have w0 : ¬ 2 + s.W < 2 + s.W := by omega
        have w1 : ¬ 2 + s.W = 0 := by omega
        have w2 : ¬ 2 + s.W = 1 := by omega
        simp [k3, w2, hx]
theorem wNext_last {s : St} {x : Wr} (hk : x.k = 3 + s.W) : wNext s x = { wDo s x with wr := none } := by
  unfold wNext wDo
  rw [if_neg (by omega), if_neg (by omega), if_neg (by omega), if_neg (by omega), if_neg (by omega), if_neg (by omega), if_neg (by omega), if_neg (by omega)]
def rDo (s : St) (y : Rr) : St :=
  if y.k = 0 then { s with rd := some { y with p := (nth s.m 0).toNat } }
  else if y.k = 1 then { s with m := s.m.set 1 y.p }
  else if y.k = 2 then { s with rd := some { y with q := (nth s.m (2 + y.p)).toNat } }
  else { s with rd := some { y with t := rTold s y } }
def rAdv (s : St) : St := { s with rd := s.rd.map fun y => { y with k := y.k + 1 } }
theorem rNext_adv {s : St} {y : Rr} (hy : s.rd = some y) (hk : y.k < 2 + s.W) : rNext s y = rAdv (rDo s y) := by
  unfold rNext rDo rAdv
  by_cases k0 : y.k = 0
  · simp [k0]
  · by_cases k1 : y.k = 1
    · simp [k1, hy]
    · by_cases k2 : y.k = 2
      · simp [k2]
      · simp [k0, k1, k2, hk]
theorem rNext_last {s : St} {y : Rr} (w1 : 1 ≤ s.W) (hk : y.k = 2 + s.W) : rNext s y = { rDo s y with rd := none } := by
  unfold rNext rDo
  rw [if_neg (by omega), if_neg (by omega), if_neg (by omega), if_neg (by omega), if_neg (by omega), if_neg (by omega), if_neg (by omega)]
/-- The writer's blocks have turned, the reader's haven't. -/
theorem Reg.w_ (h : Reg w br bm gm wa ra s c F) {s' : St} {c' : Int} (hW : s'.W = s.W) (hrd : s'.rd = s.rd) (hnw : s'.wr ≠ none → s.wr ≠ none) (hhead : Blk w' br 153 #[.int .i64 s.W, P bm, wpt s' wa, rpt s ra]) (hmem : MemAt w' bm gm s'.m c')
    (hwr : ∀ x, s'.wr = some x → WrAt w' br s.W wa x) (hout : ∀ b, b < w.heap.size → b ≠ br → b ≠ bm → b ≠ gm → ¬ (wa.lo ≤ b ∧ b < wa.hi ∧ s.wr ≠ none) → w'.heap[b]? = w.heap[b]?) : Reg w' br bm gm wa ra s' c' F := by
  have e1 : rpt s' ra = rpt s ra := by unfold rpt; rw [hrd]
  refine ⟨by rw [hW, e1]; exact hhead, hmem, h.lt, h.own, fun x e => by rw [hW]; exact hwr x e, fun e => by rw [hW]; exact h.wo (hnw e), fun y e => ?_, fun e => by rw [hW]; exact h.ro (by rw [← hrd]; exact e), fun e1 e2 => h.ap (hnw e1) (by rw [← hrd]; exact e2)⟩
  rw [hrd] at e
  rw [hW]
  obtain ⟨o1, o2, o3⟩ := h.ro (by rw [e]; simp)
  have hlt := h.lt
  refine (h.rd y e).keep o1 fun b h0 h1 h2 => hout b h0 (by omega) (by omega) (by omega) fun ⟨g1, g2, g3⟩ => ?_
  rcases h.ap g3 (by rw [e]; simp) with h3 | h3 <;> omega
theorem Reg.r_ (h : Reg w br bm gm wa ra s c F) {s' : St} {c' : Int} (hW : s'.W = s.W) (hwr : s'.wr = s.wr) (hnr : s'.rd ≠ none → s.rd ≠ none) (hhead : Blk w' br 153 #[.int .i64 s.W, P bm, wpt s wa, rpt s' ra]) (hmem : MemAt w' bm gm s'.m c')
    (hrd : ∀ y, s'.rd = some y → RdAt w' br s.W ra y) (hout : ∀ b, b < w.heap.size → b ≠ br → b ≠ bm → b ≠ gm → ¬ (ra.lo ≤ b ∧ b < ra.hi ∧ s.rd ≠ none) → w'.heap[b]? = w.heap[b]?) : Reg w' br bm gm wa ra s' c' F := by
  have e1 : wpt s' wa = wpt s wa := by unfold wpt; rw [hwr]
  refine ⟨by rw [hW, e1]; exact hhead, hmem, h.lt, h.own, fun x e => ?_, fun e => by rw [hW]; exact h.wo (by rw [← hwr]; exact e), fun y e => by rw [hW]; exact hrd y e, fun e => by rw [hW]; exact h.ro (hnr e), fun e1 e2 => h.ap (by rw [← hwr]; exact e1) (hnr e2)⟩
  rw [hwr] at e
  rw [hW]
  obtain ⟨o1, o2, o3⟩ := h.wo (by rw [e]; simp)
  have hlt := h.lt
  refine (h.wr x e).keep o1 fun b h0 h1 h2 => hout b h0 (by omega) (by omega) (by omega) fun ⟨g1, g2, g3⟩ => ?_
  rcases h.ap (by rw [e]; simp) g3 with h3 | h3 <;> omega
theorem Reg.ne_w (h : Reg w br bm gm wa ra s c F) (e : s.wr = some x) {b : Nat} (hb : wa.lo ≤ b) : b ≠ br ∧ b ≠ bm ∧ b ≠ gm := by
  have h1 := (h.wo (by rw [e]; simp)).2.1
  have h2 := h.lt
  omega
theorem Reg.ne_r (h : Reg w br bm gm wa ra s c F) (e : s.rd = some y) {b : Nat} (hb : ra.lo ≤ b) : b ≠ br ∧ b ≠ bm ∧ b ≠ gm := by
  have h1 := (h.ro (by rw [e]; simp)).2.1
  have h2 := h.lt
  omega

/-! ### The calls that look at it -/
theorem under_w {u1 u2 : Value} (h : Blk w br 153 #[.int .i64 W, P bm, u1, u2]) : Calls Tryd.prog 105 #[P br, .bool true] w fun e w' => e = .returned u1 ∧ w = w' := by
  have k0 := h.cell
  unfold P
  go_enter Tryd.func105, Tryd.ntmps105
  go_wp2
  go_ret
  exact ⟨rfl, rfl⟩
theorem under_r {u1 u2 : Value} (h : Blk w br 153 #[.int .i64 W, P bm, u1, u2]) : Calls Tryd.prog 105 #[P br, .bool false] w fun e w' => e = .returned u2 ∧ w = w' := by
  have k0 := h.cell
  unfold P
  go_enter Tryd.func105, Tryd.ntmps105
  go_wp2
  go_ret
  exact ⟨rfl, rfl⟩
theorem under_nil (b : Bool) (w : World) : Calls Tryd.prog 105 #[.pointer none, .bool b] w fun e w' => e = .returned (.pointer none) ∧ w = w' := by
  go_enter Tryd.func105, Tryd.ntmps105
  go_wp2
  go_ret
  exact ⟨rfl, rfl⟩
end Go.Proofs.YthkpopphefolmaaDoor.F4
