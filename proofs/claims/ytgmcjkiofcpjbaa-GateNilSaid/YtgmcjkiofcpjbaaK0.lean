/- A bucket: as plain data (how many tokens, and which round, it has behind coming to a round), and as it lies in memory; what stays where it turns. -/
import Derived.Test.YtgmcjkiofcpjbaaS1
namespace Go.Proofs.Ytgmcjkiofcpjbaa.K11
open Go.RowKit Go.Proofs.Ytgmcjkiofcpjbaa.G Go.Proofs.Ytgmcjkiofcpjbaa.Sat
set_option maxRecDepth 100000

/-- How many it has, behind coming to the round r. -/
def ctok (R C T N r : Int) : Int := min (add T (mul R (sub r N))) C
/-- Its round behind that. -/
def crnd (N r : Int) : Int := max N (cut r)
structure Ok (R C T N : Int) : Prop where
  r0 : 0 ≤ R
  r1 : R ≤ 64
  c0 : 1 ≤ C
  c1 : C ≤ 64
  t0 : 0 ≤ T
  t1 : T ≤ C
  n0 : 0 ≤ N
  n1 : N ≤ 4611686018427387904
variable {R C T N r : Int}
theorem add_bd (a b : Int) : 0 ≤ add a b ∧ add a b ≤ 4611686018427387904 := cut_bd _
theorem Ok.come (h : Ok R C T N) (r : Int) : Ok R C (ctok R C T N r) (crnd N r) := by
  have h1 := add_bd T (mul R (sub r N))
  have h2 := cut_bd r
  obtain ⟨a, b, c, d, e, f, g, i⟩ := h
  refine ⟨a, b, c, d, ?_, ?_, ?_, ?_⟩
  · unfold ctok; omega
  · unfold ctok; omega
  · unfold crnd; omega
  · unfold crnd; omega
theorem Ok.take (h : Ok R C T N) (ht : T ≠ 0) : Ok R C (T - 1) N := by
  obtain ⟨a, b, c, d, e, f, g, i⟩ := h
  exact ⟨a, b, c, d, by omega, by omega, g, i⟩
theorem Ok.full (h : Ok R C T N) : Ok R C C N := by
  obtain ⟨a, b, c, d, e, f, g, i⟩ := h
  exact ⟨a, b, c, d, by omega, by omega, g, i⟩
/-- A round that is not above its own changes nothing. -/
theorem come_same (h : Ok R C T N) (hr : cut r ≤ N) : ctok R C T N r = T ∧ crnd N r = N := by
  obtain ⟨a, b, c, d, e, f, g, i⟩ := h
  have hs : sub r N = 0 := by unfold sub; rw [cut_id N g i]; exact cut_lo _ (by omega)
  have hm : mul R 0 = 0 := by unfold mul; rw [cut_id 0 (by decide) (by decide), Int.mul_zero]; rfl
  have ha : add T 0 = T := by unfold add; rw [cut_id T e (by omega), cut_id 0 (by decide) (by decide), Int.add_zero]; exact cut_id T e (by omega)
  unfold ctok crnd
  rw [hs, hm, ha]
  omega

/-- A call that only reads, inside a region that draws. -/
theorem quiet_left {P : Program} {f : FuncId} {args : Array Value} {w : World} {n : Nat} {v : Value}
    (h : Calls P f args (w.drewN n) fun e w' => e = .returned v ∧ w.drewN n = w') : Calls P f args (w.drewN n) fun e w'' => e = .returned v ∧ ∃ m, w'' = w.drewN m :=
  h.mono fun _ _ ⟨he, hm⟩ => ⟨he, n, hm.symm⟩
/-! ### In memory -/
structure Bk (w : World) (b : Nat) (R C T N : Int) : Prop where
  blk : Blk w b 102 #[.int .i64 R, .int .i64 C, .int .i64 T, .int .i64 N]
  ok : Ok R C T N
variable {w w' : World} {b : Nat}
theorem Bk.lt (h : Bk w b R C T N) : b < w.heap.size := h.blk.lt
theorem Bk.below (h : Bk w b R C T N) (hb : Below w.heap.size w w') : Bk w' b R C T N := ⟨h.blk.bel hb, h.ok⟩
theorem Bk.cells (h : Bk w b R C T N) : w.cell? ⟨b, 0, none⟩ = some (.int .i64 R) ∧ w.cell? ⟨b, 1, none⟩ = some (.int .i64 C) ∧ w.cell? ⟨b, 2, none⟩ = some (.int .i64 T) ∧ w.cell? ⟨b, 3, none⟩ = some (.int .i64 N) :=
  ⟨by rw [h.blk.cell]; rfl, by rw [h.blk.cell]; rfl, by rw [h.blk.cell]; rfl, by rw [h.blk.cell]; rfl⟩
theorem Bk.frozen (h : Bk w b R C T N) (i : Nat) : w.frozen? ⟨b, i, none⟩ = false := h.blk.frozen i
theorem Bk.tok (h : Bk w b R C T N) (t : Int) (ok : Ok R C t N) : Bk (w.setCell ⟨b, 2, none⟩ (.int .i64 t)) b R C t N := ⟨h.blk.set_ 2 (.int .i64 t), ok⟩
/-- Only the block b, and new ones, have turned. -/
structure Ob (b : Nat) (w w' : World) : Prop where
  os : w'.os = w.os
  tape : w'.tape = w.tape
  output : w'.output = w.output
  size : w.heap.size ≤ w'.heap.size
  block : ∀ k, k < w.heap.size → k ≠ b → w'.heap[k]? = w.heap[k]?
theorem Ob.refl (b : Nat) (w : World) : Ob b w w := ⟨rfl, rfl, rfl, Nat.le_refl _, fun _ _ _ => rfl⟩
theorem Ob.of (hb : Below w.heap.size w w') : Ob b w w' := ⟨hb.os, hb.tape, hb.output, hb.size, fun k hk _ => hb.block k hk⟩
theorem Ob.trans {x y z : World} (h : Ob b x y) (k : Ob b y z) : Ob b x z :=
  ⟨k.os.trans h.os, k.tape.trans h.tape, k.output.trans h.output, Nat.le_trans h.size k.size, fun i hi hn => (k.block i (Nat.lt_of_lt_of_le hi h.size) hn).trans (h.block i hi hn)⟩
theorem Ob.set_ {a : World} (h : Ob b a w) (i : Nat) (u : Value) : Ob b a (w.setCell ⟨b, i, none⟩ u) :=
  ⟨h.os, h.tape, h.output, by simpa [World.setCell] using h.size, fun k hk hn => (Below.heap_setCell w ⟨b, i, none⟩ u k hn).trans (h.block k hk hn)⟩
theorem Ob.drewN {a : World} (h : Ob b a w) (k : Nat) : Ob b a (w.drewN k) := ⟨h.os, h.tape, h.output, h.size, h.block⟩
theorem Ob.drew {a : World} (h : Ob b a w) : Ob b a w.drew := ⟨h.os, h.tape, h.output, h.size, h.block⟩
theorem Ob.to_below {B : Nat} {a : World} (h : Below B a w) (k : Ob b w w') (hB : B ≤ w.heap.size) (hb : B ≤ b) : Below B a w' :=
  h.trans ⟨k.os, k.tape, k.output, k.size, fun i hi => k.block i (by omega) (by omega)⟩
theorem Ob.blk {g : Nat} {ty : TypeId} {cs : Array Value} (h : Blk w g ty cs) (k : Ob b w w') (hn : g ≠ b) : Blk w' g ty cs := (k.block g h.lt hn).trans h
/-- A row that lies elsewhere. -/
theorem Ob.row {A : Option Addr} {xs : List Value} (h : Row w A xs) (k : Ob b w w') (hn : ∀ g o, A = some ⟨g, o, none⟩ → g ≠ b) : Row w' A xs := fun h0 => by
  obtain ⟨g, o, e, hg, hc⟩ := h h0
  refine ⟨g, o, e, Nat.lt_of_lt_of_le hg k.size, fun j u hj => ?_⟩
  have := hc j u hj
  unfold World.cell? at this ⊢
  rw [k.block g hg (hn g o e)]
  exact this
end Go.Proofs.Ytgmcjkiofcpjbaa.K11
