/- A pool in memory: its struct in one block, and what stays where something else turns; two states compared. -/
import Derived.Test.YtppmfmgmlicefaaGen
import Derived.Test.YtppmfmgmlicefaaP0
namespace Go.Proofs.Ytppmfmgmlicefaa.P9
open Go.RowKit Go.Proofs.Ytppmfmgmlicefaa.G
set_option maxRecDepth 100000

def B1 (o : Option Int) : Bool := o.isSome
def V1 (o : Option Int) : Int := o.getD 0
theorem B1_none : B1 none = false := rfl
theorem V1_none : V1 none = 0 := rfl
theorem B1_some (v : Int) : B1 (some v) = true := rfl
theorem V1_some (v : Int) : V1 (some v) = v := rfl
theorem bv_inj {o p : Option Int} (h1 : B1 o = B1 p) (h2 : V1 o = V1 p) : o = p := by
  cases o <;> cases p <;> simp_all [B1, V1]
/-- A state's value. -/
def sval (o : Option Int) : Value := .agg #[.bool (B1 o), .int .i64 (V1 o)]
structure Cs (cs : Array Value) (n : Nat) (s : SS) (t : Nat → Int) : Prop where
  size : cs.size = 193
  c0 : cs[0]? = some (.int .i64 n)
  cb : ∀ k, k < 64 → cs[1 + k * 2]? = some (.bool (B1 (s k)))
  co : ∀ k, k < 64 → cs[1 + k * 2 + 1]? = some (.int .i64 (V1 (s k)))
  ct : ∀ k, k < 64 → cs[129 + k]? = some (.int .i64 (t k))
/-- A pool: its struct in block b; n slots, whose they are, how often they were taken (at most c times each). -/
structure Pl (w : World) (b n : Nat) (s : SS) (t : Nat → Int) (c : Int) : Prop where
  blk : ∃ cs, Blk w b 60 cs ∧ Cs cs n s t
  n64 : n ≤ 64
  tb : ∀ k, 0 ≤ t k ∧ t k ≤ c
variable {w w' : World} {b n : Nat} {s : SS} {t : Nat → Int} {c : Int}
theorem Pl.lt (h : Pl w b n s t c) : b < w.heap.size := by obtain ⟨cs, h1, _⟩ := h.blk; exact h1.lt
theorem Pl.below (h : Pl w b n s t c) (hb : Below w.heap.size w w') : Pl w' b n s t c := by
  obtain ⟨cs, h1, h2⟩ := h.blk
  exact ⟨⟨cs, h1.bel hb, h2⟩, h.n64, h.tb⟩
theorem Pl.cell0 (h : Pl w b n s t c) : w.cell? ⟨b, 0, none⟩ = some (.int .i64 n) := by
  obtain ⟨cs, h1, h2⟩ := h.blk; rw [h1.cell]; exact h2.c0
theorem Pl.cells (h : Pl w b n s t c) {k : Nat} (hk : k < 64) : w.cell? ⟨b, 1 + k * 2, none⟩ = some (.bool (B1 (s k))) ∧ w.cell? ⟨b, 1 + k * 2 + 1, none⟩ = some (.int .i64 (V1 (s k))) := by
  obtain ⟨cs, h1, h2⟩ := h.blk; exact ⟨by rw [h1.cell]; exact h2.cb k hk, by rw [h1.cell]; exact h2.co k hk⟩
theorem Pl.turn (h : Pl w b n s t c) {k : Nat} (hk : k < 64) : w.cell? ⟨b, 129 + k, none⟩ = some (.int .i64 (t k)) := by
  obtain ⟨cs, h1, h2⟩ := h.blk; rw [h1.cell]; exact h2.ct k hk
theorem Pl.frozen (h : Pl w b n s t c) (i : Nat) : w.frozen? ⟨b, i, none⟩ = false := by
  obtain ⟨cs, h1, _⟩ := h.blk; exact h1.frozen i
theorem Pl.more (h : Pl w b n s t c) {c' : Int} (hc : c ≤ c') : Pl w b n s t c' := ⟨h.blk, h.n64, fun k => ⟨(h.tb k).1, Int.le_trans (h.tb k).2 hc⟩⟩
/-- Only the block b, and new ones, have turned. -/
structure Ob (b : Nat) (w w' : World) : Prop where
  os : w'.os = w.os
  tape : w'.tape = w.tape
  output : w'.output = w.output
  size : w.heap.size ≤ w'.heap.size
  block : ∀ k, k < w.heap.size → k ≠ b → w'.heap[k]? = w.heap[k]?
theorem Ob.refl (b : Nat) (w : World) : Ob b w w := ⟨rfl, rfl, rfl, Nat.le_refl _, fun _ _ _ => rfl⟩
theorem Ob.of (hb : Below w.heap.size w w') : Ob b w w' := ⟨hb.os, hb.tape, hb.output, hb.size, fun k hk _ => hb.block k hk⟩
theorem Ob.trans {x y z : World} (h : Ob b x y) (k : Ob b y z) : Ob b x z :=
  ⟨k.os.trans h.os, k.tape.trans h.tape, k.output.trans h.output, Nat.le_trans h.size k.size, fun i hi hn => (k.block i (Nat.lt_of_lt_of_le hi h.size) hn).trans (h.block i hi hn)⟩
theorem Ob.set_ {a : World} (h : Ob b a w) (i : Nat) (u : Value) : Ob b a (w.setCell ⟨b, i, none⟩ u) :=
  ⟨h.os, h.tape, h.output, by simpa [World.setCell] using h.size, fun k hk hn => (Below.heap_setCell w ⟨b, i, none⟩ u k hn).trans (h.block k hk hn)⟩
theorem Ob.drewN {a : World} (h : Ob b a w) (k : Nat) : Ob b a (w.drewN k) := ⟨h.os, h.tape, h.output, h.size, h.block⟩
theorem Ob.to_below {B : Nat} {a : World} (h : Below B a w) (k : Ob b w w') (hB : B ≤ w.heap.size) (hb : B ≤ b) : Below B a w' :=
  h.trans ⟨k.os, k.tape, k.output, k.size, fun i hi => k.block i (by omega) (by omega)⟩
/-- What else lies in memory. -/
theorem Ob.blk {g : Nat} {ty : TypeId} {cs : Array Value} (h : Blk w g ty cs) (k : Ob b w w') (hn : g ≠ b) : Blk w' g ty cs := (k.block g h.lt hn).trans h

/-! ### Two states -/
theorem run_eqS (a : Bool) (x : Int) (a' : Bool) (x' : Int) (w : World) : (Op.equalIn 10000 56 (.agg #[.bool a, .int .i64 x]) (.agg #[.bool a', .int .i64 x'])).run Try.prog w = .ok (decide (a = a' ∧ x = x')) w := by
  have hu : Try.prog.underlying 56 = some (.struct (Try.prog.fieldsOf 56)) := by kernel_rfl
  have hp : Try.prog.stoodInHeld 56 = false := by kernel_rfl
  have u3 := Try.underlying3
  have u4 := Try.underlying4
  rw [run_equalIn_struct w 9999 56 _ _ hu hp]
  by_cases h1 : a = a' <;> by_cases h2 : x = x' <;> simp [go_sem, h1, h2]
theorem run_eqlS {a : Bool} {x : Int} {a' : Bool} {x' : Int} {r : Bool} (h : decide (a = a' ∧ x = x') = r) (w : World) : (binOp .eql 56 (.agg #[.bool a, .int .i64 x]) (.agg #[.bool a', .int .i64 x'])).run Try.prog w = .ok (.bool r) w := by
  have e := run_eqS a x a' x' w
  rw [run_eql_struct, e, h]; rfl
theorem run_neqS {a : Bool} {x : Int} {a' : Bool} {x' : Int} {r : Bool} (h : decide (a = a' ∧ x = x') = r) (w : World) : (binOp .neq 56 (.agg #[.bool a, .int .i64 x]) (.agg #[.bool a', .int .i64 x'])).run Try.prog w = .ok (.bool (!r)) w := by
  have e := run_eqS a x a' x' w
  rw [run_neq_struct, e, h]; rfl
theorem bv_dec (o p : Option Int) : decide (B1 o = B1 p ∧ V1 o = V1 p) = decide (o = p) := by
  rw [Bool.eq_iff_iff, decide_eq_true_eq, decide_eq_true_eq]
  exact ⟨fun ⟨h1, h2⟩ => bv_inj h1 h2, fun h => by subst h; exact ⟨rfl, rfl⟩⟩

/-! ### there, len -/
def HerePost (b n : Nat) (w : World) (e : Ending) (w' : World) : Prop := e = .returned (.slice (some ⟨b, 1, none⟩) n 64) ∧ Below w.heap.size w w'
end Go.Proofs.Ytppmfmgmlicefaa.P9
