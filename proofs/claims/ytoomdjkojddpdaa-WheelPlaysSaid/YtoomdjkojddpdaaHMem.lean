/- What has turned: some blocks, and new ones, alone; calls that read, and make new memory alone. -/
import Derived.Test.YtoomdjkojddpdaaGen
import Derived.Shelf.SlSortCmp.QuietGrown
import Derived.BigRegion
import Derived.BigFrame
import Derived.RegionTactic
import Derived.Deep.RegionWith
import Derived.Deep.QuietTactic
import Derived.BigQuiet
import Derived.Deep.DeepCutAuto
import Derived.Deep.CutRange
import Derived.Deep.DeepMust
import Derived.Deep.RegionHeld3
import Derived.StillTailTactics
namespace Go.Proofs.Ytoomdjkojddpdaa.H14
open Go.RowKit Go.Proofs.Ytoomdjkojddpdaa.G Go.Sort
set_option maxRecDepth 100000

theorem infoI : (Try.prog.info? 3).map (fun i => (i.zero, i.size, i.bytes)) = some (some (.int .i64 0), 1, 8) := by kernel_rfl
/-! ### What has turned -/
/-- Nothing but the blocks of F, and new ones, has turned. -/
structure Only (F : Nat → Prop) (w w' : World) : Prop where
  os : w'.os = w.os
  tape : w'.tape = w.tape
  output : w'.output = w.output
  size : w.heap.size ≤ w'.heap.size
  block : ∀ b, b < w.heap.size → ¬ F b → w'.heap[b]? = w.heap[b]?
def Gr (F : Nat → Prop) (n : Nat) : Nat → Prop := fun b => F b ∨ n ≤ b
theorem Only.refl (F : Nat → Prop) (w : World) : Only F w w := ⟨rfl, rfl, rfl, Nat.le_refl _, fun _ _ _ => rfl⟩
theorem Only.trans {F : Nat → Prop} {x y z : World} (h : Only F x y) (k : Only (Gr F x.heap.size) y z) : Only F x z :=
  ⟨k.os.trans h.os, k.tape.trans h.tape, k.output.trans h.output, Nat.le_trans h.size k.size, fun b hb hn => (k.block b (Nat.lt_of_lt_of_le hb h.size) (fun hh => hh.elim hn (fun h2 => by omega))).trans (h.block b hb hn)⟩
theorem Only.mono {F G : Nat → Prop} {x y : World} (h : Only F x y) (hFG : ∀ b, F b → G b) : Only G x y := ⟨h.os, h.tape, h.output, h.size, fun b hb hn => h.block b hb fun hf => hn (hFG b hf)⟩
theorem Only.trans_ {F : Nat → Prop} {x y z : World} (h : Only F x y) (k : Only F y z) : Only F x z := h.trans (k.mono fun _ hb => .inl hb)
theorem Only.of {F : Nat → Prop} {w w' : World} (h : Below w.heap.size w w') : Only F w w' := ⟨h.os, h.tape, h.output, h.size, fun b hb _ => h.block b hb⟩
theorem Only.bel {F : Nat → Prop} {x y z : World} (h : Only F x y) (k : Below y.heap.size y z) : Only F x z := h.trans_ (.of k)
theorem Only.set_ {F : Nat → Prop} {a w : World} (h : Only F a w) {b : Nat} (hb : F b ∨ a.heap.size ≤ b) (i : Nat) (u : Value) : Only F a (w.setCell ⟨b, i, none⟩ u) :=
  ⟨h.os, h.tape, h.output, by simpa [World.setCell] using h.size, fun k hk hn => (Below.heap_setCell w ⟨b, i, none⟩ u k (fun e => by
    rcases hb with h1 | h1
    · exact hn (by rw [e]; exact h1)
    · have e' : k = b := e
      omega)).trans (h.block k hk hn)⟩
theorem Only.drewN {F : Nat → Prop} {a w : World} (h : Only F a w) (n : Nat) : Only F a (w.drewN n) := ⟨h.os, h.tape, h.output, h.size, h.block⟩
theorem Only.alloc {F : Nat → Prop} {a w : World} (h : Only F a w) (o : Obj) : Only F a (w.alloc o) := h.bel (b01 _ _)
theorem Only.to_below {F : Nat → Prop} {B : Nat} {a w w' : World} (h : Below B a w) (k : Only F w w') (hF : ∀ b, F b → B ≤ b) (hB : B ≤ w.heap.size) : Below B a w' :=
  h.trans ⟨k.os, k.tape, k.output, k.size, fun b hb => k.block b (by omega) (fun hf => by have := hF b hf; omega)⟩
theorem Only.blk {F : Nat → Prop} {w w' : World} {g : Nat} {t : TypeId} {cs : Array Value} (h : Blk w g t cs) (k : Only F w w') (hn : ¬ F g) : Blk w' g t cs := (k.block g h.lt hn).trans h
theorem Only.own {F : Nat → Prop} {w w' : World} {B : Nat} {t : TypeId} {m n : Nat} {v : Value} {xs : List Value} (h : Own w B t m v n xs) (k : Only F w w') (hn : ∀ g, v.ownBlock = some g → ¬ F g) : Own w' B t m v n xs := by
  refine ⟨h.1, ?_⟩
  rcases h.2 with h0 | ⟨g, cap, cur, hv, hB, hh, r⟩
  · exact .inl h0
  · refine .inr ⟨g, cap, cur, hv, hB, ?_, r⟩
    rw [k.block g (Blk.lt (w := w) (t := t) (cs := cur) hh) (hn g (by rw [hv]; simp [Value.ownBlock]))]; exact hh
theorem Only.grown {F : Nat → Prop} {a w w' : World} {row : Option Nat} (h : Only F a w) (g : w.grownBy w' row) (hr : ∀ k, row = some k → F k ∨ a.heap.size ≤ k) : Only F a w' :=
  ⟨g.os.trans h.os, g.tape.trans h.tape, g.output.trans h.output, Nat.le_trans h.size g.size, fun k hk hn => (g.block k (Nat.lt_of_lt_of_le hk h.size) (fun e => by
    rcases hr k e.symm with h1 | h1
    · exact hn h1
    · omega)).trans (h.block k hk hn)⟩

variable {w w' : World}
theorem below_grow (w : World) (n : Nat) (os : Array Obj) : Below w.heap.size w (grow (w.drewN n) os) :=
  ⟨rfl, rfl, rfl, by simp, fun k hk => heap_grow_old _ os hk⟩
theorem blk_gcell {g : Nat} {t : TypeId} {cs : Array Value} {v : Value} (h : Blk w g t cs) (n : Nat) (os : Array Obj) (i : Nat) (hv : cs[i]? = some v) : (grow (w.drewN n) os).cell? ⟨g, i, none⟩ = some v :=
  cell_grown h.lt (by rw [h.cell]; exact hv) n os
/-- .. reads, and makes new memory alone. -/
def Gw (w w' : World) : Prop := ∃ q os, w' = grow (w.drewN q) os
theorem Gw.refl (w : World) : Gw w w := ⟨0, #[], by rw [grow_empty]; rfl⟩
theorem Gw.trans {x y z : World} (h : Gw x y) (k : Gw y z) : Gw x z := by
  obtain ⟨q, os, rfl⟩ := h
  obtain ⟨r, ps, rfl⟩ := k
  refine ⟨q + r, os ++ ps, ?_⟩
  show grow (grow ((x.drewN q).drewN r) os) ps = _
  rw [grow_grow, World.drewN_drewN]
theorem Gw.below {w w' : World} (h : Gw w w') : Below w.heap.size w w' := by obtain ⟨q, os, rfl⟩ := h; exact below_grow w q os
end Go.Proofs.Ytoomdjkojddpdaa.H14
