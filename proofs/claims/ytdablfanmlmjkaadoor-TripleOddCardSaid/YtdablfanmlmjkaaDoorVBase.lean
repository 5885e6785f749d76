/- Words for the walks of stage 7: a new struct of the statements, what stays below. -/
import Derived.Test.YtdablfanmlmjkaaDoorVTurn2
import Derived.Test.YtdablfanmlmjkaaDoorVLive
import Derived.Test.YtdablfanmlmjkaaDoorVArgs
namespace Go.Proofs.YtdablfanmlmjkaaDoor.T3
open Go.RowKit Go.Proofs.YtdablfanmlmjkaaDoor.G Go.Proofs.YtdablfanmlmjkaaDoor.Cell
set_option maxRecDepth 100000
theorem low_more {F F' : Nat → Prop} {n m : Nat} (h : ∀ q, F q → n ≤ q) (hm : More F F' m) (hn : n ≤ m) : ∀ q, F' q → n ≤ q := fun q hq => by
  rcases hm q hq with h1 | h1
  · exact h q h1
  · exact Nat.le_trans hn h1
theorem below_only {F : Nat → Prop} {w V V' : World} {gw : Nat} (h : Below w.heap.size w V) (hO : Only (FG F gw) V V') (hF : ∀ q, F q → w.heap.size ≤ q) (hg : w.heap.size ≤ gw) : Below w.heap.size w V' :=
  Only.to_below h hO (fun q hq => by
    rcases hq with h1 | h1
    · exact hF q h1
    · rw [h1]; exact hg) h.size
/-- The statements' struct, new. -/
theorem tw_new {w w1 : World} {br : Nat} {n : Int} (hp : 0 < w.heap.size) (hr : RegX w1 br (s0 (fW n)) 0 (fun b => w.heap.size ≤ b)) (hb : Below w.heap.size w w1) :
    ∃ F, TW (w1.alloc (.cells #[P br, .int .i64 0, .int .i64 0, .int .i64 0, .int .i64 0, .bool true] 56)) w1.heap.size br (s0 (fW n)) 0 0 0 0 0 F ∧ (∀ q, F q → w.heap.size ≤ q) ∧ Below w.heap.size w (w1.alloc (.cells #[P br, .int .i64 0, .int .i64 0, .int .i64 0, .int .i64 0, .bool true] 56)) := by
  have h1 := hr.tight
  have hsz := hb.size
  refine ⟨_, ⟨h1.below (b01 _ _), Blk.new _ _ _, fun h => absurd h.2 (Nat.lt_irrefl _), ⟨fun h => absurd h.1 (by show ¬ w.heap.size ≤ 0; omega), by omega⟩, fun q hq => by simpa using Nat.lt_succ_of_lt hq.2⟩, fun q hq => hq.1, ba1 hb _⟩
end Go.Proofs.YtdablfanmlmjkaaDoor.T3
