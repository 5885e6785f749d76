/- The first check of every statement of stage 4 ('lives'), and 'few': contracts. Condition of 'lives': the library's variable errors.errorType holds what the program's text lays. -/
import Derived.Test.YtfbbgoahipejlabDoorLiv
import Derived.Test.YtfbbgoahipejlabDoorEqA
namespace Go.Proofs.YtfbbgoahipejlabDoor.C04
open Go.RowKit Go.Proofs.YtfbbgoahipejlabDoor.G

def ex0 : Cfg := ⟨1, 4, [⟨0, 0, 4⟩], [], [0]⟩
def ex1 : Cfg := ⟨1, 4, [⟨0, 0, 4⟩], [], [3]⟩
theorem flt_ex0 : flt ex0 = none := by decide
theorem flt_ex1 : flt ex1 = some (5, 0) := by decide
theorem ex_at {w : World} {b g : Nat} {n : Int} {c : Cfg} (hc : c = ⟨1, 4, [⟨0, 0, 4⟩], [], [n]⟩) (h1 : Blk w b 89 #[.int .i64 0, .int .i64 0, .int .i64 4]) (h2 : Blk w g 3 #[.int .i64 n]) :
    CfgAt w (.agg #[.int .i64 1, .int .i64 4, .slice (some ⟨b, 0, none⟩) 1 1, .slice none 0 0, .slice (some ⟨g, 0, none⟩) 1 1]) c := by
  subst hc
  refine ⟨some ⟨b, 0, none⟩, none, some ⟨g, 0, none⟩, 1, 0, 1, rfl, Row.of_blk h1 (fun j u hj => ?_), Row.none_, Row.of_blk h2 (fun j u hj => ?_), by simp, by omega, by simp, by omega, by simp, by omega, ?_⟩
  · rw [← hj]; simp [wvs, Win.cells]
  · rw [← hj]; simp [ivs, iv]
  · intro k x hx
    rcases k with _ | k
    · simp at hx; subst hx; decide
    · simp at hx
/-! ### few -/
def fw (c : Cfg) : Cfg := ⟨c.P, c.F, c.ws.take 10, c.cs.take 10, c.ac.take 10⟩
def CfgPost (c : Cfg) (w : World) (e : Ending) (w' : World) : Prop := ∃ v, e = .returned v ∧ CfgAt w' v c ∧ Below w.heap.size w w'
end Go.Proofs.YtfbbgoahipejlabDoor.C04
