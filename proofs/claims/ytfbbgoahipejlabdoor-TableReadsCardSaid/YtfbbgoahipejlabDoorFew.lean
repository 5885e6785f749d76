/- 'few': the first ten of each list: a contract. -/
import Derived.Test.YtfbbgoahipejlabDoorLive
import Derived.BigRegion
import Derived.RegionTactic
import Derived.Deep.RegionHeld3
import Derived.Deep.DrawnRows
namespace Go.Proofs.YtfbbgoahipejlabDoor.C04
open Go.RowKit Go.Proofs.YtfbbgoahipejlabDoor.G
attribute [local go_sem ↓] Go.wp_at_zero Go.wp_at_succ

def FewPost (w0 : World) (c : Cfg) (w : World) (e : Ending) (w' : World) : Prop := ∃ v, e = .returned v ∧ CfgAt w0 v (fw c) ∧ Below w.heap.size w w'
theorem few_fin {w0 w w' : World} {A1 A2 A3 : Option Addr} {c1 c2 c3 n1 n2 n3 : Nat} {c : Cfg} (h : CfgAt w0 (.agg #[.int .i64 c.P, .int .i64 c.F, .slice A1 c.ws.length c1, .slice A2 c.cs.length c2, .slice A3 c.ac.length c3]) c) (hb : Below w.heap.size w w')
    (e1 : n1 = min c.ws.length 10) (e2 : n2 = min c.cs.length 10) (e3 : n3 = min c.ac.length 10) : FewPost w0 c w (.returned (.agg #[.int .i64 c.P, .int .i64 c.F, .slice A1 n1 c1, .slice A2 n2 c2, .slice A3 n3 c3])) w' := by
  have hr := h.row1
  obtain ⟨_, _, _, _, _, _, e, _, _, _, l1, m1, l2, m2, l3, m3, hwb⟩ := h
  simp only [Value.agg.injEq, Array.mk.injEq, List.cons.injEq, Value.slice.injEq, true_and, and_true] at e
  obtain ⟨⟨rfl, rfl⟩, ⟨rfl, rfl⟩, rfl, rfl⟩ := e
  refine ⟨_, rfl, ⟨A1, A2, A3, c1, c2, c3, ?_, ?_, ?_, ?_, ?_, m1, ?_, m2, ?_, m3, ?_⟩, hb⟩
  · simp only [fw, List.length_take]; rw [e1, e2, e3, Nat.min_comm, Nat.min_comm c.cs.length, Nat.min_comm c.ac.length]
  · have := hr.1.take (10 * 3); rwa [wvs, ← flat_take Win.cells_len] at this
  · have := hr.2.1.take (10 * 11); rwa [cvs, ← flat_take Chn.cells_len] at this
  · have := hr.2.2.take 10; rwa [ivs, ← List.map_take] at this
  · simp only [fw, List.length_take]; omega
  · simp only [fw, List.length_take]; omega
  · simp only [fw, List.length_take]; omega
  · intro k x hx
    simp only [fw, List.getElem?_take] at hx
    split at hx
    · exact hwb k x hx
    · cases hx
end Go.Proofs.YtfbbgoahipejlabDoor.C04
