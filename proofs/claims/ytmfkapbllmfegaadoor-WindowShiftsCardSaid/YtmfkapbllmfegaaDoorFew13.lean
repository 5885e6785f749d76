/- 'few' of stage 13: the first ten of each list: a contract. -/
import Derived.Test.YtmfkapbllmfegaaDoorLiv
import Derived.BigRegion
import Derived.RegionTactic
import Derived.Deep.RegionHeld3
import Derived.Deep.DrawnRows
namespace Go.Proofs.YtmfkapbllmfegaaDoor.C04
open Go.RowKit Go.Proofs.YtmfkapbllmfegaaDoor.G
attribute [local go_sem ↓] Go.wp_at_zero Go.wp_at_succ

def fw (c : Cfg) : Cfg := ⟨c.P, c.F, c.ws.take 10, c.cs.take 10, c.ac.take 10⟩
def FewPost (w0 : World) (c : Cfg) (w : World) (e : Ending) (w' : World) : Prop := ∃ v, e = .returned v ∧ CfgAt w0 v (fw c) ∧ Below w.heap.size w w'
theorem row1' {w : World} {A1 A2 A3 : Option Addr} {c1 c2 c3 : Nat} {c : Cfg} (h : CfgAt w (.agg #[.int .i64 c.P, .int .i64 c.F, .slice A1 c.ws.length c1, .slice A2 c.cs.length c2, .slice A3 c.ac.length c3]) c) : Row w A1 (wvs c.ws) ∧ Row w A2 (cvs c.cs) ∧ Row w A3 (ivs c.ac) := by
  obtain ⟨B1, B2, B3, d1, d2, d3, e, h1, h2, h3, _⟩ := h
  simp only [Value.agg.injEq, Array.mk.injEq, List.cons.injEq, Value.slice.injEq, true_and, and_true] at e
  obtain ⟨⟨rfl, rfl⟩, ⟨rfl, rfl⟩, rfl, rfl⟩ := e
  exact ⟨h1, h2, h3⟩
theorem few_fin {w0 w w' : World} {A1 A2 A3 : Option Addr} {c1 c2 c3 n1 n2 n3 : Nat} {c : Cfg} (h : CfgAt w0 (.agg #[.int .i64 c.P, .int .i64 c.F, .slice A1 c.ws.length c1, .slice A2 c.cs.length c2, .slice A3 c.ac.length c3]) c) (hb : Below w.heap.size w w')
    (e1 : n1 = min c.ws.length 10) (e2 : n2 = min c.cs.length 10) (e3 : n3 = min c.ac.length 10) : FewPost w0 c w (.returned (.agg #[.int .i64 c.P, .int .i64 c.F, .slice A1 n1 c1, .slice A2 n2 c2, .slice A3 n3 c3])) w' := by
  have hr := row1' h
  obtain ⟨_, _, _, _, _, _, e, _, _, _, l1, m1, l2, m2, l3, m3, hwb⟩ := h
  simp only [Value.agg.injEq, Array.mk.injEq, List.cons.injEq, Value.slice.injEq, true_and, and_true] at e
  obtain ⟨⟨rfl, rfl⟩, ⟨rfl, rfl⟩, rfl, rfl⟩ := e
  refine ⟨_, rfl, ⟨A1, A2, A3, c1, c2, c3, ?_, ?_, ?_, ?_, ?_, m1, ?_, m2, ?_, m3, ?_⟩, hb⟩
  · simp only [fw, List.length_take]; rw [e1, e2, e3, Nat.min_comm, Nat.min_comm c.cs.length, Nat.min_comm c.ac.length]
  · have := hr.1.take (10 * 3); rwa [wvs, ← flat_take Win.cells_len] at this
  · have := hr.2.1.take (10 * 11); rwa [cvs, ← flat_take Chn.cells_len] at this
  · have := hr.2.2.take 10; rwa [ivs, ← List.map_take] at this
  · simp only [fw, List.length_take]; omega
  · simp only [fw, List.length_take]; omega
  · simp only [fw, List.length_take]; omega
  · intro k x hx
    simp only [fw, List.getElem?_take] at hx
    split at hx
    · exact hwb k x hx
    · cases hx
set_option maxHeartbeats 2000000 in
theorem few13_any {w0 w : World} {v : Value} {c : Cfg} (h : CfgAt w0 v c) : Calls Tryd.prog 11 #[v] w (FewPost w0 c w) := by
  have h0 := h
  obtain ⟨A1, A2, A3, c1, c2, c3, rfl, h1, h2, h3, l1, m1, l2, m2, l3, m3, hwb⟩ := h
  clear h1 h2 h3 hwb
  have HC := Lib.hid h0; clear h0
  by_cases n1 : c.ws.length ≤ 10
  · by_cases n2 : c.cs.length ≤ 10
    · by_cases n3 : c.ac.length ≤ 10
      · go_enter Tryd.func11, Tryd.ntmps11
        go_wp2
        go_region
        go_wp2
        refine bodyPost_ret (v := .agg #[.int .i64 c.P, .int .i64 c.F, .slice A1 c.ws.length c1, .slice A2 c.cs.length c2, .slice A3 c.ac.length c3]) (by simp [results, Tryd.results11, go_sem]) rfl (few_fin HC.out ?_ (by omega) (by omega) (by omega))
        exact (ba1 (b01 _ _) _).drew
      · go_enter Tryd.func11, Tryd.ntmps11
        go_wp2
        go_region
        go_wp2
        refine bodyPost_ret (v := .agg #[.int .i64 c.P, .int .i64 c.F, .slice A1 c.ws.length c1, .slice A2 c.cs.length c2, .slice A3 10 c3]) (by simp [results, Tryd.results11, go_sem]) rfl (few_fin HC.out ?_ (by omega) (by omega) (by omega))
        exact (ba1 (b01 _ _) _).drew
    · by_cases n3 : c.ac.length ≤ 10
      · go_enter Tryd.func11, Tryd.ntmps11
        go_wp2
        go_region
        go_wp2
        refine bodyPost_ret (v := .agg #[.int .i64 c.P, .int .i64 c.F, .slice A1 c.ws.length c1, .slice A2 10 c2, .slice A3 c.ac.length c3]) (by simp [results, Tryd.results11, go_sem]) rfl (few_fin HC.out ?_ (by omega) (by omega) (by omega))
        exact (ba1 (b01 _ _) _).drew
      · go_enter Tryd.func11, Tryd.ntmps11
        go_wp2
        go_region
        go_wp2
        refine bodyPost_ret (v := .agg #[.int .i64 c.P, .int .i64 c.F, .slice A1 c.ws.length c1, .slice A2 10 c2, .slice A3 10 c3]) (by simp [results, Tryd.results11, go_sem]) rfl (few_fin HC.out ?_ (by omega) (by omega) (by omega))
        exact (ba1 (b01 _ _) _).drew
  · by_cases n2 : c.cs.length ≤ 10
    · by_cases n3 : c.ac.length ≤ 10
      · go_enter Tryd.func11, Tryd.ntmps11
        go_wp2
        go_region
        go_wp2
        refine bodyPost_ret (v := .agg #[.int .i64 c.P, .int .i64 c.F, .slice A1 10 c1, .slice A2 c.cs.length c2, .slice A3 c.ac.length c3]) (by simp [results, Tryd.results11, go_sem]) rfl (few_fin HC.out ?_ (by omega) (by omega) (by omega))
        exact (ba1 (b01 _ _) _).drew
      · go_enter Tryd.func11, Tryd.ntmps11
        go_wp2
        go_region
        go_wp2
        refine bodyPost_ret (v := .agg #[.int .i64 c.P, .int .i64 c.F, .slice A1 10 c1, .slice A2 c.cs.length c2, .slice A3 10 c3]) (by simp [results, Tryd.results11, go_sem]) rfl (few_fin HC.out ?_ (by omega) (by omega) (by omega))
        exact (ba1 (b01 _ _) _).drew
    · by_cases n3 : c.ac.length ≤ 10
      · go_enter Tryd.func11, Tryd.ntmps11
        go_wp2
        go_region
        go_wp2
        refine bodyPost_ret (v := .agg #[.int .i64 c.P, .int .i64 c.F, .slice A1 10 c1, .slice A2 10 c2, .slice A3 c.ac.length c3]) (by simp [results, Tryd.results11, go_sem]) rfl (few_fin HC.out ?_ (by omega) (by omega) (by omega))
        exact (ba1 (b01 _ _) _).drew
      · go_enter Tryd.func11, Tryd.ntmps11
        go_wp2
        go_region
        go_wp2
        refine bodyPost_ret (v := .agg #[.int .i64 c.P, .int .i64 c.F, .slice A1 10 c1, .slice A2 10 c2, .slice A3 10 c3]) (by simp [results, Tryd.results11, go_sem]) rfl (few_fin HC.out ?_ (by omega) (by omega) (by omega))
        exact (ba1 (b01 _ _) _).drew
end Go.Proofs.YtmfkapbllmfegaaDoor.C04
