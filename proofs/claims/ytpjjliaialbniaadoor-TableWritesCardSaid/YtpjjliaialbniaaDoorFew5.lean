/- few of stage 5: the same text as stage 4's. -/
import Derived.Test.YtpjjliaialbniaaDoorFew
import Derived.Test.YtpjjliaialbniaaDoorLive
import Derived.BigRegion
import Derived.RegionTactic
import Derived.Deep.RegionHeld3
import Derived.Deep.DrawnRows
namespace Go.Proofs.YtpjjliaialbniaaDoor.T
open Go.RowKit Go.Proofs.YtpjjliaialbniaaDoor.G Go.Proofs.YtpjjliaialbniaaDoor.C04
attribute [local go_sem ↓] Go.wp_at_zero Go.wp_at_succ
set_option maxHeartbeats 2000000 in
theorem few5_any {w0 w : World} {v : Value} {c : Cfg} (h : CfgAt w0 v c) : Calls Tryd.prog 6 #[v] w (FewPost w0 c w) := by
  have h0 := h
  obtain ⟨A1, A2, A3, c1, c2, c3, rfl, h1, h2, h3, l1, m1, l2, m2, l3, m3, hwb⟩ := h
  clear h1 h2 h3 hwb
  have HC := Lib.hid h0; clear h0
  by_cases n1 : c.ws.length ≤ 10
  · by_cases n2 : c.cs.length ≤ 10
    · by_cases n3 : c.ac.length ≤ 10
      · go_enter Tryd.func6, Tryd.ntmps6
        go_wp2
        go_region
        go_wp2
        refine bodyPost_ret (v := .agg #[.int .i64 c.P, .int .i64 c.F, .slice A1 c.ws.length c1, .slice A2 c.cs.length c2, .slice A3 c.ac.length c3]) (by simp [results, Tryd.results6, go_sem]) rfl (few_fin HC.out ?_ (by omega) (by omega) (by omega))
        exact (ba1 (b01 _ _) _).drew
      · go_enter Tryd.func6, Tryd.ntmps6
        go_wp2
        go_region
        go_wp2
        refine bodyPost_ret (v := .agg #[.int .i64 c.P, .int .i64 c.F, .slice A1 c.ws.length c1, .slice A2 c.cs.length c2, .slice A3 10 c3]) (by simp [results, Tryd.results6, go_sem]) rfl (few_fin HC.out ?_ (by omega) (by omega) (by omega))
        exact (ba1 (b01 _ _) _).drew
    · by_cases n3 : c.ac.length ≤ 10
      · go_enter Tryd.func6, Tryd.ntmps6
        go_wp2
        go_region
        go_wp2
        refine bodyPost_ret (v := .agg #[.int .i64 c.P, .int .i64 c.F, .slice A1 c.ws.length c1, .slice A2 10 c2, .slice A3 c.ac.length c3]) (by simp [results, Tryd.results6, go_sem]) rfl (few_fin HC.out ?_ (by omega) (by omega) (by omega))
        exact (ba1 (b01 _ _) _).drew
      · go_enter Tryd.func6, Tryd.ntmps6
        go_wp2
        go_region
        go_wp2
        refine bodyPost_ret (v := .agg #[.int .i64 c.P, .int .i64 c.F, .slice A1 c.ws.length c1, .slice A2 10 c2, .slice A3 10 c3]) (by simp [results, Tryd.results6, go_sem]) rfl (few_fin HC.out ?_ (by omega) (by omega) (by omega))
        exact (ba1 (b01 _ _) _).drew
  · by_cases n2 : c.cs.length ≤ 10
    · by_cases n3 : c.ac.length ≤ 10
      · go_enter Tryd.func6, Tryd.ntmps6
        go_wp2
        go_region
        go_wp2
        refine bodyPost_ret (v := .agg #[.int .i64 c.P, .int .i64 c.F, .slice A1 10 c1, .slice A2 c.cs.length c2, .slice A3 c.ac.length c3]) (by simp [results, Tryd.results6, go_sem]) rfl (few_fin HC.out ?_ (by omega) (by omega) (by omega))
        exact (ba1 (b01 _ _) _).drew
      · go_enter Tryd.func6, Tryd.ntmps6
        go_wp2
        go_region
        go_wp2
        refine bodyPost_ret (v := .agg #[.int .i64 c.P, .int .i64 c.F, .slice A1 10 c1, .slice A2 c.cs.length c2, .slice A3 10 c3]) (by simp [results, Tryd.results6, go_sem]) rfl (few_fin HC.out ?_ (by omega) (by omega) (by omega))
        exact (ba1 (b01 _ _) _).drew
    · by_cases n3 : c.ac.length ≤ 10
      · go_enter Tryd.func6, Tryd.ntmps6
        go_wp2
        go_region
        go_wp2
        refine bodyPost_ret (v := .agg #[.int .i64 c.P, .int .i64 c.F, .slice A1 10 c1, .slice A2 10 c2, .slice A3 c.ac.length c3]) (by simp [results, Tryd.results6, go_sem]) rfl (few_fin HC.out ?_ (by omega) (by omega) (by omega))
        exact (ba1 (b01 _ _) _).drew
      · go_enter Tryd.func6, Tryd.ntmps6
        go_wp2
        go_region
        go_wp2
        refine bodyPost_ret (v := .agg #[.int .i64 c.P, .int .i64 c.F, .slice A1 10 c1, .slice A2 10 c2, .slice A3 10 c3]) (by simp [results, Tryd.results6, go_sem]) rfl (few_fin HC.out ?_ (by omega) (by omega) (by omega))
        exact (ba1 (b01 _ _) _).drew
end Go.Proofs.YtpjjliaialbniaaDoor.T
