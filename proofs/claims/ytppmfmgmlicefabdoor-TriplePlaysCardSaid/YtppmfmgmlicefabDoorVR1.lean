/- The document's register of three slots: Drop, Read, the accesses that touch no list: contracts. -/
import Derived.Test.YtppmfmgmlicefabDoorVR0
namespace Go.Proofs.YtppmfmgmlicefabDoor.T3
open Go.RowKit Go.Proofs.YtppmfmgmlicefabDoor.G Go.Proofs.YtppmfmgmlicefabDoor.Cell
set_option maxRecDepth 100000

/-- The document's register as a value. -/
abbrev rc (W m : Int) (v0 v1 v2 : Value) (b f : Int) (ws rs : Bool) (k : Int) (ak fr : Bool) (vi vo : Value) : Array Value := #[.int .i64 W, .int .i64 m, v0, v1, v2, .int .i64 b, .int .i64 f, .bool ws, .bool rs, .int .i64 k, .bool ak, .bool fr, vi, vo]
def EPost (v : Value) (w : World) (e : Ending) (w' : World) : Prop := e = .returned v ∧ Below w.heap.size w w'
section
variable {w : World} {W m b f k : Int} {A0 A1 A2 Ai Ao : Option Addr} {n0 n1 n2 ni no c0 c1 c2 ci co : Nat} {ws rs ak fr : Bool}
theorem rdropw : Calls Tryd.prog 38 #[.agg (rc W m (.slice A0 n0 c0) (.slice A1 n1 c1) (.slice A2 n2 c2) b f ws rs k ak fr (.slice Ai ni ci) (.slice Ao no co)), .bool true] w
    (EPost (.tuple #[.agg (rc W m (.slice A0 n0 c0) (.slice A1 n1 c1) (.slice A2 n2 c2) b f false rs k ak fr (.slice Ai ni ci) (.slice Ao no co)), .bool ws]) w) := by
  go_enter Tryd.func38, Tryd.ntmps38
  go_wp2
  refine bodyPost_ret (v := .tuple #[.agg (rc W m (.slice A0 n0 c0) (.slice A1 n1 c1) (.slice A2 n2 c2) b f false rs k ak fr (.slice Ai ni ci) (.slice Ao no co)), .bool ws]) (by simp [results, Tryd.results38, go_sem]) rfl ⟨rfl, ?_⟩
  exact ba1 (b01 w _) _
theorem rdropr : Calls Tryd.prog 38 #[.agg (rc W m (.slice A0 n0 c0) (.slice A1 n1 c1) (.slice A2 n2 c2) b f ws rs k ak fr (.slice Ai ni ci) (.slice Ao no co)), .bool false] w
    (EPost (.tuple #[.agg (rc W m (.slice A0 n0 c0) (.slice A1 n1 c1) (.slice A2 n2 c2) b f ws false k ak fr (.slice Ai ni ci) (.slice Ao no co)), .bool rs]) w) := by
  go_enter Tryd.func38, Tryd.ntmps38
  go_wp2
  refine bodyPost_ret (v := .tuple #[.agg (rc W m (.slice A0 n0 c0) (.slice A1 n1 c1) (.slice A2 n2 c2) b f ws false k ak fr (.slice Ai ni ci) (.slice Ao no co)), .bool rs]) (by simp [results, Tryd.results38, go_sem]) rfl ⟨rfl, ?_⟩
  exact ba1 (b01 w _) _
theorem rreadb : Calls Tryd.prog 34 #[.agg (rc W m (.slice A0 n0 c0) (.slice A1 n1 c1) (.slice A2 n2 c2) b f ws true k ak fr (.slice Ai ni ci) (.slice Ao no co))] w
    (EPost (.tuple #[.agg (rc W m (.slice A0 n0 c0) (.slice A1 n1 c1) (.slice A2 n2 c2) b f ws true k ak fr (.slice Ai ni ci) (.slice Ao no co)), .int .i64 1]) w) := by
  go_enter Tryd.func34, Tryd.ntmps34
  go_wp2
  refine bodyPost_ret (v := .tuple #[.agg (rc W m (.slice A0 n0 c0) (.slice A1 n1 c1) (.slice A2 n2 c2) b f ws true k ak fr (.slice Ai ni ci) (.slice Ao no co)), .int .i64 1]) (by simp [results, Tryd.results34, go_sem]) rfl ⟨rfl, ?_⟩
  exact ba1 (b01 w _) _
theorem rreadok : Calls Tryd.prog 34 #[.agg (rc W m (.slice A0 n0 c0) (.slice A1 n1 c1) (.slice A2 n2 c2) b f ws false k ak fr (.slice Ai ni ci) (.slice Ao no co))] w
    (EPost (.tuple #[.agg (rc W m (.slice A0 n0 c0) (.slice A1 n1 c1) (.slice A2 n2 c2) b f ws true k false false (.slice Ai ni ci) (.slice none 0 0)), .int .i64 0]) w) := by
  go_enter Tryd.func34, Tryd.ntmps34
  go_wp2
  refine bodyPost_ret (v := .tuple #[.agg (rc W m (.slice A0 n0 c0) (.slice A1 n1 c1) (.slice A2 n2 c2) b f ws true k false false (.slice Ai ni ci) (.slice none 0 0)), .int .i64 0]) (by simp [results, Tryd.results34, go_sem]) rfl ⟨rfl, ?_⟩
  exact ba1 (b01 w _) _
theorem rstepwn : Calls Tryd.prog 36 #[.agg (rc W m (.slice A0 n0 c0) (.slice A1 n1 c1) (.slice A2 n2 c2) b f false rs k ak fr (.slice Ai ni ci) (.slice Ao no co)), .bool true] w
    (EPost (.tuple #[.agg (rc W m (.slice A0 n0 c0) (.slice A1 n1 c1) (.slice A2 n2 c2) b f false rs k ak fr (.slice Ai ni ci) (.slice Ao no co)), .slice none 0 0, .bool false, .int .i64 2]) w) := by
  go_enter Tryd.func36, Tryd.ntmps36
  go_wp2
  refine bodyPost_ret (v := .tuple #[.agg (rc W m (.slice A0 n0 c0) (.slice A1 n1 c1) (.slice A2 n2 c2) b f false rs k ak fr (.slice Ai ni ci) (.slice Ao no co)), .slice none 0 0, .bool false, .int .i64 2]) (by simp [results, Tryd.results36, go_sem]) rfl ⟨rfl, ?_⟩
  exact ba1 (b01 w _) _
theorem rsteprn : Calls Tryd.prog 36 #[.agg (rc W m (.slice A0 n0 c0) (.slice A1 n1 c1) (.slice A2 n2 c2) b f ws false k ak fr (.slice Ai ni ci) (.slice Ao no co)), .bool false] w
    (EPost (.tuple #[.agg (rc W m (.slice A0 n0 c0) (.slice A1 n1 c1) (.slice A2 n2 c2) b f ws false k ak fr (.slice Ai ni ci) (.slice Ao no co)), .slice none 0 0, .bool false, .int .i64 2]) w) := by
  go_enter Tryd.func36, Tryd.ntmps36
  go_wp2
  refine bodyPost_ret (v := .tuple #[.agg (rc W m (.slice A0 n0 c0) (.slice A1 n1 c1) (.slice A2 n2 c2) b f ws false k ak fr (.slice Ai ni ci) (.slice Ao no co)), .slice none 0 0, .bool false, .int .i64 2]) (by simp [results, Tryd.results36, go_sem]) rfl ⟨rfl, ?_⟩
  exact ba1 (b01 w _) _
theorem rstepwl (h0 : 0 ≤ b) (h1 : b ≤ 2) (hk : ¬ k < W) : Calls Tryd.prog 36 #[.agg (rc W m (.slice A0 n0 c0) (.slice A1 n1 c1) (.slice A2 n2 c2) b f true rs k ak fr (.slice Ai ni ci) (.slice Ao no co)), .bool true] w
    (EPost (.tuple #[.agg (rc W (b + 4) (.slice A0 n0 c0) (.slice A1 n1 c1) (.slice A2 n2 c2) (m.tmod 4) f false rs k ak fr (.slice Ai ni ci) (.slice Ao no co)), .slice none 0 0, .bool true, .int .i64 0]) w) := by
  go_enter Tryd.func36, Tryd.ntmps36
  go_wp2
  refine bodyPost_ret (v := .tuple #[.agg (rc W (b + 4) (.slice A0 n0 c0) (.slice A1 n1 c1) (.slice A2 n2 c2) (m.tmod 4) f false rs k ak fr (.slice Ai ni ci) (.slice Ao no co)), .slice none 0 0, .bool true, .int .i64 0]) (by simp [results, Tryd.results36, go_sem]) rfl ⟨rfl, ?_⟩
  exact ba1 (b01 w _) _
theorem rstepr0 : Calls Tryd.prog 36 #[.agg (rc W m (.slice A0 n0 c0) (.slice A1 n1 c1) (.slice A2 n2 c2) b f ws true k false fr (.slice Ai ni ci) (.slice Ao no co)), .bool false] w
    (EPost (.tuple #[.agg (rc W m (.slice A0 n0 c0) (.slice A1 n1 c1) (.slice A2 n2 c2) b f ws true k true (decide (4 ≤ m)) (.slice Ai ni ci) (.slice Ao no co)), .slice none 0 0, .bool false, .int .i64 0]) w) := by
  go_enter Tryd.func36, Tryd.ntmps36
  go_wp2
  refine bodyPost_ret (v := .tuple #[.agg (rc W m (.slice A0 n0 c0) (.slice A1 n1 c1) (.slice A2 n2 c2) b f ws true k true (decide (4 ≤ m)) (.slice Ai ni ci) (.slice Ao no co)), .slice none 0 0, .bool false, .int .i64 0]) (by simp [results, Tryd.results36, go_sem]) rfl ⟨rfl, ?_⟩
  exact ba1 (b01 w _) _
theorem rstepr1 : Calls Tryd.prog 36 #[.agg (rc W m (.slice A0 n0 c0) (.slice A1 n1 c1) (.slice A2 n2 c2) b f ws true k true true (.slice Ai ni ci) (.slice Ao no co)), .bool false] w
    (EPost (.tuple #[.agg (rc W f (.slice A0 n0 c0) (.slice A1 n1 c1) (.slice A2 n2 c2) b (m.tmod 4) ws true k true false (.slice Ai ni ci) (.slice Ao no co)), .slice none 0 0, .bool false, .int .i64 0]) w) := by
  go_enter Tryd.func36, Tryd.ntmps36
  go_wp2
  refine bodyPost_ret (v := .tuple #[.agg (rc W f (.slice A0 n0 c0) (.slice A1 n1 c1) (.slice A2 n2 c2) b (m.tmod 4) ws true k true false (.slice Ai ni ci) (.slice Ao no co)), .slice none 0 0, .bool false, .int .i64 0]) (by simp [results, Tryd.results36, go_sem]) rfl ⟨rfl, ?_⟩
  exact ba1 (b01 w _) _
end
end Go.Proofs.YtppmfmgmlicefabDoor.T3
