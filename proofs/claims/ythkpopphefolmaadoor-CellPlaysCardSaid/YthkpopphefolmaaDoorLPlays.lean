/- The walk of CellPlays. -/
import Derived.Test.YthkpopphefolmaaDoorLPlays1
import Derived.Test.YthkpopphefolmaaDoorLPlays2
import Derived.Test.YthkpopphefolmaaDoorLPlays3
namespace Go.Proofs.YthkpopphefolmaaDoor.cellPlays
open Go.RowKit Go.Proofs.YthkpopphefolmaaDoor.G Go.Proofs.YthkpopphefolmaaDoor.Cell
theorem walk (n0 : Int) (hn0 : n0 ≤ 9223372036854775807) (A : Option Addr) (n c : Nat) (s : Nat → St) (hn : n ≤ c) (hc : c ≤ 9223372036854775807) (W : World) (hg : Et W) (hs : Scr W A n s) :
    Calls Tryd.prog 3 #[.int .i64 n0, .slice A n c] W fun e w' => e = .returned (.bool true) ∧ Below W.heap.size W w' := by
  by_cases h1 : 200 < n0
  · by_cases h2 : n0 ≤ 4096
    · exact walk1 n0 h1 h2 hn0 A n c s hn hc W hg hs
    · exact walk2 n0 h1 h2 hn0 A n c s hn hc W hg hs
  · exact walk3 n0 h1 hn0 A n c s hn hc W hg hs
end Go.Proofs.YthkpopphefolmaaDoor.cellPlays
