/- WheelOnce: the walk. -/
import Derived.Test.YtoomdjkojddpdaaLHOnceA
import Derived.Test.YtoomdjkojddpdaaLHOnceB
namespace Go.Proofs.Ytoomdjkojddpdaa.hOnce
open Go.RowKit Go.Proofs.Ytoomdjkojddpdaa.G Go.Proofs.Ytoomdjkojddpdaa.Sat Go.Proofs.Ytoomdjkojddpdaa.H14
theorem walk {A B : Option Addr} {c c2 : Nat} {us ns : List Int} (w : World) (hA : Row w A (iv us)) (hB : Row w B (iv ns)) :
    Calls Try.prog 4 #[.slice A us.length c, .slice B ns.length c2] w fun e w' => e = .returned (.bool true) ∧ Below w.heap.size w w' := by
  rcases Nat.lt_or_ge 30 ns.length with h | h
  · exact walk2 (m := 30) w hA hB rfl rfl h
  · exact walk1 w hA hB rfl rfl h
end Go.Proofs.Ytoomdjkojddpdaa.hOnce
