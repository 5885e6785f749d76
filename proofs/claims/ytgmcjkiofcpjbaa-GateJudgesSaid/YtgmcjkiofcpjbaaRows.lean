/-
  No cell of these rows narrows 'for every input' (looked for: loops, veiled, ifaces, maps, wideKeys, modest, calm, conditions, laid).
  DERIVED. THE GIVEN ROWS OF THIS SEAT. 7 by the template 'for every input the law returns true; each argument reads behind the call as it read before'; 0 by the template 'total and deterministic' (their statements: YtgmcjkiofcpjbaaTotals.lean).
  GIVEN WITH THE SEED: the statements are not yours to turn. If you find one false, say at which input.
  Laid BY PROGRAM, IN A SANDBOX (cutbox-rows.mjs): the forced cells as the released guide's own fill.sh prints them over the translation 519156700fa1e7e2… (all of the seat's roots in one cut). By AI agents, Wed Nov 11 2026. No macro, syntax, notation, axiom, sorry.
-/
import Derived.Test.YtgmcjkiofcpjbaaChecked
import GoSem.Claim
import GoSem.ClaimJoined
import GoSem.ClaimMapViews
import Derived.JoinedTies
import Derived.KernelRfl
namespace Go.Proofs.Ytgmcjkiofcpjbaa
/- THE CELL 'sum', in the pinned program and in every row, IS THE sha256 OF THE DUMP (.gsa) THAT YtgmcjkiofcpjbaaProg.lean LOADS. Nothing in Lean hashes anything: it is a label: what it is worth is what the hold of that sum in a sandbox is worth. -/
noncomputable def Try.pinned : Pinned := { name := "ytgmcjkiofcpjbaa", sum := "519156700fa1e7e2e88a4e5380bc6285e02cc7673b8ffaa728e0b894d0ecf310", checked := Try.checked }
namespace Rows
def none {H : Type} : Left H := { results := [], args := [] }

/-- 'empennagelaw12.GatePlays': WHATEVER THE INPUT: true; the input reads as it did. -/
def gatePlaysSpec : ChangeSpec := { name := "gatePlays", fn := fun _ => fun
  | [d1, d2, d3] => { results := [.lit (.bool true)], args := [d1, d2, d3] }
  | _ => none }
def gatePlaysRow : OpenClaim := { program := "ytgmcjkiofcpjbaa", sum := "519156700fa1e7e2e88a4e5380bc6285e02cc7673b8ffaa728e0b894d0ecf310", func := "empennage/empennagelaw12.GatePlays", spec := "gatePlays", unfollowed := true, recurses := true, apart := false }
def GatePlaysSaid : Prop := gatePlaysRow.holds Try.pinned (OpenSpec.ofChange gatePlaysSpec)

/-- ITS FALSE NEIGHBOUR: 'it returns false'. Refute it at one input. -/
def gatePlaysWrong : ChangeSpec := { name := "gatePlays", fn := fun _ => fun
  | [d1, d2, d3] => { results := [.lit (.bool false)], args := [d1, d2, d3] }
  | _ => none }
def GatePlaysWrongFalsely : Prop := gatePlaysRow.holds Try.pinned (OpenSpec.ofChange gatePlaysWrong)

/-- 'empennagelaw12.GateJudges': WHATEVER THE INPUT: true; the input reads as it did. -/
def gateJudgesSpec : ChangeSpec := { name := "gateJudges", fn := fun _ => fun
  | [d1, d2] => { results := [.lit (.bool true)], args := [d1, d2] }
  | _ => none }
def gateJudgesRow : OpenClaim := { program := "ytgmcjkiofcpjbaa", sum := "519156700fa1e7e2e88a4e5380bc6285e02cc7673b8ffaa728e0b894d0ecf310", func := "empennage/empennagelaw12.GateJudges", spec := "gateJudges", unfollowed := true, recurses := true, apart := false }
def GateJudgesSaid : Prop := gateJudgesRow.holds Try.pinned (OpenSpec.ofChange gateJudgesSpec)

/-- ITS FALSE NEIGHBOUR: 'it returns false'. Refute it at one input. -/
def gateJudgesWrong : ChangeSpec := { name := "gateJudges", fn := fun _ => fun
  | [d1, d2] => { results := [.lit (.bool false)], args := [d1, d2] }
  | _ => none }
def GateJudgesWrongFalsely : Prop := gateJudgesRow.holds Try.pinned (OpenSpec.ofChange gateJudgesWrong)

/-- 'empennagelaw12.GateRefuses': WHATEVER THE INPUT: true; the input reads as it did. -/
def gateRefusesSpec : ChangeSpec := { name := "gateRefuses", fn := fun _ => fun
  | [d1, d2] => { results := [.lit (.bool true)], args := [d1, d2] }
  | _ => none }
def gateRefusesRow : OpenClaim := { program := "ytgmcjkiofcpjbaa", sum := "519156700fa1e7e2e88a4e5380bc6285e02cc7673b8ffaa728e0b894d0ecf310", func := "empennage/empennagelaw12.GateRefuses", spec := "gateRefuses", unfollowed := true, recurses := true, apart := false }
def GateRefusesSaid : Prop := gateRefusesRow.holds Try.pinned (OpenSpec.ofChange gateRefusesSpec)

/-- ITS FALSE NEIGHBOUR: 'it returns false'. Refute it at one input. -/
def gateRefusesWrong : ChangeSpec := { name := "gateRefuses", fn := fun _ => fun
  | [d1, d2] => { results := [.lit (.bool false)], args := [d1, d2] }
  | _ => none }
def GateRefusesWrongFalsely : Prop := gateRefusesRow.holds Try.pinned (OpenSpec.ofChange gateRefusesWrong)

/-- 'empennagelaw12.GateDoors': WHATEVER THE INPUT: true; the input reads as it did. -/
def gateDoorsSpec : ChangeSpec := { name := "gateDoors", fn := fun _ => fun
  | [d1, d2] => { results := [.lit (.bool true)], args := [d1, d2] }
  | _ => none }
def gateDoorsRow : OpenClaim := { program := "ytgmcjkiofcpjbaa", sum := "519156700fa1e7e2e88a4e5380bc6285e02cc7673b8ffaa728e0b894d0ecf310", func := "empennage/empennagelaw12.GateDoors", spec := "gateDoors", unfollowed := true, recurses := true, apart := false }
def GateDoorsSaid : Prop := gateDoorsRow.holds Try.pinned (OpenSpec.ofChange gateDoorsSpec)

/-- ITS FALSE NEIGHBOUR: 'it returns false'. Refute it at one input. -/
def gateDoorsWrong : ChangeSpec := { name := "gateDoors", fn := fun _ => fun
  | [d1, d2] => { results := [.lit (.bool false)], args := [d1, d2] }
  | _ => none }
def GateDoorsWrongFalsely : Prop := gateDoorsRow.holds Try.pinned (OpenSpec.ofChange gateDoorsWrong)

/-- 'empennagelaw12.GateRates': WHATEVER THE INPUT: true; the input reads as it did. -/
def gateRatesSpec : ChangeSpec := { name := "gateRates", fn := fun _ => fun
  | [d1, d2] => { results := [.lit (.bool true)], args := [d1, d2] }
  | _ => none }
def gateRatesRow : OpenClaim := { program := "ytgmcjkiofcpjbaa", sum := "519156700fa1e7e2e88a4e5380bc6285e02cc7673b8ffaa728e0b894d0ecf310", func := "empennage/empennagelaw12.GateRates", spec := "gateRates", unfollowed := true, recurses := true, apart := false }
def GateRatesSaid : Prop := gateRatesRow.holds Try.pinned (OpenSpec.ofChange gateRatesSpec)

/-- ITS FALSE NEIGHBOUR: 'it returns false'. Refute it at one input. -/
def gateRatesWrong : ChangeSpec := { name := "gateRates", fn := fun _ => fun
  | [d1, d2] => { results := [.lit (.bool false)], args := [d1, d2] }
  | _ => none }
def GateRatesWrongFalsely : Prop := gateRatesRow.holds Try.pinned (OpenSpec.ofChange gateRatesWrong)

/-- 'empennagelaw12.GateNil': WHATEVER THE INPUT: true; the input reads as it did. -/
def gateNilSpec : ChangeSpec := { name := "gateNil", fn := fun _ => fun
  | [d] => { results := [.lit (.bool true)], args := [d] }
  | _ => none }
def gateNilRow : OpenClaim := { program := "ytgmcjkiofcpjbaa", sum := "519156700fa1e7e2e88a4e5380bc6285e02cc7673b8ffaa728e0b894d0ecf310", func := "empennage/empennagelaw12.GateNil", spec := "gateNil", unfollowed := true, recurses := true, apart := false }
def GateNilSaid : Prop := gateNilRow.holds Try.pinned (OpenSpec.ofChange gateNilSpec)

/-- ITS FALSE NEIGHBOUR: 'it returns false'. Refute it at one input. -/
def gateNilWrong : ChangeSpec := { name := "gateNil", fn := fun _ => fun
  | [d] => { results := [.lit (.bool false)], args := [d] }
  | _ => none }
def GateNilWrongFalsely : Prop := gateNilRow.holds Try.pinned (OpenSpec.ofChange gateNilWrong)

/-- 'empennagelaw12.GateLate': WHATEVER THE INPUT: true; the input reads as it did. -/
def gateLateSpec : ChangeSpec := { name := "gateLate", fn := fun _ => fun
  | [d1, d2, d3] => { results := [.lit (.bool true)], args := [d1, d2, d3] }
  | _ => none }
def gateLateRow : OpenClaim := { program := "ytgmcjkiofcpjbaa", sum := "519156700fa1e7e2e88a4e5380bc6285e02cc7673b8ffaa728e0b894d0ecf310", func := "empennage/empennagelaw12.GateLate", spec := "gateLate", unfollowed := true, recurses := true, apart := false }
def GateLateSaid : Prop := gateLateRow.holds Try.pinned (OpenSpec.ofChange gateLateSpec)

/-- ITS FALSE NEIGHBOUR: 'it returns false'. Refute it at one input. -/
def gateLateWrong : ChangeSpec := { name := "gateLate", fn := fun _ => fun
  | [d1, d2, d3] => { results := [.lit (.bool false)], args := [d1, d2, d3] }
  | _ => none }
def GateLateWrongFalsely : Prop := gateLateRow.holds Try.pinned (OpenSpec.ofChange gateLateWrong)

/- THE SECOND FORM. 'bulk': how many values and letters a reading holds, each counted each time it is reached (what is shared counts as often as it is met; a slice's spare places count too). A statement '..UptoSaid' is the law's where the arguments, and the package variables that the reading takes, are together of bulk at most 1048576: NARROWER than '..Said'. Prove '..Said' where nothing that the law and all that it calls make is longer than what came in: it says more and counts as full. Else prove '..UptoSaid'. A law counts once. -/
mutual
def uptoBulk {H : Type} : DataW H → Nat
  | .lit (.string bytes) => bytes.length + 1
  | .lit _ => 1
  | .nil => 1
  | .ptr d => uptoBulk d + 1
  | .slice elems spare => uptoBulkAll elems + uptoBulkAll spare + 1
  | .agg parts => uptoBulkAll parts + 1
  | .iface _ d => uptoBulk d + 1
  | .map entries => uptoBulkEntries entries + 1
  | .held _ => 1
def uptoBulkAll {H : Type} : List (DataW H) → Nat
  | [] => 0
  | d :: r => uptoBulk d + uptoBulkAll r
def uptoBulkEntries {H : Type} : List (Lit × DataW H) → Nat
  | [] => 0
  | x :: r => uptoBulkEntry x + uptoBulkEntries r
def uptoBulkEntry {H : Type} : Lit × DataW H → Nat
  | (.string bytes, d) => bytes.length + uptoBulk d + 1
  | (_, d) => uptoBulk d + 1
 end
def uptoSmall : (H : Type) → List (DataW H) → Bool := fun _ ds => decide (uptoBulkAll ds ≤ 1048576)
def OpenSpec.upto (s : _root_.Go.ChangeSpec) : _root_.Go.OpenSpec := { _root_.Go.OpenSpec.ofChange s with cond := some uptoSmall }

/-- 'empennagelaw12.GatePlays', WHERE WHAT IT READS IS OF BULK AT MOST 1048576: true; the input reads as it did. -/
def gatePlaysUptoRow : OpenClaim := { program := "ytgmcjkiofcpjbaa", sum := "519156700fa1e7e2e88a4e5380bc6285e02cc7673b8ffaa728e0b894d0ecf310", func := "empennage/empennagelaw12.GatePlays", spec := "gatePlays", unfollowed := true, recurses := true, apart := false, narrowed := true }
def GatePlaysUptoSaid : Prop := gatePlaysUptoRow.holds Try.pinned (OpenSpec.upto gatePlaysSpec)

/-- 'empennagelaw12.GateJudges', WHERE WHAT IT READS IS OF BULK AT MOST 1048576: true; the input reads as it did. -/
def gateJudgesUptoRow : OpenClaim := { program := "ytgmcjkiofcpjbaa", sum := "519156700fa1e7e2e88a4e5380bc6285e02cc7673b8ffaa728e0b894d0ecf310", func := "empennage/empennagelaw12.GateJudges", spec := "gateJudges", unfollowed := true, recurses := true, apart := false, narrowed := true }
def GateJudgesUptoSaid : Prop := gateJudgesUptoRow.holds Try.pinned (OpenSpec.upto gateJudgesSpec)

/-- 'empennagelaw12.GateRefuses', WHERE WHAT IT READS IS OF BULK AT MOST 1048576: true; the input reads as it did. -/
def gateRefusesUptoRow : OpenClaim := { program := "ytgmcjkiofcpjbaa", sum := "519156700fa1e7e2e88a4e5380bc6285e02cc7673b8ffaa728e0b894d0ecf310", func := "empennage/empennagelaw12.GateRefuses", spec := "gateRefuses", unfollowed := true, recurses := true, apart := false, narrowed := true }
def GateRefusesUptoSaid : Prop := gateRefusesUptoRow.holds Try.pinned (OpenSpec.upto gateRefusesSpec)

/-- 'empennagelaw12.GateDoors', WHERE WHAT IT READS IS OF BULK AT MOST 1048576: true; the input reads as it did. -/
def gateDoorsUptoRow : OpenClaim := { program := "ytgmcjkiofcpjbaa", sum := "519156700fa1e7e2e88a4e5380bc6285e02cc7673b8ffaa728e0b894d0ecf310", func := "empennage/empennagelaw12.GateDoors", spec := "gateDoors", unfollowed := true, recurses := true, apart := false, narrowed := true }
def GateDoorsUptoSaid : Prop := gateDoorsUptoRow.holds Try.pinned (OpenSpec.upto gateDoorsSpec)

/-- 'empennagelaw12.GateRates', WHERE WHAT IT READS IS OF BULK AT MOST 1048576: true; the input reads as it did. -/
def gateRatesUptoRow : OpenClaim := { program := "ytgmcjkiofcpjbaa", sum := "519156700fa1e7e2e88a4e5380bc6285e02cc7673b8ffaa728e0b894d0ecf310", func := "empennage/empennagelaw12.GateRates", spec := "gateRates", unfollowed := true, recurses := true, apart := false, narrowed := true }
def GateRatesUptoSaid : Prop := gateRatesUptoRow.holds Try.pinned (OpenSpec.upto gateRatesSpec)

/-- 'empennagelaw12.GateNil', WHERE WHAT IT READS IS OF BULK AT MOST 1048576: true; the input reads as it did. -/
def gateNilUptoRow : OpenClaim := { program := "ytgmcjkiofcpjbaa", sum := "519156700fa1e7e2e88a4e5380bc6285e02cc7673b8ffaa728e0b894d0ecf310", func := "empennage/empennagelaw12.GateNil", spec := "gateNil", unfollowed := true, recurses := true, apart := false, narrowed := true }
def GateNilUptoSaid : Prop := gateNilUptoRow.holds Try.pinned (OpenSpec.upto gateNilSpec)

/-- 'empennagelaw12.GateLate', WHERE WHAT IT READS IS OF BULK AT MOST 1048576: true; the input reads as it did. -/
def gateLateUptoRow : OpenClaim := { program := "ytgmcjkiofcpjbaa", sum := "519156700fa1e7e2e88a4e5380bc6285e02cc7673b8ffaa728e0b894d0ecf310", func := "empennage/empennagelaw12.GateLate", spec := "gateLate", unfollowed := true, recurses := true, apart := false, narrowed := true }
def GateLateUptoSaid : Prop := gateLateUptoRow.holds Try.pinned (OpenSpec.upto gateLateSpec)

end Rows
end Go.Proofs.Ytgmcjkiofcpjbaa
