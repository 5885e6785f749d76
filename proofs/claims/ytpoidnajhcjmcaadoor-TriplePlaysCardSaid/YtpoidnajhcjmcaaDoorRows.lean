/-
  NARROWER THAN 'FOR EVERY INPUT', by the rows' own cells (each row's printed sentence says how): FourPlays: laid · TriplePlays: laid · RingPlays: laid · RingRow: laid · RingFills: laid · RingDrops: laid · RingResets: laid · RingOdd: laid.
  DERIVED. THE GIVEN ROWS OF THIS SEAT. 8 by the template 'for every input the law returns true; each argument reads behind the call as it read before'; 0 by the template 'total and deterministic' (their statements: YtpoidnajhcjmcaaDoorTotals.lean).
  GIVEN WITH THE SEED: the statements are not yours to turn. If you find one false, say at which input.
  Laid BY PROGRAM, IN A SANDBOX (cutbox-rows.mjs): the forced cells as the released guide's own fill.sh prints them over the translation 74035d1f3c93b0c1… (all of the seat's roots in one cut). By AI agents, Wed Nov 11 2026. No macro, syntax, notation, axiom, sorry.
-/
import Derived.Test.YtpoidnajhcjmcaaDoorChecked
import GoSem.Claim
import GoSem.ClaimJoined
import GoSem.ClaimMapViews
import Derived.JoinedTies
import Derived.KernelRfl
namespace Go.Proofs.YtpoidnajhcjmcaaDoor
/- THE CELL 'sum', in the pinned program and in every row, IS THE sha256 OF THE DUMP (.gsa) THAT YtpoidnajhcjmcaaDoorProg.lean LOADS. Nothing in Lean hashes anything: it is a label: what it is worth is what the hold of that sum in a sandbox is worth. -/
noncomputable def Tryd.pinned : Pinned := { name := "ytpoidnajhcjmcaadoor", sum := "74035d1f3c93b0c1a93d5376db5e36aecbab1d21ac3c9cb8f90d17c7e3243f2b", checked := Tryd.checked }
namespace Rows
def none {H : Type} : Left H := { results := [], args := [] }

/- WHAT THE LISTED PACKAGE-LEVEL VARIABLES READ AS WHEN THE CALL BEGINS. Each datum BY PROGRAM (the guide's laid-datum.mjs) off the statement by which the dump's own 'gosem.cut.vars' lays the variable. In a bare row this is a premise. The card (YtpoidnajhcjmcaaDoorCards.lean) ties it to the program's text. -/
def laid_errors_errorType {H : Type} : DataW H := .iface "internal/reflectlite.rtype" (.agg [.ptr (.lit (.string [101, 114, 114, 111, 114]))])

/-- 'empennagelaw06.FourPlays': WHATEVER THE INPUT: true; the input reads as it did. -/
def fourPlaysSpec : ChangeSpec := { name := "fourPlays", fn := fun _ => fun
  | [d1, d2] => { results := [.lit (.bool true)], args := [d1, d2] }
  | _ => none }
def fourPlaysRow : OpenClaim := { program := "ytpoidnajhcjmcaadoor", sum := "74035d1f3c93b0c1a93d5376db5e36aecbab1d21ac3c9cb8f90d17c7e3243f2b", func := "empennage/empennagelaw06.FourPlays", spec := "fourPlays", inPlace := ["internal/reflectlite.ValueOf", "(internal/reflectlite.Value).Type", "(internal/reflectlite.Value).IsNil", "internal/reflectlite.TypeOf", "(internal/reflectlite.Value).Elem", "(internal/reflectlite.Value).Set"], unfollowed := true, recurses := true, named := ["errors.errorType"], apart := false, laid := [("errors.errorType", laid_errors_errorType)] }
def FourPlaysSaid : Prop := fourPlaysRow.holds Tryd.pinned (OpenSpec.ofChange fourPlaysSpec)

/-- ITS FALSE NEIGHBOUR: 'it returns false'. Refute it at one input. -/
def fourPlaysWrong : ChangeSpec := { name := "fourPlays", fn := fun _ => fun
  | [d1, d2] => { results := [.lit (.bool false)], args := [d1, d2] }
  | _ => none }
def FourPlaysWrongFalsely : Prop := fourPlaysRow.holds Tryd.pinned (OpenSpec.ofChange fourPlaysWrong)

/-- 'empennagelaw07.TriplePlays': WHATEVER THE INPUT: true; the input reads as it did. -/
def triplePlaysSpec : ChangeSpec := { name := "triplePlays", fn := fun _ => fun
  | [d1, d2] => { results := [.lit (.bool true)], args := [d1, d2] }
  | _ => none }
def triplePlaysRow : OpenClaim := { program := "ytpoidnajhcjmcaadoor", sum := "74035d1f3c93b0c1a93d5376db5e36aecbab1d21ac3c9cb8f90d17c7e3243f2b", func := "empennage/empennagelaw07.TriplePlays", spec := "triplePlays", inPlace := ["internal/reflectlite.ValueOf", "(internal/reflectlite.Value).Type", "(internal/reflectlite.Value).IsNil", "internal/reflectlite.TypeOf", "(internal/reflectlite.Value).Elem", "(internal/reflectlite.Value).Set"], unfollowed := true, recurses := true, named := ["errors.errorType"], apart := false, laid := [("errors.errorType", laid_errors_errorType)] }
def TriplePlaysSaid : Prop := triplePlaysRow.holds Tryd.pinned (OpenSpec.ofChange triplePlaysSpec)

/-- ITS FALSE NEIGHBOUR: 'it returns false'. Refute it at one input. -/
def triplePlaysWrong : ChangeSpec := { name := "triplePlays", fn := fun _ => fun
  | [d1, d2] => { results := [.lit (.bool false)], args := [d1, d2] }
  | _ => none }
def TriplePlaysWrongFalsely : Prop := triplePlaysRow.holds Tryd.pinned (OpenSpec.ofChange triplePlaysWrong)

/-- 'empennagelaw08.RingPlays': WHATEVER THE INPUT: true; the input reads as it did. -/
def ringPlaysSpec : ChangeSpec := { name := "ringPlays", fn := fun _ => fun
  | [d1, d2, d3] => { results := [.lit (.bool true)], args := [d1, d2, d3] }
  | _ => none }
def ringPlaysRow : OpenClaim := { program := "ytpoidnajhcjmcaadoor", sum := "74035d1f3c93b0c1a93d5376db5e36aecbab1d21ac3c9cb8f90d17c7e3243f2b", func := "empennage/empennagelaw08.RingPlays", spec := "ringPlays", inPlace := ["internal/reflectlite.ValueOf", "(internal/reflectlite.Value).Type", "(internal/reflectlite.Value).IsNil", "internal/reflectlite.TypeOf", "(internal/reflectlite.Value).Elem", "(internal/reflectlite.Value).Set"], unfollowed := true, recurses := true, named := ["errors.errorType"], apart := false, laid := [("errors.errorType", laid_errors_errorType)] }
def RingPlaysSaid : Prop := ringPlaysRow.holds Tryd.pinned (OpenSpec.ofChange ringPlaysSpec)

/-- ITS FALSE NEIGHBOUR: 'it returns false'. Refute it at one input. -/
def ringPlaysWrong : ChangeSpec := { name := "ringPlays", fn := fun _ => fun
  | [d1, d2, d3] => { results := [.lit (.bool false)], args := [d1, d2, d3] }
  | _ => none }
def RingPlaysWrongFalsely : Prop := ringPlaysRow.holds Tryd.pinned (OpenSpec.ofChange ringPlaysWrong)

/-- 'empennagelaw08.RingRow': WHATEVER THE INPUT: true; the input reads as it did. -/
def ringRowSpec : ChangeSpec := { name := "ringRow", fn := fun _ => fun
  | [d1, d2, d3] => { results := [.lit (.bool true)], args := [d1, d2, d3] }
  | _ => none }
def ringRowRow : OpenClaim := { program := "ytpoidnajhcjmcaadoor", sum := "74035d1f3c93b0c1a93d5376db5e36aecbab1d21ac3c9cb8f90d17c7e3243f2b", func := "empennage/empennagelaw08.RingRow", spec := "ringRow", inPlace := ["internal/reflectlite.ValueOf", "(internal/reflectlite.Value).Type", "(internal/reflectlite.Value).IsNil", "internal/reflectlite.TypeOf", "(internal/reflectlite.Value).Elem", "(internal/reflectlite.Value).Set"], unfollowed := true, recurses := true, named := ["errors.errorType"], apart := false, laid := [("errors.errorType", laid_errors_errorType)] }
def RingRowSaid : Prop := ringRowRow.holds Tryd.pinned (OpenSpec.ofChange ringRowSpec)

/-- ITS FALSE NEIGHBOUR: 'it returns false'. Refute it at one input. -/
def ringRowWrong : ChangeSpec := { name := "ringRow", fn := fun _ => fun
  | [d1, d2, d3] => { results := [.lit (.bool false)], args := [d1, d2, d3] }
  | _ => none }
def RingRowWrongFalsely : Prop := ringRowRow.holds Tryd.pinned (OpenSpec.ofChange ringRowWrong)

/-- 'empennagelaw08.RingFills': WHATEVER THE INPUT: true; the input reads as it did. -/
def ringFillsSpec : ChangeSpec := { name := "ringFills", fn := fun _ => fun
  | [d1, d2, d3] => { results := [.lit (.bool true)], args := [d1, d2, d3] }
  | _ => none }
def ringFillsRow : OpenClaim := { program := "ytpoidnajhcjmcaadoor", sum := "74035d1f3c93b0c1a93d5376db5e36aecbab1d21ac3c9cb8f90d17c7e3243f2b", func := "empennage/empennagelaw08.RingFills", spec := "ringFills", inPlace := ["internal/reflectlite.ValueOf", "(internal/reflectlite.Value).Type", "(internal/reflectlite.Value).IsNil", "internal/reflectlite.TypeOf", "(internal/reflectlite.Value).Elem", "(internal/reflectlite.Value).Set"], unfollowed := true, recurses := true, named := ["errors.errorType"], apart := false, laid := [("errors.errorType", laid_errors_errorType)] }
def RingFillsSaid : Prop := ringFillsRow.holds Tryd.pinned (OpenSpec.ofChange ringFillsSpec)

/-- ITS FALSE NEIGHBOUR: 'it returns false'. Refute it at one input. -/
def ringFillsWrong : ChangeSpec := { name := "ringFills", fn := fun _ => fun
  | [d1, d2, d3] => { results := [.lit (.bool false)], args := [d1, d2, d3] }
  | _ => none }
def RingFillsWrongFalsely : Prop := ringFillsRow.holds Tryd.pinned (OpenSpec.ofChange ringFillsWrong)

/-- 'empennagelaw08.RingDrops': WHATEVER THE INPUT: true; the input reads as it did. -/
def ringDropsSpec : ChangeSpec := { name := "ringDrops", fn := fun _ => fun
  | [d1, d2, d3] => { results := [.lit (.bool true)], args := [d1, d2, d3] }
  | _ => none }
def ringDropsRow : OpenClaim := { program := "ytpoidnajhcjmcaadoor", sum := "74035d1f3c93b0c1a93d5376db5e36aecbab1d21ac3c9cb8f90d17c7e3243f2b", func := "empennage/empennagelaw08.RingDrops", spec := "ringDrops", inPlace := ["internal/reflectlite.ValueOf", "(internal/reflectlite.Value).Type", "(internal/reflectlite.Value).IsNil", "internal/reflectlite.TypeOf", "(internal/reflectlite.Value).Elem", "(internal/reflectlite.Value).Set"], unfollowed := true, recurses := true, named := ["errors.errorType"], apart := false, laid := [("errors.errorType", laid_errors_errorType)] }
def RingDropsSaid : Prop := ringDropsRow.holds Tryd.pinned (OpenSpec.ofChange ringDropsSpec)

/-- ITS FALSE NEIGHBOUR: 'it returns false'. Refute it at one input. -/
def ringDropsWrong : ChangeSpec := { name := "ringDrops", fn := fun _ => fun
  | [d1, d2, d3] => { results := [.lit (.bool false)], args := [d1, d2, d3] }
  | _ => none }
def RingDropsWrongFalsely : Prop := ringDropsRow.holds Tryd.pinned (OpenSpec.ofChange ringDropsWrong)

/-- 'empennagelaw08.RingResets': WHATEVER THE INPUT: true; the input reads as it did. -/
def ringResetsSpec : ChangeSpec := { name := "ringResets", fn := fun _ => fun
  | [d1, d2, d3] => { results := [.lit (.bool true)], args := [d1, d2, d3] }
  | _ => none }
def ringResetsRow : OpenClaim := { program := "ytpoidnajhcjmcaadoor", sum := "74035d1f3c93b0c1a93d5376db5e36aecbab1d21ac3c9cb8f90d17c7e3243f2b", func := "empennage/empennagelaw08.RingResets", spec := "ringResets", inPlace := ["internal/reflectlite.ValueOf", "(internal/reflectlite.Value).Type", "(internal/reflectlite.Value).IsNil", "internal/reflectlite.TypeOf", "(internal/reflectlite.Value).Elem", "(internal/reflectlite.Value).Set"], unfollowed := true, recurses := true, named := ["errors.errorType"], apart := false, laid := [("errors.errorType", laid_errors_errorType)] }
def RingResetsSaid : Prop := ringResetsRow.holds Tryd.pinned (OpenSpec.ofChange ringResetsSpec)

/-- ITS FALSE NEIGHBOUR: 'it returns false'. Refute it at one input. -/
def ringResetsWrong : ChangeSpec := { name := "ringResets", fn := fun _ => fun
  | [d1, d2, d3] => { results := [.lit (.bool false)], args := [d1, d2, d3] }
  | _ => none }
def RingResetsWrongFalsely : Prop := ringResetsRow.holds Tryd.pinned (OpenSpec.ofChange ringResetsWrong)

/-- 'empennagelaw08.RingOdd': WHATEVER THE INPUT: true; the input reads as it did. -/
def ringOddSpec : ChangeSpec := { name := "ringOdd", fn := fun _ => fun
  | [d1, d2, d3] => { results := [.lit (.bool true)], args := [d1, d2, d3] }
  | _ => none }
def ringOddRow : OpenClaim := { program := "ytpoidnajhcjmcaadoor", sum := "74035d1f3c93b0c1a93d5376db5e36aecbab1d21ac3c9cb8f90d17c7e3243f2b", func := "empennage/empennagelaw08.RingOdd", spec := "ringOdd", inPlace := ["internal/reflectlite.ValueOf", "(internal/reflectlite.Value).Type", "(internal/reflectlite.Value).IsNil", "internal/reflectlite.TypeOf", "(internal/reflectlite.Value).Elem", "(internal/reflectlite.Value).Set"], unfollowed := true, recurses := true, named := ["errors.errorType"], apart := false, laid := [("errors.errorType", laid_errors_errorType)] }
def RingOddSaid : Prop := ringOddRow.holds Tryd.pinned (OpenSpec.ofChange ringOddSpec)

/-- ITS FALSE NEIGHBOUR: 'it returns false'. Refute it at one input. -/
def ringOddWrong : ChangeSpec := { name := "ringOdd", fn := fun _ => fun
  | [d1, d2, d3] => { results := [.lit (.bool false)], args := [d1, d2, d3] }
  | _ => none }
def RingOddWrongFalsely : Prop := ringOddRow.holds Tryd.pinned (OpenSpec.ofChange ringOddWrong)

/- THE SECOND FORM. 'bulk': how many values and letters a reading holds, each counted each time it is reached (what is shared counts as often as it is met; a slice's spare places count too). A statement '..UptoSaid' is the law's where the arguments, and the package variables that the reading takes, are together of bulk at most 1048576: NARROWER than '..Said'. Prove '..Said' where nothing that the law and all that it calls make is longer than what came in: it says more and counts as full. Else prove '..UptoSaid'. A law counts once. -/
mutual
def uptoBulk {H : Type} : DataW H → Nat
  | .lit (.string bytes) => bytes.length + 1
  | .lit _ => 1
  | .nil => 1
  | .ptr d => uptoBulk d + 1
  | .slice elems spare => uptoBulkAll elems + uptoBulkAll spare + 1
  | .agg parts => uptoBulkAll parts + 1
  | .iface _ d => uptoBulk d + 1
  | .map entries => uptoBulkEntries entries + 1
  | .held _ => 1
def uptoBulkAll {H : Type} : List (DataW H) → Nat
  | [] => 0
  | d :: r => uptoBulk d + uptoBulkAll r
def uptoBulkEntries {H : Type} : List (Lit × DataW H) → Nat
  | [] => 0
  | x :: r => uptoBulkEntry x + uptoBulkEntries r
def uptoBulkEntry {H : Type} : Lit × DataW H → Nat
  | (.string bytes, d) => bytes.length + uptoBulk d + 1
  | (_, d) => uptoBulk d + 1
 end
def uptoSmall : (H : Type) → List (DataW H) → Bool := fun _ ds => decide (uptoBulkAll ds ≤ 1048576)
def OpenSpec.upto (s : _root_.Go.ChangeSpec) : _root_.Go.OpenSpec := { _root_.Go.OpenSpec.ofChange s with cond := some uptoSmall }

/-- 'empennagelaw06.FourPlays', WHERE WHAT IT READS IS OF BULK AT MOST 1048576: true; the input reads as it did. -/
def fourPlaysUptoRow : OpenClaim := { program := "ytpoidnajhcjmcaadoor", sum := "74035d1f3c93b0c1a93d5376db5e36aecbab1d21ac3c9cb8f90d17c7e3243f2b", func := "empennage/empennagelaw06.FourPlays", spec := "fourPlays", inPlace := ["internal/reflectlite.ValueOf", "(internal/reflectlite.Value).Type", "(internal/reflectlite.Value).IsNil", "internal/reflectlite.TypeOf", "(internal/reflectlite.Value).Elem", "(internal/reflectlite.Value).Set"], unfollowed := true, recurses := true, named := ["errors.errorType"], apart := false, laid := [("errors.errorType", laid_errors_errorType)], narrowed := true }
def FourPlaysUptoSaid : Prop := fourPlaysUptoRow.holds Tryd.pinned (OpenSpec.upto fourPlaysSpec)

/-- 'empennagelaw07.TriplePlays', WHERE WHAT IT READS IS OF BULK AT MOST 1048576: true; the input reads as it did. -/
def triplePlaysUptoRow : OpenClaim := { program := "ytpoidnajhcjmcaadoor", sum := "74035d1f3c93b0c1a93d5376db5e36aecbab1d21ac3c9cb8f90d17c7e3243f2b", func := "empennage/empennagelaw07.TriplePlays", spec := "triplePlays", inPlace := ["internal/reflectlite.ValueOf", "(internal/reflectlite.Value).Type", "(internal/reflectlite.Value).IsNil", "internal/reflectlite.TypeOf", "(internal/reflectlite.Value).Elem", "(internal/reflectlite.Value).Set"], unfollowed := true, recurses := true, named := ["errors.errorType"], apart := false, laid := [("errors.errorType", laid_errors_errorType)], narrowed := true }
def TriplePlaysUptoSaid : Prop := triplePlaysUptoRow.holds Tryd.pinned (OpenSpec.upto triplePlaysSpec)

/-- 'empennagelaw08.RingPlays', WHERE WHAT IT READS IS OF BULK AT MOST 1048576: true; the input reads as it did. -/
def ringPlaysUptoRow : OpenClaim := { program := "ytpoidnajhcjmcaadoor", sum := "74035d1f3c93b0c1a93d5376db5e36aecbab1d21ac3c9cb8f90d17c7e3243f2b", func := "empennage/empennagelaw08.RingPlays", spec := "ringPlays", inPlace := ["internal/reflectlite.ValueOf", "(internal/reflectlite.Value).Type", "(internal/reflectlite.Value).IsNil", "internal/reflectlite.TypeOf", "(internal/reflectlite.Value).Elem", "(internal/reflectlite.Value).Set"], unfollowed := true, recurses := true, named := ["errors.errorType"], apart := false, laid := [("errors.errorType", laid_errors_errorType)], narrowed := true }
def RingPlaysUptoSaid : Prop := ringPlaysUptoRow.holds Tryd.pinned (OpenSpec.upto ringPlaysSpec)

/-- 'empennagelaw08.RingRow', WHERE WHAT IT READS IS OF BULK AT MOST 1048576: true; the input reads as it did. -/
def ringRowUptoRow : OpenClaim := { program := "ytpoidnajhcjmcaadoor", sum := "74035d1f3c93b0c1a93d5376db5e36aecbab1d21ac3c9cb8f90d17c7e3243f2b", func := "empennage/empennagelaw08.RingRow", spec := "ringRow", inPlace := ["internal/reflectlite.ValueOf", "(internal/reflectlite.Value).Type", "(internal/reflectlite.Value).IsNil", "internal/reflectlite.TypeOf", "(internal/reflectlite.Value).Elem", "(internal/reflectlite.Value).Set"], unfollowed := true, recurses := true, named := ["errors.errorType"], apart := false, laid := [("errors.errorType", laid_errors_errorType)], narrowed := true }
def RingRowUptoSaid : Prop := ringRowUptoRow.holds Tryd.pinned (OpenSpec.upto ringRowSpec)

/-- 'empennagelaw08.RingFills', WHERE WHAT IT READS IS OF BULK AT MOST 1048576: true; the input reads as it did. -/
def ringFillsUptoRow : OpenClaim := { program := "ytpoidnajhcjmcaadoor", sum := "74035d1f3c93b0c1a93d5376db5e36aecbab1d21ac3c9cb8f90d17c7e3243f2b", func := "empennage/empennagelaw08.RingFills", spec := "ringFills", inPlace := ["internal/reflectlite.ValueOf", "(internal/reflectlite.Value).Type", "(internal/reflectlite.Value).IsNil", "internal/reflectlite.TypeOf", "(internal/reflectlite.Value).Elem", "(internal/reflectlite.Value).Set"], unfollowed := true, recurses := true, named := ["errors.errorType"], apart := false, laid := [("errors.errorType", laid_errors_errorType)], narrowed := true }
def RingFillsUptoSaid : Prop := ringFillsUptoRow.holds Tryd.pinned (OpenSpec.upto ringFillsSpec)

/-- 'empennagelaw08.RingDrops', WHERE WHAT IT READS IS OF BULK AT MOST 1048576: true; the input reads as it did. -/
def ringDropsUptoRow : OpenClaim := { program := "ytpoidnajhcjmcaadoor", sum := "74035d1f3c93b0c1a93d5376db5e36aecbab1d21ac3c9cb8f90d17c7e3243f2b", func := "empennage/empennagelaw08.RingDrops", spec := "ringDrops", inPlace := ["internal/reflectlite.ValueOf", "(internal/reflectlite.Value).Type", "(internal/reflectlite.Value).IsNil", "internal/reflectlite.TypeOf", "(internal/reflectlite.Value).Elem", "(internal/reflectlite.Value).Set"], unfollowed := true, recurses := true, named := ["errors.errorType"], apart := false, laid := [("errors.errorType", laid_errors_errorType)], narrowed := true }
def RingDropsUptoSaid : Prop := ringDropsUptoRow.holds Tryd.pinned (OpenSpec.upto ringDropsSpec)

/-- 'empennagelaw08.RingResets', WHERE WHAT IT READS IS OF BULK AT MOST 1048576: true; the input reads as it did. -/
def ringResetsUptoRow : OpenClaim := { program := "ytpoidnajhcjmcaadoor", sum := "74035d1f3c93b0c1a93d5376db5e36aecbab1d21ac3c9cb8f90d17c7e3243f2b", func := "empennage/empennagelaw08.RingResets", spec := "ringResets", inPlace := ["internal/reflectlite.ValueOf", "(internal/reflectlite.Value).Type", "(internal/reflectlite.Value).IsNil", "internal/reflectlite.TypeOf", "(internal/reflectlite.Value).Elem", "(internal/reflectlite.Value).Set"], unfollowed := true, recurses := true, named := ["errors.errorType"], apart := false, laid := [("errors.errorType", laid_errors_errorType)], narrowed := true }
def RingResetsUptoSaid : Prop := ringResetsUptoRow.holds Tryd.pinned (OpenSpec.upto ringResetsSpec)

/-- 'empennagelaw08.RingOdd', WHERE WHAT IT READS IS OF BULK AT MOST 1048576: true; the input reads as it did. -/
def ringOddUptoRow : OpenClaim := { program := "ytpoidnajhcjmcaadoor", sum := "74035d1f3c93b0c1a93d5376db5e36aecbab1d21ac3c9cb8f90d17c7e3243f2b", func := "empennage/empennagelaw08.RingOdd", spec := "ringOdd", inPlace := ["internal/reflectlite.ValueOf", "(internal/reflectlite.Value).Type", "(internal/reflectlite.Value).IsNil", "internal/reflectlite.TypeOf", "(internal/reflectlite.Value).Elem", "(internal/reflectlite.Value).Set"], unfollowed := true, recurses := true, named := ["errors.errorType"], apart := false, laid := [("errors.errorType", laid_errors_errorType)], narrowed := true }
def RingOddUptoSaid : Prop := ringOddUptoRow.holds Tryd.pinned (OpenSpec.upto ringOddSpec)

end Rows
end Go.Proofs.YtpoidnajhcjmcaaDoor
