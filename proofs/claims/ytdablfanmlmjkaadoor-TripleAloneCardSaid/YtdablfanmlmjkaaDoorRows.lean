/-
  NARROWER THAN 'FOR EVERY INPUT', by the rows' own cells (each row's printed sentence says how): TriplePlays: laid · TripleWhole: laid · TripleThree: laid · TripleAlone: laid · TripleLast: laid · TripleOdd: laid.
  DERIVED. THE GIVEN ROWS OF THIS SEAT. 6 by the template 'for every input the law returns true; each argument reads behind the call as it read before'; 0 by the template 'total and deterministic' (their statements: YtdablfanmlmjkaaDoorTotals.lean).
  GIVEN WITH THE SEED: the statements are not yours to turn. If you find one false, say at which input.
  Laid BY PROGRAM, IN A SANDBOX (cutbox-rows.mjs): the forced cells as the released guide's own fill.sh prints them over the translation 7074c4d3287ab60e… (all of the seat's roots in one cut). By AI agents, Wed Nov 11 2026. No macro, syntax, notation, axiom, sorry.
-/
import Derived.Test.YtdablfanmlmjkaaDoorChecked
import GoSem.Claim
import GoSem.ClaimJoined
import GoSem.ClaimMapViews
import Derived.JoinedTies
import Derived.KernelRfl
namespace Go.Proofs.YtdablfanmlmjkaaDoor
/- THE CELL 'sum', in the pinned program and in every row, IS THE sha256 OF THE DUMP (.gsa) THAT YtdablfanmlmjkaaDoorProg.lean LOADS. Nothing in Lean hashes anything: it is a label: what it is worth is what the hold of that sum in a sandbox is worth. -/
noncomputable def Tryd.pinned : Pinned := { name := "ytdablfanmlmjkaadoor", sum := "7074c4d3287ab60e7cbdb28ab17866c9d0247c90abf949e5c06e6da2ff0f8b1c", checked := Tryd.checked }
namespace Rows
def none {H : Type} : Left H := { results := [], args := [] }

/- WHAT THE LISTED PACKAGE-LEVEL VARIABLES READ AS WHEN THE CALL BEGINS. Each datum BY PROGRAM (the guide's laid-datum.mjs) off the statement by which the dump's own 'gosem.cut.vars' lays the variable. In a bare row this is a premise. The card (YtdablfanmlmjkaaDoorCards.lean) ties it to the program's text. -/
def laid_errors_errorType {H : Type} : DataW H := .iface "internal/reflectlite.rtype" (.agg [.ptr (.lit (.string [101, 114, 114, 111, 114]))])

/-- 'empennagelaw07.TriplePlays': WHATEVER THE INPUT: true; the input reads as it did. -/
def triplePlaysSpec : ChangeSpec := { name := "triplePlays", fn := fun _ => fun
  | [d1, d2] => { results := [.lit (.bool true)], args := [d1, d2] }
  | _ => none }
def triplePlaysRow : OpenClaim := { program := "ytdablfanmlmjkaadoor", sum := "7074c4d3287ab60e7cbdb28ab17866c9d0247c90abf949e5c06e6da2ff0f8b1c", func := "empennage/empennagelaw07.TriplePlays", spec := "triplePlays", inPlace := ["internal/reflectlite.ValueOf", "(internal/reflectlite.Value).Type", "(internal/reflectlite.Value).IsNil", "internal/reflectlite.TypeOf", "(internal/reflectlite.Value).Elem", "(internal/reflectlite.Value).Set"], unfollowed := true, recurses := true, named := ["errors.errorType"], apart := false, laid := [("errors.errorType", laid_errors_errorType)] }
def TriplePlaysSaid : Prop := triplePlaysRow.holds Tryd.pinned (OpenSpec.ofChange triplePlaysSpec)

/-- ITS FALSE NEIGHBOUR: 'it returns false'. Refute it at one input. -/
def triplePlaysWrong : ChangeSpec := { name := "triplePlays", fn := fun _ => fun
  | [d1, d2] => { results := [.lit (.bool false)], args := [d1, d2] }
  | _ => none }
def TriplePlaysWrongFalsely : Prop := triplePlaysRow.holds Tryd.pinned (OpenSpec.ofChange triplePlaysWrong)

/-- 'empennagelaw07.TripleWhole': WHATEVER THE INPUT: true; the input reads as it did. -/
def tripleWholeSpec : ChangeSpec := { name := "tripleWhole", fn := fun _ => fun
  | [d1, d2] => { results := [.lit (.bool true)], args := [d1, d2] }
  | _ => none }
def tripleWholeRow : OpenClaim := { program := "ytdablfanmlmjkaadoor", sum := "7074c4d3287ab60e7cbdb28ab17866c9d0247c90abf949e5c06e6da2ff0f8b1c", func := "empennage/empennagelaw07.TripleWhole", spec := "tripleWhole", inPlace := ["internal/reflectlite.ValueOf", "(internal/reflectlite.Value).Type", "(internal/reflectlite.Value).IsNil", "internal/reflectlite.TypeOf", "(internal/reflectlite.Value).Elem", "(internal/reflectlite.Value).Set"], unfollowed := true, recurses := true, named := ["errors.errorType"], apart := false, laid := [("errors.errorType", laid_errors_errorType)] }
def TripleWholeSaid : Prop := tripleWholeRow.holds Tryd.pinned (OpenSpec.ofChange tripleWholeSpec)

/-- ITS FALSE NEIGHBOUR: 'it returns false'. Refute it at one input. -/
def tripleWholeWrong : ChangeSpec := { name := "tripleWhole", fn := fun _ => fun
  | [d1, d2] => { results := [.lit (.bool false)], args := [d1, d2] }
  | _ => none }
def TripleWholeWrongFalsely : Prop := tripleWholeRow.holds Tryd.pinned (OpenSpec.ofChange tripleWholeWrong)

/-- 'empennagelaw07.TripleThree': WHATEVER THE INPUT: true; the input reads as it did. -/
def tripleThreeSpec : ChangeSpec := { name := "tripleThree", fn := fun _ => fun
  | [d1, d2] => { results := [.lit (.bool true)], args := [d1, d2] }
  | _ => none }
def tripleThreeRow : OpenClaim := { program := "ytdablfanmlmjkaadoor", sum := "7074c4d3287ab60e7cbdb28ab17866c9d0247c90abf949e5c06e6da2ff0f8b1c", func := "empennage/empennagelaw07.TripleThree", spec := "tripleThree", inPlace := ["internal/reflectlite.ValueOf", "(internal/reflectlite.Value).Type", "(internal/reflectlite.Value).IsNil", "internal/reflectlite.TypeOf", "(internal/reflectlite.Value).Elem", "(internal/reflectlite.Value).Set"], unfollowed := true, recurses := true, named := ["errors.errorType"], apart := false, laid := [("errors.errorType", laid_errors_errorType)] }
def TripleThreeSaid : Prop := tripleThreeRow.holds Tryd.pinned (OpenSpec.ofChange tripleThreeSpec)

/-- ITS FALSE NEIGHBOUR: 'it returns false'. Refute it at one input. -/
def tripleThreeWrong : ChangeSpec := { name := "tripleThree", fn := fun _ => fun
  | [d1, d2] => { results := [.lit (.bool false)], args := [d1, d2] }
  | _ => none }
def TripleThreeWrongFalsely : Prop := tripleThreeRow.holds Tryd.pinned (OpenSpec.ofChange tripleThreeWrong)

/-- 'empennagelaw07.TripleAlone': WHATEVER THE INPUT: true; the input reads as it did. -/
def tripleAloneSpec : ChangeSpec := { name := "tripleAlone", fn := fun _ => fun
  | [d1, d2] => { results := [.lit (.bool true)], args := [d1, d2] }
  | _ => none }
def tripleAloneRow : OpenClaim := { program := "ytdablfanmlmjkaadoor", sum := "7074c4d3287ab60e7cbdb28ab17866c9d0247c90abf949e5c06e6da2ff0f8b1c", func := "empennage/empennagelaw07.TripleAlone", spec := "tripleAlone", inPlace := ["internal/reflectlite.ValueOf", "(internal/reflectlite.Value).Type", "(internal/reflectlite.Value).IsNil", "internal/reflectlite.TypeOf", "(internal/reflectlite.Value).Elem", "(internal/reflectlite.Value).Set"], unfollowed := true, recurses := true, named := ["errors.errorType"], apart := false, laid := [("errors.errorType", laid_errors_errorType)] }
def TripleAloneSaid : Prop := tripleAloneRow.holds Tryd.pinned (OpenSpec.ofChange tripleAloneSpec)

/-- ITS FALSE NEIGHBOUR: 'it returns false'. Refute it at one input. -/
def tripleAloneWrong : ChangeSpec := { name := "tripleAlone", fn := fun _ => fun
  | [d1, d2] => { results := [.lit (.bool false)], args := [d1, d2] }
  | _ => none }
def TripleAloneWrongFalsely : Prop := tripleAloneRow.holds Tryd.pinned (OpenSpec.ofChange tripleAloneWrong)

/-- 'empennagelaw07.TripleLast': WHATEVER THE INPUT: true; the input reads as it did. -/
def tripleLastSpec : ChangeSpec := { name := "tripleLast", fn := fun _ => fun
  | [d1, d2] => { results := [.lit (.bool true)], args := [d1, d2] }
  | _ => none }
def tripleLastRow : OpenClaim := { program := "ytdablfanmlmjkaadoor", sum := "7074c4d3287ab60e7cbdb28ab17866c9d0247c90abf949e5c06e6da2ff0f8b1c", func := "empennage/empennagelaw07.TripleLast", spec := "tripleLast", inPlace := ["internal/reflectlite.ValueOf", "(internal/reflectlite.Value).Type", "(internal/reflectlite.Value).IsNil", "internal/reflectlite.TypeOf", "(internal/reflectlite.Value).Elem", "(internal/reflectlite.Value).Set"], unfollowed := true, recurses := true, named := ["errors.errorType"], apart := false, laid := [("errors.errorType", laid_errors_errorType)] }
def TripleLastSaid : Prop := tripleLastRow.holds Tryd.pinned (OpenSpec.ofChange tripleLastSpec)

/-- ITS FALSE NEIGHBOUR: 'it returns false'. Refute it at one input. -/
def tripleLastWrong : ChangeSpec := { name := "tripleLast", fn := fun _ => fun
  | [d1, d2] => { results := [.lit (.bool false)], args := [d1, d2] }
  | _ => none }
def TripleLastWrongFalsely : Prop := tripleLastRow.holds Tryd.pinned (OpenSpec.ofChange tripleLastWrong)

/-- 'empennagelaw07.TripleOdd': WHATEVER THE INPUT: true; the input reads as it did. -/
def tripleOddSpec : ChangeSpec := { name := "tripleOdd", fn := fun _ => fun
  | [d1, d2, d3] => { results := [.lit (.bool true)], args := [d1, d2, d3] }
  | _ => none }
def tripleOddRow : OpenClaim := { program := "ytdablfanmlmjkaadoor", sum := "7074c4d3287ab60e7cbdb28ab17866c9d0247c90abf949e5c06e6da2ff0f8b1c", func := "empennage/empennagelaw07.TripleOdd", spec := "tripleOdd", inPlace := ["internal/reflectlite.ValueOf", "(internal/reflectlite.Value).Type", "(internal/reflectlite.Value).IsNil", "internal/reflectlite.TypeOf", "(internal/reflectlite.Value).Elem", "(internal/reflectlite.Value).Set"], unfollowed := true, recurses := true, named := ["errors.errorType"], apart := false, laid := [("errors.errorType", laid_errors_errorType)] }
def TripleOddSaid : Prop := tripleOddRow.holds Tryd.pinned (OpenSpec.ofChange tripleOddSpec)

/-- ITS FALSE NEIGHBOUR: 'it returns false'. Refute it at one input. -/
def tripleOddWrong : ChangeSpec := { name := "tripleOdd", fn := fun _ => fun
  | [d1, d2, d3] => { results := [.lit (.bool false)], args := [d1, d2, d3] }
  | _ => none }
def TripleOddWrongFalsely : Prop := tripleOddRow.holds Tryd.pinned (OpenSpec.ofChange tripleOddWrong)

/- THE SECOND FORM. 'bulk': how many values and letters a reading holds, each counted each time it is reached (what is shared counts as often as it is met; a slice's spare places count too). A statement '..UptoSaid' is the law's where the arguments, and the package variables that the reading takes, are together of bulk at most 1048576: NARROWER than '..Said'. Prove '..Said' where nothing that the law and all that it calls make is longer than what came in: it says more and counts as full. Else prove '..UptoSaid'. A law counts once. -/
mutual
def uptoBulk {H : Type} : DataW H → Nat
  | .lit (.string bytes) => bytes.length + 1
  | .lit _ => 1
  | .nil => 1
  | .ptr d => uptoBulk d + 1
  | .slice elems spare => uptoBulkAll elems + uptoBulkAll spare + 1
  | .agg parts => uptoBulkAll parts + 1
  | .iface _ d => uptoBulk d + 1
  | .map entries => uptoBulkEntries entries + 1
  | .held _ => 1
def uptoBulkAll {H : Type} : List (DataW H) → Nat
  | [] => 0
  | d :: r => uptoBulk d + uptoBulkAll r
def uptoBulkEntries {H : Type} : List (Lit × DataW H) → Nat
  | [] => 0
  | x :: r => uptoBulkEntry x + uptoBulkEntries r
def uptoBulkEntry {H : Type} : Lit × DataW H → Nat
  | (.string bytes, d) => bytes.length + uptoBulk d + 1
  | (_, d) => uptoBulk d + 1
 end
def uptoSmall : (H : Type) → List (DataW H) → Bool := fun _ ds => decide (uptoBulkAll ds ≤ 1048576)
def OpenSpec.upto (s : _root_.Go.ChangeSpec) : _root_.Go.OpenSpec := { _root_.Go.OpenSpec.ofChange s with cond := some uptoSmall }

/-- 'empennagelaw07.TriplePlays', WHERE WHAT IT READS IS OF BULK AT MOST 1048576: true; the input reads as it did. -/
def triplePlaysUptoRow : OpenClaim := { program := "ytdablfanmlmjkaadoor", sum := "7074c4d3287ab60e7cbdb28ab17866c9d0247c90abf949e5c06e6da2ff0f8b1c", func := "empennage/empennagelaw07.TriplePlays", spec := "triplePlays", inPlace := ["internal/reflectlite.ValueOf", "(internal/reflectlite.Value).Type", "(internal/reflectlite.Value).IsNil", "internal/reflectlite.TypeOf", "(internal/reflectlite.Value).Elem", "(internal/reflectlite.Value).Set"], unfollowed := true, recurses := true, named := ["errors.errorType"], apart := false, laid := [("errors.errorType", laid_errors_errorType)], narrowed := true }
def TriplePlaysUptoSaid : Prop := triplePlaysUptoRow.holds Tryd.pinned (OpenSpec.upto triplePlaysSpec)

/-- 'empennagelaw07.TripleWhole', WHERE WHAT IT READS IS OF BULK AT MOST 1048576: true; the input reads as it did. -/
def tripleWholeUptoRow : OpenClaim := { program := "ytdablfanmlmjkaadoor", sum := "7074c4d3287ab60e7cbdb28ab17866c9d0247c90abf949e5c06e6da2ff0f8b1c", func := "empennage/empennagelaw07.TripleWhole", spec := "tripleWhole", inPlace := ["internal/reflectlite.ValueOf", "(internal/reflectlite.Value).Type", "(internal/reflectlite.Value).IsNil", "internal/reflectlite.TypeOf", "(internal/reflectlite.Value).Elem", "(internal/reflectlite.Value).Set"], unfollowed := true, recurses := true, named := ["errors.errorType"], apart := false, laid := [("errors.errorType", laid_errors_errorType)], narrowed := true }
def TripleWholeUptoSaid : Prop := tripleWholeUptoRow.holds Tryd.pinned (OpenSpec.upto tripleWholeSpec)

/-- 'empennagelaw07.TripleThree', WHERE WHAT IT READS IS OF BULK AT MOST 1048576: true; the input reads as it did. -/
def tripleThreeUptoRow : OpenClaim := { program := "ytdablfanmlmjkaadoor", sum := "7074c4d3287ab60e7cbdb28ab17866c9d0247c90abf949e5c06e6da2ff0f8b1c", func := "empennage/empennagelaw07.TripleThree", spec := "tripleThree", inPlace := ["internal/reflectlite.ValueOf", "(internal/reflectlite.Value).Type", "(internal/reflectlite.Value).IsNil", "internal/reflectlite.TypeOf", "(internal/reflectlite.Value).Elem", "(internal/reflectlite.Value).Set"], unfollowed := true, recurses := true, named := ["errors.errorType"], apart := false, laid := [("errors.errorType", laid_errors_errorType)], narrowed := true }
def TripleThreeUptoSaid : Prop := tripleThreeUptoRow.holds Tryd.pinned (OpenSpec.upto tripleThreeSpec)

/-- 'empennagelaw07.TripleAlone', WHERE WHAT IT READS IS OF BULK AT MOST 1048576: true; the input reads as it did. -/
def tripleAloneUptoRow : OpenClaim := { program := "ytdablfanmlmjkaadoor", sum := "7074c4d3287ab60e7cbdb28ab17866c9d0247c90abf949e5c06e6da2ff0f8b1c", func := "empennage/empennagelaw07.TripleAlone", spec := "tripleAlone", inPlace := ["internal/reflectlite.ValueOf", "(internal/reflectlite.Value).Type", "(internal/reflectlite.Value).IsNil", "internal/reflectlite.TypeOf", "(internal/reflectlite.Value).Elem", "(internal/reflectlite.Value).Set"], unfollowed := true, recurses := true, named := ["errors.errorType"], apart := false, laid := [("errors.errorType", laid_errors_errorType)], narrowed := true }
def TripleAloneUptoSaid : Prop := tripleAloneUptoRow.holds Tryd.pinned (OpenSpec.upto tripleAloneSpec)

/-- 'empennagelaw07.TripleLast', WHERE WHAT IT READS IS OF BULK AT MOST 1048576: true; the input reads as it did. -/
def tripleLastUptoRow : OpenClaim := { program := "ytdablfanmlmjkaadoor", sum := "7074c4d3287ab60e7cbdb28ab17866c9d0247c90abf949e5c06e6da2ff0f8b1c", func := "empennage/empennagelaw07.TripleLast", spec := "tripleLast", inPlace := ["internal/reflectlite.ValueOf", "(internal/reflectlite.Value).Type", "(internal/reflectlite.Value).IsNil", "internal/reflectlite.TypeOf", "(internal/reflectlite.Value).Elem", "(internal/reflectlite.Value).Set"], unfollowed := true, recurses := true, named := ["errors.errorType"], apart := false, laid := [("errors.errorType", laid_errors_errorType)], narrowed := true }
def TripleLastUptoSaid : Prop := tripleLastUptoRow.holds Tryd.pinned (OpenSpec.upto tripleLastSpec)

/-- 'empennagelaw07.TripleOdd', WHERE WHAT IT READS IS OF BULK AT MOST 1048576: true; the input reads as it did. -/
def tripleOddUptoRow : OpenClaim := { program := "ytdablfanmlmjkaadoor", sum := "7074c4d3287ab60e7cbdb28ab17866c9d0247c90abf949e5c06e6da2ff0f8b1c", func := "empennage/empennagelaw07.TripleOdd", spec := "tripleOdd", inPlace := ["internal/reflectlite.ValueOf", "(internal/reflectlite.Value).Type", "(internal/reflectlite.Value).IsNil", "internal/reflectlite.TypeOf", "(internal/reflectlite.Value).Elem", "(internal/reflectlite.Value).Set"], unfollowed := true, recurses := true, named := ["errors.errorType"], apart := false, laid := [("errors.errorType", laid_errors_errorType)], narrowed := true }
def TripleOddUptoSaid : Prop := tripleOddUptoRow.holds Tryd.pinned (OpenSpec.upto tripleOddSpec)

end Rows
end Go.Proofs.YtdablfanmlmjkaaDoor
