/-
  No cell of these rows narrows 'for every input' (looked for: loops, veiled, ifaces, maps, wideKeys, modest, calm, conditions, laid).
  DERIVED. THE GIVEN ROWS OF THIS SEAT. 7 by the template 'for every input the law returns true; each argument reads behind the call as it read before'; 0 by the template 'total and deterministic' (their statements: YtomakdlhalmlbaaTotals.lean).
  GIVEN WITH THE SEED: the statements are not yours to turn. If you find one false, say at which input.
  Laid BY PROGRAM, IN A SANDBOX (cutbox-rows.mjs): the forced cells as the released guide's own fill.sh prints them over the translation 56865d91e067f6b1… (all of the seat's roots in one cut). By AI agents, Wed Nov 11 2026. No macro, syntax, notation, axiom, sorry.
-/
import Derived.Test.YtomakdlhalmlbaaChecked
import GoSem.Claim
import GoSem.ClaimJoined
import GoSem.ClaimMapViews
import Derived.JoinedTies
import Derived.KernelRfl
namespace Go.Proofs.Ytomakdlhalmlbaa
/- THE CELL 'sum', in the pinned program and in every row, IS THE sha256 OF THE DUMP (.gsa) THAT YtomakdlhalmlbaaProg.lean LOADS. Nothing in Lean hashes anything: it is a label: what it is worth is what the hold of that sum in a sandbox is worth. -/
noncomputable def Try.pinned : Pinned := { name := "ytomakdlhalmlbaa", sum := "56865d91e067f6b1c4191e349df5e648296672aa68b03b28dc4572569c6d5269", checked := Try.checked }
namespace Rows
def none {H : Type} : Left H := { results := [], args := [] }

/-- 'empennagelaw01.SatSums': WHATEVER THE INPUT: true; the input reads as it did. -/
def satSumsSpec : ChangeSpec := { name := "satSums", fn := fun _ => fun
  | [d1, d2] => { results := [.lit (.bool true)], args := [d1, d2] }
  | _ => none }
def satSumsRow : OpenClaim := { program := "ytomakdlhalmlbaa", sum := "56865d91e067f6b1c4191e349df5e648296672aa68b03b28dc4572569c6d5269", func := "empennage/empennagelaw01.SatSums", spec := "satSums", apart := false }
def SatSumsSaid : Prop := satSumsRow.holds Try.pinned (OpenSpec.ofChange satSumsSpec)

/-- ITS FALSE NEIGHBOUR: 'it returns false'. Refute it at one input. -/
def satSumsWrong : ChangeSpec := { name := "satSums", fn := fun _ => fun
  | [d1, d2] => { results := [.lit (.bool false)], args := [d1, d2] }
  | _ => none }
def SatSumsWrongFalsely : Prop := satSumsRow.holds Try.pinned (OpenSpec.ofChange satSumsWrong)

/-- 'empennagelaw01.SatFrames': WHATEVER THE INPUT: true; the input reads as it did. -/
def satFramesSpec : ChangeSpec := { name := "satFrames", fn := fun _ => fun
  | [d1, d2, d3] => { results := [.lit (.bool true)], args := [d1, d2, d3] }
  | _ => none }
def satFramesRow : OpenClaim := { program := "ytomakdlhalmlbaa", sum := "56865d91e067f6b1c4191e349df5e648296672aa68b03b28dc4572569c6d5269", func := "empennage/empennagelaw01.SatFrames", spec := "satFrames", apart := false }
def SatFramesSaid : Prop := satFramesRow.holds Try.pinned (OpenSpec.ofChange satFramesSpec)

/-- ITS FALSE NEIGHBOUR: 'it returns false'. Refute it at one input. -/
def satFramesWrong : ChangeSpec := { name := "satFrames", fn := fun _ => fun
  | [d1, d2, d3] => { results := [.lit (.bool false)], args := [d1, d2, d3] }
  | _ => none }
def SatFramesWrongFalsely : Prop := satFramesRow.holds Try.pinned (OpenSpec.ofChange satFramesWrong)

/-- 'empennagelaw01.SatAges': WHATEVER THE INPUT: true; the input reads as it did. -/
def satAgesSpec : ChangeSpec := { name := "satAges", fn := fun _ => fun
  | [d1, d2] => { results := [.lit (.bool true)], args := [d1, d2] }
  | _ => none }
def satAgesRow : OpenClaim := { program := "ytomakdlhalmlbaa", sum := "56865d91e067f6b1c4191e349df5e648296672aa68b03b28dc4572569c6d5269", func := "empennage/empennagelaw01.SatAges", spec := "satAges", apart := false }
def SatAgesSaid : Prop := satAgesRow.holds Try.pinned (OpenSpec.ofChange satAgesSpec)

/-- ITS FALSE NEIGHBOUR: 'it returns false'. Refute it at one input. -/
def satAgesWrong : ChangeSpec := { name := "satAges", fn := fun _ => fun
  | [d1, d2] => { results := [.lit (.bool false)], args := [d1, d2] }
  | _ => none }
def SatAgesWrongFalsely : Prop := satAgesRow.holds Try.pinned (OpenSpec.ofChange satAgesWrong)

/-- 'empennagelaw01.SatOrder': WHATEVER THE INPUT: true; the input reads as it did. -/
def satOrderSpec : ChangeSpec := { name := "satOrder", fn := fun _ => fun
  | [d1, d2] => { results := [.lit (.bool true)], args := [d1, d2] }
  | _ => none }
def satOrderRow : OpenClaim := { program := "ytomakdlhalmlbaa", sum := "56865d91e067f6b1c4191e349df5e648296672aa68b03b28dc4572569c6d5269", func := "empennage/empennagelaw01.SatOrder", spec := "satOrder", apart := false }
def SatOrderSaid : Prop := satOrderRow.holds Try.pinned (OpenSpec.ofChange satOrderSpec)

/-- ITS FALSE NEIGHBOUR: 'it returns false'. Refute it at one input. -/
def satOrderWrong : ChangeSpec := { name := "satOrder", fn := fun _ => fun
  | [d1, d2] => { results := [.lit (.bool false)], args := [d1, d2] }
  | _ => none }
def SatOrderWrongFalsely : Prop := satOrderRow.holds Try.pinned (OpenSpec.ofChange satOrderWrong)

/-- 'empennagelaw01.SatWhole': WHATEVER THE INPUT: true; the input reads as it did. -/
def satWholeSpec : ChangeSpec := { name := "satWhole", fn := fun _ => fun
  | [d1, d2] => { results := [.lit (.bool true)], args := [d1, d2] }
  | _ => none }
def satWholeRow : OpenClaim := { program := "ytomakdlhalmlbaa", sum := "56865d91e067f6b1c4191e349df5e648296672aa68b03b28dc4572569c6d5269", func := "empennage/empennagelaw01.SatWhole", spec := "satWhole", apart := false }
def SatWholeSaid : Prop := satWholeRow.holds Try.pinned (OpenSpec.ofChange satWholeSpec)

/-- ITS FALSE NEIGHBOUR: 'it returns false'. Refute it at one input. -/
def satWholeWrong : ChangeSpec := { name := "satWhole", fn := fun _ => fun
  | [d1, d2] => { results := [.lit (.bool false)], args := [d1, d2] }
  | _ => none }
def SatWholeWrongFalsely : Prop := satWholeRow.holds Try.pinned (OpenSpec.ofChange satWholeWrong)

/-- 'empennagelaw01.SatNext': WHATEVER THE INPUT: true; the input reads as it did. -/
def satNextSpec : ChangeSpec := { name := "satNext", fn := fun _ => fun
  | [d1, d2, d3] => { results := [.lit (.bool true)], args := [d1, d2, d3] }
  | _ => none }
def satNextRow : OpenClaim := { program := "ytomakdlhalmlbaa", sum := "56865d91e067f6b1c4191e349df5e648296672aa68b03b28dc4572569c6d5269", func := "empennage/empennagelaw01.SatNext", spec := "satNext", apart := false }
def SatNextSaid : Prop := satNextRow.holds Try.pinned (OpenSpec.ofChange satNextSpec)

/-- ITS FALSE NEIGHBOUR: 'it returns false'. Refute it at one input. -/
def satNextWrong : ChangeSpec := { name := "satNext", fn := fun _ => fun
  | [d1, d2, d3] => { results := [.lit (.bool false)], args := [d1, d2, d3] }
  | _ => none }
def SatNextWrongFalsely : Prop := satNextRow.holds Try.pinned (OpenSpec.ofChange satNextWrong)

/-- 'empennagelaw01.SatGroups': WHATEVER THE INPUT: true; the input reads as it did. -/
def satGroupsSpec : ChangeSpec := { name := "satGroups", fn := fun _ => fun
  | [d] => { results := [.lit (.bool true)], args := [d] }
  | _ => none }
def satGroupsRow : OpenClaim := { program := "ytomakdlhalmlbaa", sum := "56865d91e067f6b1c4191e349df5e648296672aa68b03b28dc4572569c6d5269", func := "empennage/empennagelaw01.SatGroups", spec := "satGroups", apart := false }
def SatGroupsSaid : Prop := satGroupsRow.holds Try.pinned (OpenSpec.ofChange satGroupsSpec)

/-- ITS FALSE NEIGHBOUR: 'it returns false'. Refute it at one input. -/
def satGroupsWrong : ChangeSpec := { name := "satGroups", fn := fun _ => fun
  | [d] => { results := [.lit (.bool false)], args := [d] }
  | _ => none }
def SatGroupsWrongFalsely : Prop := satGroupsRow.holds Try.pinned (OpenSpec.ofChange satGroupsWrong)

/- THE SECOND FORM. 'bulk': how many values and letters a reading holds, each counted each time it is reached (what is shared counts as often as it is met; a slice's spare places count too). A statement '..UptoSaid' is the law's where the arguments, and the package variables that the reading takes, are together of bulk at most 1048576: NARROWER than '..Said'. Prove '..Said' where nothing that the law and all that it calls make is longer than what came in: it says more and counts as full. Else prove '..UptoSaid'. A law counts once. -/
mutual
def uptoBulk {H : Type} : DataW H → Nat
  | .lit (.string bytes) => bytes.length + 1
  | .lit _ => 1
  | .nil => 1
  | .ptr d => uptoBulk d + 1
  | .slice elems spare => uptoBulkAll elems + uptoBulkAll spare + 1
  | .agg parts => uptoBulkAll parts + 1
  | .iface _ d => uptoBulk d + 1
  | .map entries => uptoBulkEntries entries + 1
  | .held _ => 1
def uptoBulkAll {H : Type} : List (DataW H) → Nat
  | [] => 0
  | d :: r => uptoBulk d + uptoBulkAll r
def uptoBulkEntries {H : Type} : List (Lit × DataW H) → Nat
  | [] => 0
  | x :: r => uptoBulkEntry x + uptoBulkEntries r
def uptoBulkEntry {H : Type} : Lit × DataW H → Nat
  | (.string bytes, d) => bytes.length + uptoBulk d + 1
  | (_, d) => uptoBulk d + 1
 end
def uptoSmall : (H : Type) → List (DataW H) → Bool := fun _ ds => decide (uptoBulkAll ds ≤ 1048576)
def OpenSpec.upto (s : _root_.Go.ChangeSpec) : _root_.Go.OpenSpec := { _root_.Go.OpenSpec.ofChange s with cond := some uptoSmall }

/-- 'empennagelaw01.SatSums', WHERE WHAT IT READS IS OF BULK AT MOST 1048576: true; the input reads as it did. -/
def satSumsUptoRow : OpenClaim := { program := "ytomakdlhalmlbaa", sum := "56865d91e067f6b1c4191e349df5e648296672aa68b03b28dc4572569c6d5269", func := "empennage/empennagelaw01.SatSums", spec := "satSums", apart := false, narrowed := true }
def SatSumsUptoSaid : Prop := satSumsUptoRow.holds Try.pinned (OpenSpec.upto satSumsSpec)

/-- 'empennagelaw01.SatFrames', WHERE WHAT IT READS IS OF BULK AT MOST 1048576: true; the input reads as it did. -/
def satFramesUptoRow : OpenClaim := { program := "ytomakdlhalmlbaa", sum := "56865d91e067f6b1c4191e349df5e648296672aa68b03b28dc4572569c6d5269", func := "empennage/empennagelaw01.SatFrames", spec := "satFrames", apart := false, narrowed := true }
def SatFramesUptoSaid : Prop := satFramesUptoRow.holds Try.pinned (OpenSpec.upto satFramesSpec)

/-- 'empennagelaw01.SatAges', WHERE WHAT IT READS IS OF BULK AT MOST 1048576: true; the input reads as it did. -/
def satAgesUptoRow : OpenClaim := { program := "ytomakdlhalmlbaa", sum := "56865d91e067f6b1c4191e349df5e648296672aa68b03b28dc4572569c6d5269", func := "empennage/empennagelaw01.SatAges", spec := "satAges", apart := false, narrowed := true }
def SatAgesUptoSaid : Prop := satAgesUptoRow.holds Try.pinned (OpenSpec.upto satAgesSpec)

/-- 'empennagelaw01.SatOrder', WHERE WHAT IT READS IS OF BULK AT MOST 1048576: true; the input reads as it did. -/
def satOrderUptoRow : OpenClaim := { program := "ytomakdlhalmlbaa", sum := "56865d91e067f6b1c4191e349df5e648296672aa68b03b28dc4572569c6d5269", func := "empennage/empennagelaw01.SatOrder", spec := "satOrder", apart := false, narrowed := true }
def SatOrderUptoSaid : Prop := satOrderUptoRow.holds Try.pinned (OpenSpec.upto satOrderSpec)

/-- 'empennagelaw01.SatWhole', WHERE WHAT IT READS IS OF BULK AT MOST 1048576: true; the input reads as it did. -/
def satWholeUptoRow : OpenClaim := { program := "ytomakdlhalmlbaa", sum := "56865d91e067f6b1c4191e349df5e648296672aa68b03b28dc4572569c6d5269", func := "empennage/empennagelaw01.SatWhole", spec := "satWhole", apart := false, narrowed := true }
def SatWholeUptoSaid : Prop := satWholeUptoRow.holds Try.pinned (OpenSpec.upto satWholeSpec)

/-- 'empennagelaw01.SatNext', WHERE WHAT IT READS IS OF BULK AT MOST 1048576: true; the input reads as it did. -/
def satNextUptoRow : OpenClaim := { program := "ytomakdlhalmlbaa", sum := "56865d91e067f6b1c4191e349df5e648296672aa68b03b28dc4572569c6d5269", func := "empennage/empennagelaw01.SatNext", spec := "satNext", apart := false, narrowed := true }
def SatNextUptoSaid : Prop := satNextUptoRow.holds Try.pinned (OpenSpec.upto satNextSpec)

/-- 'empennagelaw01.SatGroups', WHERE WHAT IT READS IS OF BULK AT MOST 1048576: true; the input reads as it did. -/
def satGroupsUptoRow : OpenClaim := { program := "ytomakdlhalmlbaa", sum := "56865d91e067f6b1c4191e349df5e648296672aa68b03b28dc4572569c6d5269", func := "empennage/empennagelaw01.SatGroups", spec := "satGroups", apart := false, narrowed := true }
def SatGroupsUptoSaid : Prop := satGroupsUptoRow.holds Try.pinned (OpenSpec.upto satGroupsSpec)

end Rows
end Go.Proofs.Ytomakdlhalmlbaa
