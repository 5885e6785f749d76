/-
  No cell of these rows narrows 'for every input' (looked for: loops, veiled, ifaces, maps, wideKeys, modest, calm, conditions, laid).
  DERIVED. THE GIVEN ROWS OF THIS SEAT. 8 by the template 'for every input the law returns true; each argument reads behind the call as it read before'; 0 by the template 'total and deterministic' (their statements: YtjkdajkfbphnpaaTotals.lean).
  GIVEN WITH THE SEED: the statements are not yours to turn. If you find one false, say at which input.
  Laid BY PROGRAM, IN A SANDBOX (cutbox-rows.mjs): the forced cells as the released guide's own fill.sh prints them over the translation ef127dd4e791667f… (all of the seat's roots in one cut). By AI agents, Wed Nov 11 2026. No macro, syntax, notation, axiom, sorry.
-/
import Derived.Test.YtjkdajkfbphnpaaChecked
import GoSem.Claim
import GoSem.ClaimJoined
import GoSem.ClaimMapViews
import Derived.JoinedTies
import Derived.KernelRfl
namespace Go.Proofs.Ytjkdajkfbphnpaa
/- THE CELL 'sum', in the pinned program and in every row, IS THE sha256 OF THE DUMP (.gsa) THAT YtjkdajkfbphnpaaProg.lean LOADS. Nothing in Lean hashes anything: it is a label: what it is worth is what the hold of that sum in a sandbox is worth. -/
noncomputable def Try.pinned : Pinned := { name := "ytjkdajkfbphnpaa", sum := "ef127dd4e791667f278a9ca4f39711132a1e8fea34a67182b24f3deff56f5e44", checked := Try.checked }
namespace Rows
def none {H : Type} : Left H := { results := [], args := [] }

/-- 'empennagelaw10.LanePlays': WHATEVER THE INPUT: true; the input reads as it did. -/
def lanePlaysSpec : ChangeSpec := { name := "lanePlays", fn := fun _ => fun
  | [d1, d2, d3] => { results := [.lit (.bool true)], args := [d1, d2, d3] }
  | _ => none }
def lanePlaysRow : OpenClaim := { program := "ytjkdajkfbphnpaa", sum := "ef127dd4e791667f278a9ca4f39711132a1e8fea34a67182b24f3deff56f5e44", func := "empennage/empennagelaw10.LanePlays", spec := "lanePlays", unfollowed := true, recurses := true, apart := false }
def LanePlaysSaid : Prop := lanePlaysRow.holds Try.pinned (OpenSpec.ofChange lanePlaysSpec)

/-- ITS FALSE NEIGHBOUR: 'it returns false'. Refute it at one input. -/
def lanePlaysWrong : ChangeSpec := { name := "lanePlays", fn := fun _ => fun
  | [d1, d2, d3] => { results := [.lit (.bool false)], args := [d1, d2, d3] }
  | _ => none }
def LanePlaysWrongFalsely : Prop := lanePlaysRow.holds Try.pinned (OpenSpec.ofChange lanePlaysWrong)

/-- 'empennagelaw10.LaneRow': WHATEVER THE INPUT: true; the input reads as it did. -/
def laneRowSpec : ChangeSpec := { name := "laneRow", fn := fun _ => fun
  | [d1, d2, d3] => { results := [.lit (.bool true)], args := [d1, d2, d3] }
  | _ => none }
def laneRowRow : OpenClaim := { program := "ytjkdajkfbphnpaa", sum := "ef127dd4e791667f278a9ca4f39711132a1e8fea34a67182b24f3deff56f5e44", func := "empennage/empennagelaw10.LaneRow", spec := "laneRow", unfollowed := true, recurses := true, apart := false }
def LaneRowSaid : Prop := laneRowRow.holds Try.pinned (OpenSpec.ofChange laneRowSpec)

/-- ITS FALSE NEIGHBOUR: 'it returns false'. Refute it at one input. -/
def laneRowWrong : ChangeSpec := { name := "laneRow", fn := fun _ => fun
  | [d1, d2, d3] => { results := [.lit (.bool false)], args := [d1, d2, d3] }
  | _ => none }
def LaneRowWrongFalsely : Prop := laneRowRow.holds Try.pinned (OpenSpec.ofChange laneRowWrong)

/-- 'empennagelaw10.LaneSweeps': WHATEVER THE INPUT: true; the input reads as it did. -/
def laneSweepsSpec : ChangeSpec := { name := "laneSweeps", fn := fun _ => fun
  | [d1, d2, d3] => { results := [.lit (.bool true)], args := [d1, d2, d3] }
  | _ => none }
def laneSweepsRow : OpenClaim := { program := "ytjkdajkfbphnpaa", sum := "ef127dd4e791667f278a9ca4f39711132a1e8fea34a67182b24f3deff56f5e44", func := "empennage/empennagelaw10.LaneSweeps", spec := "laneSweeps", unfollowed := true, recurses := true, apart := false }
def LaneSweepsSaid : Prop := laneSweepsRow.holds Try.pinned (OpenSpec.ofChange laneSweepsSpec)

/-- ITS FALSE NEIGHBOUR: 'it returns false'. Refute it at one input. -/
def laneSweepsWrong : ChangeSpec := { name := "laneSweeps", fn := fun _ => fun
  | [d1, d2, d3] => { results := [.lit (.bool false)], args := [d1, d2, d3] }
  | _ => none }
def LaneSweepsWrongFalsely : Prop := laneSweepsRow.holds Try.pinned (OpenSpec.ofChange laneSweepsWrong)

/-- 'empennagelaw10.LaneOthers': WHATEVER THE INPUT: true; the input reads as it did. -/
def laneOthersSpec : ChangeSpec := { name := "laneOthers", fn := fun _ => fun
  | [d1, d2, d3] => { results := [.lit (.bool true)], args := [d1, d2, d3] }
  | _ => none }
def laneOthersRow : OpenClaim := { program := "ytjkdajkfbphnpaa", sum := "ef127dd4e791667f278a9ca4f39711132a1e8fea34a67182b24f3deff56f5e44", func := "empennage/empennagelaw10.LaneOthers", spec := "laneOthers", unfollowed := true, recurses := true, apart := false }
def LaneOthersSaid : Prop := laneOthersRow.holds Try.pinned (OpenSpec.ofChange laneOthersSpec)

/-- ITS FALSE NEIGHBOUR: 'it returns false'. Refute it at one input. -/
def laneOthersWrong : ChangeSpec := { name := "laneOthers", fn := fun _ => fun
  | [d1, d2, d3] => { results := [.lit (.bool false)], args := [d1, d2, d3] }
  | _ => none }
def LaneOthersWrongFalsely : Prop := laneOthersRow.holds Try.pinned (OpenSpec.ofChange laneOthersWrong)

/-- 'empennagelaw10.LaneOwns': WHATEVER THE INPUT: true; the input reads as it did. -/
def laneOwnsSpec : ChangeSpec := { name := "laneOwns", fn := fun _ => fun
  | [d] => { results := [.lit (.bool true)], args := [d] }
  | _ => none }
def laneOwnsRow : OpenClaim := { program := "ytjkdajkfbphnpaa", sum := "ef127dd4e791667f278a9ca4f39711132a1e8fea34a67182b24f3deff56f5e44", func := "empennage/empennagelaw10.LaneOwns", spec := "laneOwns", unfollowed := true, recurses := true, apart := false }
def LaneOwnsSaid : Prop := laneOwnsRow.holds Try.pinned (OpenSpec.ofChange laneOwnsSpec)

/-- ITS FALSE NEIGHBOUR: 'it returns false'. Refute it at one input. -/
def laneOwnsWrong : ChangeSpec := { name := "laneOwns", fn := fun _ => fun
  | [d] => { results := [.lit (.bool false)], args := [d] }
  | _ => none }
def LaneOwnsWrongFalsely : Prop := laneOwnsRow.holds Try.pinned (OpenSpec.ofChange laneOwnsWrong)

/-- 'empennagelaw10.LaneSame': WHATEVER THE INPUT: true; the input reads as it did. -/
def laneSameSpec : ChangeSpec := { name := "laneSame", fn := fun _ => fun
  | [d1, d2, d3] => { results := [.lit (.bool true)], args := [d1, d2, d3] }
  | _ => none }
def laneSameRow : OpenClaim := { program := "ytjkdajkfbphnpaa", sum := "ef127dd4e791667f278a9ca4f39711132a1e8fea34a67182b24f3deff56f5e44", func := "empennage/empennagelaw10.LaneSame", spec := "laneSame", unfollowed := true, recurses := true, apart := false }
def LaneSameSaid : Prop := laneSameRow.holds Try.pinned (OpenSpec.ofChange laneSameSpec)

/-- ITS FALSE NEIGHBOUR: 'it returns false'. Refute it at one input. -/
def laneSameWrong : ChangeSpec := { name := "laneSame", fn := fun _ => fun
  | [d1, d2, d3] => { results := [.lit (.bool false)], args := [d1, d2, d3] }
  | _ => none }
def LaneSameWrongFalsely : Prop := laneSameRow.holds Try.pinned (OpenSpec.ofChange laneSameWrong)

/-- 'empennagelaw10.LaneNil': WHATEVER THE INPUT: true; the input reads as it did. -/
def laneNilSpec : ChangeSpec := { name := "laneNil", fn := fun _ => fun
  | [d1, d2] => { results := [.lit (.bool true)], args := [d1, d2] }
  | _ => none }
def laneNilRow : OpenClaim := { program := "ytjkdajkfbphnpaa", sum := "ef127dd4e791667f278a9ca4f39711132a1e8fea34a67182b24f3deff56f5e44", func := "empennage/empennagelaw10.LaneNil", spec := "laneNil", unfollowed := true, recurses := true, apart := false }
def LaneNilSaid : Prop := laneNilRow.holds Try.pinned (OpenSpec.ofChange laneNilSpec)

/-- ITS FALSE NEIGHBOUR: 'it returns false'. Refute it at one input. -/
def laneNilWrong : ChangeSpec := { name := "laneNil", fn := fun _ => fun
  | [d1, d2] => { results := [.lit (.bool false)], args := [d1, d2] }
  | _ => none }
def LaneNilWrongFalsely : Prop := laneNilRow.holds Try.pinned (OpenSpec.ofChange laneNilWrong)

/-- 'empennagelaw10.LaneFlushes': WHATEVER THE INPUT: true; the input reads as it did. -/
def laneFlushesSpec : ChangeSpec := { name := "laneFlushes", fn := fun _ => fun
  | [d1, d2, d3] => { results := [.lit (.bool true)], args := [d1, d2, d3] }
  | _ => none }
def laneFlushesRow : OpenClaim := { program := "ytjkdajkfbphnpaa", sum := "ef127dd4e791667f278a9ca4f39711132a1e8fea34a67182b24f3deff56f5e44", func := "empennage/empennagelaw10.LaneFlushes", spec := "laneFlushes", unfollowed := true, recurses := true, apart := false }
def LaneFlushesSaid : Prop := laneFlushesRow.holds Try.pinned (OpenSpec.ofChange laneFlushesSpec)

/-- ITS FALSE NEIGHBOUR: 'it returns false'. Refute it at one input. -/
def laneFlushesWrong : ChangeSpec := { name := "laneFlushes", fn := fun _ => fun
  | [d1, d2, d3] => { results := [.lit (.bool false)], args := [d1, d2, d3] }
  | _ => none }
def LaneFlushesWrongFalsely : Prop := laneFlushesRow.holds Try.pinned (OpenSpec.ofChange laneFlushesWrong)

/- THE SECOND FORM. 'bulk': how many values and letters a reading holds, each counted each time it is reached (what is shared counts as often as it is met; a slice's spare places count too). A statement '..UptoSaid' is the law's where the arguments, and the package variables that the reading takes, are together of bulk at most 1048576: NARROWER than '..Said'. Prove '..Said' where nothing that the law and all that it calls make is longer than what came in: it says more and counts as full. Else prove '..UptoSaid'. A law counts once. -/
mutual
def uptoBulk {H : Type} : DataW H → Nat
  | .lit (.string bytes) => bytes.length + 1
  | .lit _ => 1
  | .nil => 1
  | .ptr d => uptoBulk d + 1
  | .slice elems spare => uptoBulkAll elems + uptoBulkAll spare + 1
  | .agg parts => uptoBulkAll parts + 1
  | .iface _ d => uptoBulk d + 1
  | .map entries => uptoBulkEntries entries + 1
  | .held _ => 1
def uptoBulkAll {H : Type} : List (DataW H) → Nat
  | [] => 0
  | d :: r => uptoBulk d + uptoBulkAll r
def uptoBulkEntries {H : Type} : List (Lit × DataW H) → Nat
  | [] => 0
  | x :: r => uptoBulkEntry x + uptoBulkEntries r
def uptoBulkEntry {H : Type} : Lit × DataW H → Nat
  | (.string bytes, d) => bytes.length + uptoBulk d + 1
  | (_, d) => uptoBulk d + 1
 end
def uptoSmall : (H : Type) → List (DataW H) → Bool := fun _ ds => decide (uptoBulkAll ds ≤ 1048576)
def OpenSpec.upto (s : _root_.Go.ChangeSpec) : _root_.Go.OpenSpec := { _root_.Go.OpenSpec.ofChange s with cond := some uptoSmall }

/-- 'empennagelaw10.LanePlays', WHERE WHAT IT READS IS OF BULK AT MOST 1048576: true; the input reads as it did. -/
def lanePlaysUptoRow : OpenClaim := { program := "ytjkdajkfbphnpaa", sum := "ef127dd4e791667f278a9ca4f39711132a1e8fea34a67182b24f3deff56f5e44", func := "empennage/empennagelaw10.LanePlays", spec := "lanePlays", unfollowed := true, recurses := true, apart := false, narrowed := true }
def LanePlaysUptoSaid : Prop := lanePlaysUptoRow.holds Try.pinned (OpenSpec.upto lanePlaysSpec)

/-- 'empennagelaw10.LaneRow', WHERE WHAT IT READS IS OF BULK AT MOST 1048576: true; the input reads as it did. -/
def laneRowUptoRow : OpenClaim := { program := "ytjkdajkfbphnpaa", sum := "ef127dd4e791667f278a9ca4f39711132a1e8fea34a67182b24f3deff56f5e44", func := "empennage/empennagelaw10.LaneRow", spec := "laneRow", unfollowed := true, recurses := true, apart := false, narrowed := true }
def LaneRowUptoSaid : Prop := laneRowUptoRow.holds Try.pinned (OpenSpec.upto laneRowSpec)

/-- 'empennagelaw10.LaneSweeps', WHERE WHAT IT READS IS OF BULK AT MOST 1048576: true; the input reads as it did. -/
def laneSweepsUptoRow : OpenClaim := { program := "ytjkdajkfbphnpaa", sum := "ef127dd4e791667f278a9ca4f39711132a1e8fea34a67182b24f3deff56f5e44", func := "empennage/empennagelaw10.LaneSweeps", spec := "laneSweeps", unfollowed := true, recurses := true, apart := false, narrowed := true }
def LaneSweepsUptoSaid : Prop := laneSweepsUptoRow.holds Try.pinned (OpenSpec.upto laneSweepsSpec)

/-- 'empennagelaw10.LaneOthers', WHERE WHAT IT READS IS OF BULK AT MOST 1048576: true; the input reads as it did. -/
def laneOthersUptoRow : OpenClaim := { program := "ytjkdajkfbphnpaa", sum := "ef127dd4e791667f278a9ca4f39711132a1e8fea34a67182b24f3deff56f5e44", func := "empennage/empennagelaw10.LaneOthers", spec := "laneOthers", unfollowed := true, recurses := true, apart := false, narrowed := true }
def LaneOthersUptoSaid : Prop := laneOthersUptoRow.holds Try.pinned (OpenSpec.upto laneOthersSpec)

/-- 'empennagelaw10.LaneOwns', WHERE WHAT IT READS IS OF BULK AT MOST 1048576: true; the input reads as it did. -/
def laneOwnsUptoRow : OpenClaim := { program := "ytjkdajkfbphnpaa", sum := "ef127dd4e791667f278a9ca4f39711132a1e8fea34a67182b24f3deff56f5e44", func := "empennage/empennagelaw10.LaneOwns", spec := "laneOwns", unfollowed := true, recurses := true, apart := false, narrowed := true }
def LaneOwnsUptoSaid : Prop := laneOwnsUptoRow.holds Try.pinned (OpenSpec.upto laneOwnsSpec)

/-- 'empennagelaw10.LaneSame', WHERE WHAT IT READS IS OF BULK AT MOST 1048576: true; the input reads as it did. -/
def laneSameUptoRow : OpenClaim := { program := "ytjkdajkfbphnpaa", sum := "ef127dd4e791667f278a9ca4f39711132a1e8fea34a67182b24f3deff56f5e44", func := "empennage/empennagelaw10.LaneSame", spec := "laneSame", unfollowed := true, recurses := true, apart := false, narrowed := true }
def LaneSameUptoSaid : Prop := laneSameUptoRow.holds Try.pinned (OpenSpec.upto laneSameSpec)

/-- 'empennagelaw10.LaneNil', WHERE WHAT IT READS IS OF BULK AT MOST 1048576: true; the input reads as it did. -/
def laneNilUptoRow : OpenClaim := { program := "ytjkdajkfbphnpaa", sum := "ef127dd4e791667f278a9ca4f39711132a1e8fea34a67182b24f3deff56f5e44", func := "empennage/empennagelaw10.LaneNil", spec := "laneNil", unfollowed := true, recurses := true, apart := false, narrowed := true }
def LaneNilUptoSaid : Prop := laneNilUptoRow.holds Try.pinned (OpenSpec.upto laneNilSpec)

/-- 'empennagelaw10.LaneFlushes', WHERE WHAT IT READS IS OF BULK AT MOST 1048576: true; the input reads as it did. -/
def laneFlushesUptoRow : OpenClaim := { program := "ytjkdajkfbphnpaa", sum := "ef127dd4e791667f278a9ca4f39711132a1e8fea34a67182b24f3deff56f5e44", func := "empennage/empennagelaw10.LaneFlushes", spec := "laneFlushes", unfollowed := true, recurses := true, apart := false, narrowed := true }
def LaneFlushesUptoSaid : Prop := laneFlushesUptoRow.holds Try.pinned (OpenSpec.upto laneFlushesSpec)

end Rows
end Go.Proofs.Ytjkdajkfbphnpaa
