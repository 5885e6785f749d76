/-
  DERIVED. GIVEN WITH THE SEED: THE CARDS: each row of YtfbbgoahipejlabDoorRows.lean that lists a variable, with what it lists TIED to the program's text (the seventh form; the later family's looks); each row that meets fmt, with fmt's text TOLD by the authors' own Lean function (tested against real Go, not proved from fmt's source: count such statements apart). THE CARD IS WHAT COUNTS. Prove the row's statement (the work); the ties are given (YtfbbgoahipejlabDoorTie.lean); close each card by the builder's one call (the guide's Derived/Test/ToyasCard.lean, 'card_holds'). Laid BY PROGRAM, IN A SANDBOX (cutbox-door.mjs). By AI agents, Wed Nov 11 2026. No macro, syntax, notation, axiom, sorry.
-/
import Derived.Test.YtfbbgoahipejlabDoorRows
import GoSem.ClaimSeven
namespace Go.Proofs.YtfbbgoahipejlabDoor
namespace Rows

/-- THE TIED CARD OF 'empennagelaw05.TableReads'. -/
def tableReadsCard : Claim7 := { stood := { row := tableReadsRow, standIns := [], harness := (true, "ebd9fae20609f7d9afa2caa0cb7cd52ace5ae4f9cce3cbb0a5dcab1f6e94e427"), looks := true }, kinds := [], alts := [], laidByText := true, laidKinds := [.handle], laidTests := true, laidLooks := .later }
def TableReadsCardSaid : Prop := Claim7.holds Tryd.pinned (.plain (OpenSpec.ofChange tableReadsSpec)) tableReadsCard

/-- THE TIED CARD OF 'empennagelaw06.FourPlays'. -/
def fourPlaysCard : Claim7 := { stood := { row := fourPlaysRow, standIns := [], harness := (true, "ebd9fae20609f7d9afa2caa0cb7cd52ace5ae4f9cce3cbb0a5dcab1f6e94e427"), looks := true }, kinds := [], alts := [], laidByText := true, laidKinds := [.handle], laidTests := true, laidLooks := .later }
def FourPlaysCardSaid : Prop := Claim7.holds Tryd.pinned (.plain (OpenSpec.ofChange fourPlaysSpec)) fourPlaysCard

/-- THE TIED CARD OF 'empennagelaw08.RingPlays'. -/
def ringPlaysCard : Claim7 := { stood := { row := ringPlaysRow, standIns := [], harness := (true, "ebd9fae20609f7d9afa2caa0cb7cd52ace5ae4f9cce3cbb0a5dcab1f6e94e427"), looks := true }, kinds := [], alts := [], laidByText := true, laidKinds := [.handle], laidTests := true, laidLooks := .later }
def RingPlaysCardSaid : Prop := Claim7.holds Tryd.pinned (.plain (OpenSpec.ofChange ringPlaysSpec)) ringPlaysCard

/-- THE SECOND FORM's CARD OF 'empennagelaw05.TableReads'. -/
def tableReadsUptoCard : Claim7 := { stood := { row := tableReadsUptoRow, standIns := [], harness := (true, "ebd9fae20609f7d9afa2caa0cb7cd52ace5ae4f9cce3cbb0a5dcab1f6e94e427"), looks := true }, kinds := [], alts := [], laidByText := true, laidKinds := [.handle], laidTests := true, laidLooks := .later }
def TableReadsUptoCardSaid : Prop := Claim7.holds Tryd.pinned (.plain (OpenSpec.upto tableReadsSpec)) tableReadsUptoCard

/-- THE SECOND FORM's CARD OF 'empennagelaw06.FourPlays'. -/
def fourPlaysUptoCard : Claim7 := { stood := { row := fourPlaysUptoRow, standIns := [], harness := (true, "ebd9fae20609f7d9afa2caa0cb7cd52ace5ae4f9cce3cbb0a5dcab1f6e94e427"), looks := true }, kinds := [], alts := [], laidByText := true, laidKinds := [.handle], laidTests := true, laidLooks := .later }
def FourPlaysUptoCardSaid : Prop := Claim7.holds Tryd.pinned (.plain (OpenSpec.upto fourPlaysSpec)) fourPlaysUptoCard

/-- THE SECOND FORM's CARD OF 'empennagelaw08.RingPlays'. -/
def ringPlaysUptoCard : Claim7 := { stood := { row := ringPlaysUptoRow, standIns := [], harness := (true, "ebd9fae20609f7d9afa2caa0cb7cd52ace5ae4f9cce3cbb0a5dcab1f6e94e427"), looks := true }, kinds := [], alts := [], laidByText := true, laidKinds := [.handle], laidTests := true, laidLooks := .later }
def RingPlaysUptoCardSaid : Prop := Claim7.holds Tryd.pinned (.plain (OpenSpec.upto ringPlaysSpec)) ringPlaysUptoCard
end Rows
end Go.Proofs.YtfbbgoahipejlabDoor
