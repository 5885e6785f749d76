/-
  DERIVED. GIVEN WITH THE SEED: THE CARDS: each row of YtkhcmgnocbddmaaDoorRows.lean that lists a variable, with what it lists TIED to the program's text (the seventh form; the later family's looks); each row that meets fmt, with fmt's text TOLD by the authors' own Lean function (tested against real Go, not proved from fmt's source: count such statements apart). THE CARD IS WHAT COUNTS. Prove the row's statement (the work); the ties are given (YtkhcmgnocbddmaaDoorTie.lean); close each card by the builder's one call (the guide's Derived/Test/ToyasCard.lean, 'card_holds'). Laid BY PROGRAM, IN A SANDBOX (cutbox-door.mjs). By AI agents, Wed Nov 11 2026. No macro, syntax, notation, axiom, sorry.
-/
import Derived.Test.YtkhcmgnocbddmaaDoorRows
import GoSem.ClaimSeven
namespace Go.Proofs.YtkhcmgnocbddmaaDoor
namespace Rows

/-- THE TIED CARD OF 'empennagelaw02.CellPlays'. -/
def cellPlaysCard : Claim7 := { stood := { row := cellPlaysRow, standIns := [], harness := (true, "7f5e78957be4f316be9fbcc2b7896200d7c719685e7e9029003769ebac795ea6"), looks := true }, kinds := [], alts := [], laidByText := true, laidKinds := [.handle], laidTests := true, laidLooks := .later }
def CellPlaysCardSaid : Prop := Claim7.holds Tryd.pinned (.plain (OpenSpec.ofChange cellPlaysSpec)) cellPlaysCard

/-- THE TIED CARD OF 'empennagelaw04.ConfigSame'. -/
def configSameCard : Claim7 := { stood := { row := configSameRow, standIns := [], harness := (true, "7f5e78957be4f316be9fbcc2b7896200d7c719685e7e9029003769ebac795ea6"), looks := true }, kinds := [], alts := [], laidByText := true, laidKinds := [.handle], laidTests := true, laidLooks := .later }
def ConfigSameCardSaid : Prop := Claim7.holds Tryd.pinned (.plain (OpenSpec.ofChange configSameSpec)) configSameCard

/-- THE TIED CARD OF 'empennagelaw05.TableWrites'. -/
def tableWritesCard : Claim7 := { stood := { row := tableWritesRow, standIns := [], harness := (true, "7f5e78957be4f316be9fbcc2b7896200d7c719685e7e9029003769ebac795ea6"), looks := true }, kinds := [], alts := [], laidByText := true, laidKinds := [.handle], laidTests := true, laidLooks := .later }
def TableWritesCardSaid : Prop := Claim7.holds Tryd.pinned (.plain (OpenSpec.ofChange tableWritesSpec)) tableWritesCard

/-- THE TIED CARD OF 'empennagelaw05.TableReads'. -/
def tableReadsCard : Claim7 := { stood := { row := tableReadsRow, standIns := [], harness := (true, "7f5e78957be4f316be9fbcc2b7896200d7c719685e7e9029003769ebac795ea6"), looks := true }, kinds := [], alts := [], laidByText := true, laidKinds := [.handle], laidTests := true, laidLooks := .later }
def TableReadsCardSaid : Prop := Claim7.holds Tryd.pinned (.plain (OpenSpec.ofChange tableReadsSpec)) tableReadsCard

/-- THE TIED CARD OF 'empennagelaw05.TableBack'. -/
def tableBackCard : Claim7 := { stood := { row := tableBackRow, standIns := [], harness := (true, "7f5e78957be4f316be9fbcc2b7896200d7c719685e7e9029003769ebac795ea6"), looks := true }, kinds := [], alts := [], laidByText := true, laidKinds := [.handle], laidTests := true, laidLooks := .later }
def TableBackCardSaid : Prop := Claim7.holds Tryd.pinned (.plain (OpenSpec.ofChange tableBackSpec)) tableBackCard

/-- THE TIED CARD OF 'empennagelaw05.TableOnly'. -/
def tableOnlyCard : Claim7 := { stood := { row := tableOnlyRow, standIns := [], harness := (true, "7f5e78957be4f316be9fbcc2b7896200d7c719685e7e9029003769ebac795ea6"), looks := true }, kinds := [], alts := [], laidByText := true, laidKinds := [.handle], laidTests := true, laidLooks := .later }
def TableOnlyCardSaid : Prop := Claim7.holds Tryd.pinned (.plain (OpenSpec.ofChange tableOnlySpec)) tableOnlyCard

/-- THE TIED CARD OF 'empennagelaw05.TableSizes'. -/
def tableSizesCard : Claim7 := { stood := { row := tableSizesRow, standIns := [], harness := (true, "7f5e78957be4f316be9fbcc2b7896200d7c719685e7e9029003769ebac795ea6"), looks := true }, kinds := [], alts := [], laidByText := true, laidKinds := [.handle], laidTests := true, laidLooks := .later }
def TableSizesCardSaid : Prop := Claim7.holds Tryd.pinned (.plain (OpenSpec.ofChange tableSizesSpec)) tableSizesCard

/-- THE TIED CARD OF 'empennagelaw05.TableApart'. -/
def tableApartCard : Claim7 := { stood := { row := tableApartRow, standIns := [], harness := (true, "7f5e78957be4f316be9fbcc2b7896200d7c719685e7e9029003769ebac795ea6"), looks := true }, kinds := [], alts := [], laidByText := true, laidKinds := [.handle], laidTests := true, laidLooks := .later }
def TableApartCardSaid : Prop := Claim7.holds Tryd.pinned (.plain (OpenSpec.ofChange tableApartSpec)) tableApartCard

/-- THE TIED CARD OF 'empennagelaw06.FourPlays'. -/
def fourPlaysCard : Claim7 := { stood := { row := fourPlaysRow, standIns := [], harness := (true, "7f5e78957be4f316be9fbcc2b7896200d7c719685e7e9029003769ebac795ea6"), looks := true }, kinds := [], alts := [], laidByText := true, laidKinds := [.handle], laidTests := true, laidLooks := .later }
def FourPlaysCardSaid : Prop := Claim7.holds Tryd.pinned (.plain (OpenSpec.ofChange fourPlaysSpec)) fourPlaysCard

/-- THE SECOND FORM's CARD OF 'empennagelaw02.CellPlays'. -/
def cellPlaysUptoCard : Claim7 := { stood := { row := cellPlaysUptoRow, standIns := [], harness := (true, "7f5e78957be4f316be9fbcc2b7896200d7c719685e7e9029003769ebac795ea6"), looks := true }, kinds := [], alts := [], laidByText := true, laidKinds := [.handle], laidTests := true, laidLooks := .later }
def CellPlaysUptoCardSaid : Prop := Claim7.holds Tryd.pinned (.plain (OpenSpec.upto cellPlaysSpec)) cellPlaysUptoCard

/-- THE SECOND FORM's CARD OF 'empennagelaw04.ConfigSame'. -/
def configSameUptoCard : Claim7 := { stood := { row := configSameUptoRow, standIns := [], harness := (true, "7f5e78957be4f316be9fbcc2b7896200d7c719685e7e9029003769ebac795ea6"), looks := true }, kinds := [], alts := [], laidByText := true, laidKinds := [.handle], laidTests := true, laidLooks := .later }
def ConfigSameUptoCardSaid : Prop := Claim7.holds Tryd.pinned (.plain (OpenSpec.upto configSameSpec)) configSameUptoCard

/-- THE SECOND FORM's CARD OF 'empennagelaw05.TableWrites'. -/
def tableWritesUptoCard : Claim7 := { stood := { row := tableWritesUptoRow, standIns := [], harness := (true, "7f5e78957be4f316be9fbcc2b7896200d7c719685e7e9029003769ebac795ea6"), looks := true }, kinds := [], alts := [], laidByText := true, laidKinds := [.handle], laidTests := true, laidLooks := .later }
def TableWritesUptoCardSaid : Prop := Claim7.holds Tryd.pinned (.plain (OpenSpec.upto tableWritesSpec)) tableWritesUptoCard

/-- THE SECOND FORM's CARD OF 'empennagelaw05.TableReads'. -/
def tableReadsUptoCard : Claim7 := { stood := { row := tableReadsUptoRow, standIns := [], harness := (true, "7f5e78957be4f316be9fbcc2b7896200d7c719685e7e9029003769ebac795ea6"), looks := true }, kinds := [], alts := [], laidByText := true, laidKinds := [.handle], laidTests := true, laidLooks := .later }
def TableReadsUptoCardSaid : Prop := Claim7.holds Tryd.pinned (.plain (OpenSpec.upto tableReadsSpec)) tableReadsUptoCard

/-- THE SECOND FORM's CARD OF 'empennagelaw05.TableBack'. -/
def tableBackUptoCard : Claim7 := { stood := { row := tableBackUptoRow, standIns := [], harness := (true, "7f5e78957be4f316be9fbcc2b7896200d7c719685e7e9029003769ebac795ea6"), looks := true }, kinds := [], alts := [], laidByText := true, laidKinds := [.handle], laidTests := true, laidLooks := .later }
def TableBackUptoCardSaid : Prop := Claim7.holds Tryd.pinned (.plain (OpenSpec.upto tableBackSpec)) tableBackUptoCard

/-- THE SECOND FORM's CARD OF 'empennagelaw05.TableOnly'. -/
def tableOnlyUptoCard : Claim7 := { stood := { row := tableOnlyUptoRow, standIns := [], harness := (true, "7f5e78957be4f316be9fbcc2b7896200d7c719685e7e9029003769ebac795ea6"), looks := true }, kinds := [], alts := [], laidByText := true, laidKinds := [.handle], laidTests := true, laidLooks := .later }
def TableOnlyUptoCardSaid : Prop := Claim7.holds Tryd.pinned (.plain (OpenSpec.upto tableOnlySpec)) tableOnlyUptoCard

/-- THE SECOND FORM's CARD OF 'empennagelaw05.TableSizes'. -/
def tableSizesUptoCard : Claim7 := { stood := { row := tableSizesUptoRow, standIns := [], harness := (true, "7f5e78957be4f316be9fbcc2b7896200d7c719685e7e9029003769ebac795ea6"), looks := true }, kinds := [], alts := [], laidByText := true, laidKinds := [.handle], laidTests := true, laidLooks := .later }
def TableSizesUptoCardSaid : Prop := Claim7.holds Tryd.pinned (.plain (OpenSpec.upto tableSizesSpec)) tableSizesUptoCard

/-- THE SECOND FORM's CARD OF 'empennagelaw05.TableApart'. -/
def tableApartUptoCard : Claim7 := { stood := { row := tableApartUptoRow, standIns := [], harness := (true, "7f5e78957be4f316be9fbcc2b7896200d7c719685e7e9029003769ebac795ea6"), looks := true }, kinds := [], alts := [], laidByText := true, laidKinds := [.handle], laidTests := true, laidLooks := .later }
def TableApartUptoCardSaid : Prop := Claim7.holds Tryd.pinned (.plain (OpenSpec.upto tableApartSpec)) tableApartUptoCard

/-- THE SECOND FORM's CARD OF 'empennagelaw06.FourPlays'. -/
def fourPlaysUptoCard : Claim7 := { stood := { row := fourPlaysUptoRow, standIns := [], harness := (true, "7f5e78957be4f316be9fbcc2b7896200d7c719685e7e9029003769ebac795ea6"), looks := true }, kinds := [], alts := [], laidByText := true, laidKinds := [.handle], laidTests := true, laidLooks := .later }
def FourPlaysUptoCardSaid : Prop := Claim7.holds Tryd.pinned (.plain (OpenSpec.upto fourPlaysSpec)) fourPlaysUptoCard
end Rows
end Go.Proofs.YtkhcmgnocbddmaaDoor
