/-
  DERIVED. GIVEN WITH THE SEED: THE CARDS: each row of YtpoidnajhcjmcaaDoorRows.lean that lists a variable, with what it lists TIED to the program's text (the seventh form; the later family's looks); each row that meets fmt, with fmt's text TOLD by the authors' own Lean function (tested against real Go, not proved from fmt's source: count such statements apart). THE CARD IS WHAT COUNTS. Prove the row's statement (the work); the ties are given (YtpoidnajhcjmcaaDoorTie.lean); close each card by the builder's one call (the guide's Derived/Test/ToyasCard.lean, 'card_holds'). Laid BY PROGRAM, IN A SANDBOX (cutbox-door.mjs). By AI agents, Wed Nov 11 2026. No macro, syntax, notation, axiom, sorry.
-/
import Derived.Test.YtpoidnajhcjmcaaDoorRows
import GoSem.ClaimSeven
namespace Go.Proofs.YtpoidnajhcjmcaaDoor
namespace Rows

/-- THE TIED CARD OF 'empennagelaw06.FourPlays'. -/
def fourPlaysCard : Claim7 := { stood := { row := fourPlaysRow, standIns := [], harness := (true, "ca01f29be8f54a61751fc6ab2c98408c384b47a08bde8d76445147f95e6c0fd2"), looks := true }, kinds := [], alts := [], laidByText := true, laidKinds := [.handle], laidTests := true, laidLooks := .later }
def FourPlaysCardSaid : Prop := Claim7.holds Tryd.pinned (.plain (OpenSpec.ofChange fourPlaysSpec)) fourPlaysCard

/-- THE TIED CARD OF 'empennagelaw07.TriplePlays'. -/
def triplePlaysCard : Claim7 := { stood := { row := triplePlaysRow, standIns := [], harness := (true, "ca01f29be8f54a61751fc6ab2c98408c384b47a08bde8d76445147f95e6c0fd2"), looks := true }, kinds := [], alts := [], laidByText := true, laidKinds := [.handle], laidTests := true, laidLooks := .later }
def TriplePlaysCardSaid : Prop := Claim7.holds Tryd.pinned (.plain (OpenSpec.ofChange triplePlaysSpec)) triplePlaysCard

/-- THE TIED CARD OF 'empennagelaw08.RingPlays'. -/
def ringPlaysCard : Claim7 := { stood := { row := ringPlaysRow, standIns := [], harness := (true, "ca01f29be8f54a61751fc6ab2c98408c384b47a08bde8d76445147f95e6c0fd2"), looks := true }, kinds := [], alts := [], laidByText := true, laidKinds := [.handle], laidTests := true, laidLooks := .later }
def RingPlaysCardSaid : Prop := Claim7.holds Tryd.pinned (.plain (OpenSpec.ofChange ringPlaysSpec)) ringPlaysCard

/-- THE TIED CARD OF 'empennagelaw08.RingRow'. -/
def ringRowCard : Claim7 := { stood := { row := ringRowRow, standIns := [], harness := (true, "ca01f29be8f54a61751fc6ab2c98408c384b47a08bde8d76445147f95e6c0fd2"), looks := true }, kinds := [], alts := [], laidByText := true, laidKinds := [.handle], laidTests := true, laidLooks := .later }
def RingRowCardSaid : Prop := Claim7.holds Tryd.pinned (.plain (OpenSpec.ofChange ringRowSpec)) ringRowCard

/-- THE TIED CARD OF 'empennagelaw08.RingFills'. -/
def ringFillsCard : Claim7 := { stood := { row := ringFillsRow, standIns := [], harness := (true, "ca01f29be8f54a61751fc6ab2c98408c384b47a08bde8d76445147f95e6c0fd2"), looks := true }, kinds := [], alts := [], laidByText := true, laidKinds := [.handle], laidTests := true, laidLooks := .later }
def RingFillsCardSaid : Prop := Claim7.holds Tryd.pinned (.plain (OpenSpec.ofChange ringFillsSpec)) ringFillsCard

/-- THE TIED CARD OF 'empennagelaw08.RingDrops'. -/
def ringDropsCard : Claim7 := { stood := { row := ringDropsRow, standIns := [], harness := (true, "ca01f29be8f54a61751fc6ab2c98408c384b47a08bde8d76445147f95e6c0fd2"), looks := true }, kinds := [], alts := [], laidByText := true, laidKinds := [.handle], laidTests := true, laidLooks := .later }
def RingDropsCardSaid : Prop := Claim7.holds Tryd.pinned (.plain (OpenSpec.ofChange ringDropsSpec)) ringDropsCard

/-- THE TIED CARD OF 'empennagelaw08.RingResets'. -/
def ringResetsCard : Claim7 := { stood := { row := ringResetsRow, standIns := [], harness := (true, "ca01f29be8f54a61751fc6ab2c98408c384b47a08bde8d76445147f95e6c0fd2"), looks := true }, kinds := [], alts := [], laidByText := true, laidKinds := [.handle], laidTests := true, laidLooks := .later }
def RingResetsCardSaid : Prop := Claim7.holds Tryd.pinned (.plain (OpenSpec.ofChange ringResetsSpec)) ringResetsCard

/-- THE TIED CARD OF 'empennagelaw08.RingOdd'. -/
def ringOddCard : Claim7 := { stood := { row := ringOddRow, standIns := [], harness := (true, "ca01f29be8f54a61751fc6ab2c98408c384b47a08bde8d76445147f95e6c0fd2"), looks := true }, kinds := [], alts := [], laidByText := true, laidKinds := [.handle], laidTests := true, laidLooks := .later }
def RingOddCardSaid : Prop := Claim7.holds Tryd.pinned (.plain (OpenSpec.ofChange ringOddSpec)) ringOddCard

/-- THE SECOND FORM's CARD OF 'empennagelaw06.FourPlays'. -/
def fourPlaysUptoCard : Claim7 := { stood := { row := fourPlaysUptoRow, standIns := [], harness := (true, "ca01f29be8f54a61751fc6ab2c98408c384b47a08bde8d76445147f95e6c0fd2"), looks := true }, kinds := [], alts := [], laidByText := true, laidKinds := [.handle], laidTests := true, laidLooks := .later }
def FourPlaysUptoCardSaid : Prop := Claim7.holds Tryd.pinned (.plain (OpenSpec.upto fourPlaysSpec)) fourPlaysUptoCard

/-- THE SECOND FORM's CARD OF 'empennagelaw07.TriplePlays'. -/
def triplePlaysUptoCard : Claim7 := { stood := { row := triplePlaysUptoRow, standIns := [], harness := (true, "ca01f29be8f54a61751fc6ab2c98408c384b47a08bde8d76445147f95e6c0fd2"), looks := true }, kinds := [], alts := [], laidByText := true, laidKinds := [.handle], laidTests := true, laidLooks := .later }
def TriplePlaysUptoCardSaid : Prop := Claim7.holds Tryd.pinned (.plain (OpenSpec.upto triplePlaysSpec)) triplePlaysUptoCard

/-- THE SECOND FORM's CARD OF 'empennagelaw08.RingPlays'. -/
def ringPlaysUptoCard : Claim7 := { stood := { row := ringPlaysUptoRow, standIns := [], harness := (true, "ca01f29be8f54a61751fc6ab2c98408c384b47a08bde8d76445147f95e6c0fd2"), looks := true }, kinds := [], alts := [], laidByText := true, laidKinds := [.handle], laidTests := true, laidLooks := .later }
def RingPlaysUptoCardSaid : Prop := Claim7.holds Tryd.pinned (.plain (OpenSpec.upto ringPlaysSpec)) ringPlaysUptoCard

/-- THE SECOND FORM's CARD OF 'empennagelaw08.RingRow'. -/
def ringRowUptoCard : Claim7 := { stood := { row := ringRowUptoRow, standIns := [], harness := (true, "ca01f29be8f54a61751fc6ab2c98408c384b47a08bde8d76445147f95e6c0fd2"), looks := true }, kinds := [], alts := [], laidByText := true, laidKinds := [.handle], laidTests := true, laidLooks := .later }
def RingRowUptoCardSaid : Prop := Claim7.holds Tryd.pinned (.plain (OpenSpec.upto ringRowSpec)) ringRowUptoCard

/-- THE SECOND FORM's CARD OF 'empennagelaw08.RingFills'. -/
def ringFillsUptoCard : Claim7 := { stood := { row := ringFillsUptoRow, standIns := [], harness := (true, "ca01f29be8f54a61751fc6ab2c98408c384b47a08bde8d76445147f95e6c0fd2"), looks := true }, kinds := [], alts := [], laidByText := true, laidKinds := [.handle], laidTests := true, laidLooks := .later }
def RingFillsUptoCardSaid : Prop := Claim7.holds Tryd.pinned (.plain (OpenSpec.upto ringFillsSpec)) ringFillsUptoCard

/-- THE SECOND FORM's CARD OF 'empennagelaw08.RingDrops'. -/
def ringDropsUptoCard : Claim7 := { stood := { row := ringDropsUptoRow, standIns := [], harness := (true, "ca01f29be8f54a61751fc6ab2c98408c384b47a08bde8d76445147f95e6c0fd2"), looks := true }, kinds := [], alts := [], laidByText := true, laidKinds := [.handle], laidTests := true, laidLooks := .later }
def RingDropsUptoCardSaid : Prop := Claim7.holds Tryd.pinned (.plain (OpenSpec.upto ringDropsSpec)) ringDropsUptoCard

/-- THE SECOND FORM's CARD OF 'empennagelaw08.RingResets'. -/
def ringResetsUptoCard : Claim7 := { stood := { row := ringResetsUptoRow, standIns := [], harness := (true, "ca01f29be8f54a61751fc6ab2c98408c384b47a08bde8d76445147f95e6c0fd2"), looks := true }, kinds := [], alts := [], laidByText := true, laidKinds := [.handle], laidTests := true, laidLooks := .later }
def RingResetsUptoCardSaid : Prop := Claim7.holds Tryd.pinned (.plain (OpenSpec.upto ringResetsSpec)) ringResetsUptoCard

/-- THE SECOND FORM's CARD OF 'empennagelaw08.RingOdd'. -/
def ringOddUptoCard : Claim7 := { stood := { row := ringOddUptoRow, standIns := [], harness := (true, "ca01f29be8f54a61751fc6ab2c98408c384b47a08bde8d76445147f95e6c0fd2"), looks := true }, kinds := [], alts := [], laidByText := true, laidKinds := [.handle], laidTests := true, laidLooks := .later }
def RingOddUptoCardSaid : Prop := Claim7.holds Tryd.pinned (.plain (OpenSpec.upto ringOddSpec)) ringOddUptoCard
end Rows
end Go.Proofs.YtpoidnajhcjmcaaDoor
