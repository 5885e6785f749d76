/-
  DERIVED. GIVEN WITH THE SEED: THE CARDS: each row of YtmfkapbllmfegaaDoorRows.lean that lists a variable, with what it lists TIED to the program's text (the seventh form; the later family's looks); each row that meets fmt, with fmt's text TOLD by the authors' own Lean function (tested against real Go, not proved from fmt's source: count such statements apart). THE CARD IS WHAT COUNTS. Prove the row's statement (the work); the ties are given (YtmfkapbllmfegaaDoorTie.lean); close each card by the builder's one call (the guide's Derived/Test/ToyasCard.lean, 'card_holds'). Laid BY PROGRAM, IN A SANDBOX (cutbox-door.mjs). By AI agents, Wed Nov 11 2026. No macro, syntax, notation, axiom, sorry.
-/
import Derived.Test.YtmfkapbllmfegaaDoorRows
import GoSem.ClaimSeven
namespace Go.Proofs.YtmfkapbllmfegaaDoor
namespace Rows

/-- THE TIED CARD OF 'empennagelaw13.WindowCalls'. -/
def windowCallsCard : Claim7 := { stood := { row := windowCallsRow, standIns := [], harness := (true, "3f966f1ce9b5368574d5e7f80190680802542517a8033b779c95e41ac94022b8"), looks := true }, kinds := [], alts := [], laidByText := true, laidKinds := [.handle], laidTests := true, laidLooks := .later }
def WindowCallsCardSaid : Prop := Claim7.holds Tryd.pinned (.plain (OpenSpec.ofChange windowCallsSpec)) windowCallsCard

/-- THE TIED CARD OF 'empennagelaw13.WindowCounts'. -/
def windowCountsCard : Claim7 := { stood := { row := windowCountsRow, standIns := [], harness := (true, "3f966f1ce9b5368574d5e7f80190680802542517a8033b779c95e41ac94022b8"), looks := true }, kinds := [], alts := [], laidByText := true, laidKinds := [.handle], laidTests := true, laidLooks := .later }
def WindowCountsCardSaid : Prop := Claim7.holds Tryd.pinned (.plain (OpenSpec.ofChange windowCountsSpec)) windowCountsCard

/-- THE TIED CARD OF 'empennagelaw13.WindowNext'. -/
def windowNextCard : Claim7 := { stood := { row := windowNextRow, standIns := [], harness := (true, "3f966f1ce9b5368574d5e7f80190680802542517a8033b779c95e41ac94022b8"), looks := true }, kinds := [], alts := [], laidByText := true, laidKinds := [.handle], laidTests := true, laidLooks := .later }
def WindowNextCardSaid : Prop := Claim7.holds Tryd.pinned (.plain (OpenSpec.ofChange windowNextSpec)) windowNextCard

/-- THE TIED CARD OF 'empennagelaw13.WindowAll'. -/
def windowAllCard : Claim7 := { stood := { row := windowAllRow, standIns := [], harness := (true, "3f966f1ce9b5368574d5e7f80190680802542517a8033b779c95e41ac94022b8"), looks := true }, kinds := [], alts := [], laidByText := true, laidKinds := [.handle], laidTests := true, laidLooks := .later }
def WindowAllCardSaid : Prop := Claim7.holds Tryd.pinned (.plain (OpenSpec.ofChange windowAllSpec)) windowAllCard

/-- THE TIED CARD OF 'empennagelaw13.WindowTurns'. -/
def windowTurnsCard : Claim7 := { stood := { row := windowTurnsRow, standIns := [], harness := (true, "3f966f1ce9b5368574d5e7f80190680802542517a8033b779c95e41ac94022b8"), looks := true }, kinds := [], alts := [], laidByText := true, laidKinds := [.handle], laidTests := true, laidLooks := .later }
def WindowTurnsCardSaid : Prop := Claim7.holds Tryd.pinned (.plain (OpenSpec.ofChange windowTurnsSpec)) windowTurnsCard

/-- THE TIED CARD OF 'empennagelaw13.WindowOdd'. -/
def windowOddCard : Claim7 := { stood := { row := windowOddRow, standIns := [], harness := (true, "3f966f1ce9b5368574d5e7f80190680802542517a8033b779c95e41ac94022b8"), looks := true }, kinds := [], alts := [], laidByText := true, laidKinds := [.handle], laidTests := true, laidLooks := .later }
def WindowOddCardSaid : Prop := Claim7.holds Tryd.pinned (.plain (OpenSpec.ofChange windowOddSpec)) windowOddCard

/-- THE TIED CARD OF 'empennagelaw13.WindowShifts'. -/
def windowShiftsCard : Claim7 := { stood := { row := windowShiftsRow, standIns := [], harness := (true, "3f966f1ce9b5368574d5e7f80190680802542517a8033b779c95e41ac94022b8"), looks := true }, kinds := [], alts := [], laidByText := true, laidKinds := [.handle], laidTests := true, laidLooks := .later }
def WindowShiftsCardSaid : Prop := Claim7.holds Tryd.pinned (.plain (OpenSpec.ofChange windowShiftsSpec)) windowShiftsCard

/-- THE SECOND FORM's CARD OF 'empennagelaw13.WindowCalls'. -/
def windowCallsUptoCard : Claim7 := { stood := { row := windowCallsUptoRow, standIns := [], harness := (true, "3f966f1ce9b5368574d5e7f80190680802542517a8033b779c95e41ac94022b8"), looks := true }, kinds := [], alts := [], laidByText := true, laidKinds := [.handle], laidTests := true, laidLooks := .later }
def WindowCallsUptoCardSaid : Prop := Claim7.holds Tryd.pinned (.plain (OpenSpec.upto windowCallsSpec)) windowCallsUptoCard

/-- THE SECOND FORM's CARD OF 'empennagelaw13.WindowCounts'. -/
def windowCountsUptoCard : Claim7 := { stood := { row := windowCountsUptoRow, standIns := [], harness := (true, "3f966f1ce9b5368574d5e7f80190680802542517a8033b779c95e41ac94022b8"), looks := true }, kinds := [], alts := [], laidByText := true, laidKinds := [.handle], laidTests := true, laidLooks := .later }
def WindowCountsUptoCardSaid : Prop := Claim7.holds Tryd.pinned (.plain (OpenSpec.upto windowCountsSpec)) windowCountsUptoCard

/-- THE SECOND FORM's CARD OF 'empennagelaw13.WindowNext'. -/
def windowNextUptoCard : Claim7 := { stood := { row := windowNextUptoRow, standIns := [], harness := (true, "3f966f1ce9b5368574d5e7f80190680802542517a8033b779c95e41ac94022b8"), looks := true }, kinds := [], alts := [], laidByText := true, laidKinds := [.handle], laidTests := true, laidLooks := .later }
def WindowNextUptoCardSaid : Prop := Claim7.holds Tryd.pinned (.plain (OpenSpec.upto windowNextSpec)) windowNextUptoCard

/-- THE SECOND FORM's CARD OF 'empennagelaw13.WindowAll'. -/
def windowAllUptoCard : Claim7 := { stood := { row := windowAllUptoRow, standIns := [], harness := (true, "3f966f1ce9b5368574d5e7f80190680802542517a8033b779c95e41ac94022b8"), looks := true }, kinds := [], alts := [], laidByText := true, laidKinds := [.handle], laidTests := true, laidLooks := .later }
def WindowAllUptoCardSaid : Prop := Claim7.holds Tryd.pinned (.plain (OpenSpec.upto windowAllSpec)) windowAllUptoCard

/-- THE SECOND FORM's CARD OF 'empennagelaw13.WindowTurns'. -/
def windowTurnsUptoCard : Claim7 := { stood := { row := windowTurnsUptoRow, standIns := [], harness := (true, "3f966f1ce9b5368574d5e7f80190680802542517a8033b779c95e41ac94022b8"), looks := true }, kinds := [], alts := [], laidByText := true, laidKinds := [.handle], laidTests := true, laidLooks := .later }
def WindowTurnsUptoCardSaid : Prop := Claim7.holds Tryd.pinned (.plain (OpenSpec.upto windowTurnsSpec)) windowTurnsUptoCard

/-- THE SECOND FORM's CARD OF 'empennagelaw13.WindowOdd'. -/
def windowOddUptoCard : Claim7 := { stood := { row := windowOddUptoRow, standIns := [], harness := (true, "3f966f1ce9b5368574d5e7f80190680802542517a8033b779c95e41ac94022b8"), looks := true }, kinds := [], alts := [], laidByText := true, laidKinds := [.handle], laidTests := true, laidLooks := .later }
def WindowOddUptoCardSaid : Prop := Claim7.holds Tryd.pinned (.plain (OpenSpec.upto windowOddSpec)) windowOddUptoCard

/-- THE SECOND FORM's CARD OF 'empennagelaw13.WindowShifts'. -/
def windowShiftsUptoCard : Claim7 := { stood := { row := windowShiftsUptoRow, standIns := [], harness := (true, "3f966f1ce9b5368574d5e7f80190680802542517a8033b779c95e41ac94022b8"), looks := true }, kinds := [], alts := [], laidByText := true, laidKinds := [.handle], laidTests := true, laidLooks := .later }
def WindowShiftsUptoCardSaid : Prop := Claim7.holds Tryd.pinned (.plain (OpenSpec.upto windowShiftsSpec)) windowShiftsUptoCard
end Rows
end Go.Proofs.YtmfkapbllmfegaaDoor
