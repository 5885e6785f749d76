/-
  DERIVED. GIVEN WITH THE SEED: THE CARDS: each row of YtolecpnlpifnjaaDoorRows.lean that lists a variable, with what it lists TIED to the program's text (the seventh form; the later family's looks); each row that meets fmt, with fmt's text TOLD by the authors' own Lean function (tested against real Go, not proved from fmt's source: count such statements apart). THE CARD IS WHAT COUNTS. Prove the row's statement (the work); the ties are given (YtolecpnlpifnjaaDoorTie.lean); close each card by the builder's one call (the guide's Derived/Test/ToyasCard.lean, 'card_holds'). Laid BY PROGRAM, IN A SANDBOX (cutbox-door.mjs). By AI agents, Wed Nov 11 2026. No macro, syntax, notation, axiom, sorry.
-/
import Derived.Test.YtolecpnlpifnjaaDoorRows
import GoSem.ClaimSeven
namespace Go.Proofs.YtolecpnlpifnjaaDoor
namespace Rows

/-- THE TIED CARD OF 'empennagelaw04.ConfigPaths'. -/
def configPathsCard : Claim7 := { stood := { row := configPathsRow, standIns := [], harness := (true, "bfa4850033025fefc0714b764359f1a51abf7a86eea573cef3db1bacdd901089"), looks := true }, kinds := [], alts := [], laidByText := true, laidKinds := [.handle], laidTests := true, laidLooks := .later }
def ConfigPathsCardSaid : Prop := Claim7.holds Tryd.pinned (.plain (OpenSpec.ofChange configPathsSpec)) configPathsCard

/-- THE TIED CARD OF 'empennagelaw04.ConfigOne'. -/
def configOneCard : Claim7 := { stood := { row := configOneRow, standIns := [], harness := (true, "bfa4850033025fefc0714b764359f1a51abf7a86eea573cef3db1bacdd901089"), looks := true }, kinds := [], alts := [], laidByText := true, laidKinds := [.handle], laidTests := true, laidLooks := .later }
def ConfigOneCardSaid : Prop := Claim7.holds Tryd.pinned (.plain (OpenSpec.ofChange configOneSpec)) configOneCard

/-- THE TIED CARD OF 'empennagelaw04.ConfigWays'. -/
def configWaysCard : Claim7 := { stood := { row := configWaysRow, standIns := [], harness := (true, "bfa4850033025fefc0714b764359f1a51abf7a86eea573cef3db1bacdd901089"), looks := true }, kinds := [], alts := [], laidByText := true, laidKinds := [.handle], laidTests := true, laidLooks := .later }
def ConfigWaysCardSaid : Prop := Claim7.holds Tryd.pinned (.plain (OpenSpec.ofChange configWaysSpec)) configWaysCard

/-- THE TIED CARD OF 'empennagelaw04.ConfigLess'. -/
def configLessCard : Claim7 := { stood := { row := configLessRow, standIns := [], harness := (true, "bfa4850033025fefc0714b764359f1a51abf7a86eea573cef3db1bacdd901089"), looks := true }, kinds := [], alts := [], laidByText := true, laidKinds := [.handle], laidTests := true, laidLooks := .later }
def ConfigLessCardSaid : Prop := Claim7.holds Tryd.pinned (.plain (OpenSpec.ofChange configLessSpec)) configLessCard

/-- THE TIED CARD OF 'empennagelaw04.ConfigSame'. -/
def configSameCard : Claim7 := { stood := { row := configSameRow, standIns := [], harness := (true, "bfa4850033025fefc0714b764359f1a51abf7a86eea573cef3db1bacdd901089"), looks := true }, kinds := [], alts := [], laidByText := true, laidKinds := [.handle], laidTests := true, laidLooks := .later }
def ConfigSameCardSaid : Prop := Claim7.holds Tryd.pinned (.plain (OpenSpec.ofChange configSameSpec)) configSameCard

/-- THE SECOND FORM's CARD OF 'empennagelaw04.ConfigPaths'. -/
def configPathsUptoCard : Claim7 := { stood := { row := configPathsUptoRow, standIns := [], harness := (true, "bfa4850033025fefc0714b764359f1a51abf7a86eea573cef3db1bacdd901089"), looks := true }, kinds := [], alts := [], laidByText := true, laidKinds := [.handle], laidTests := true, laidLooks := .later }
def ConfigPathsUptoCardSaid : Prop := Claim7.holds Tryd.pinned (.plain (OpenSpec.upto configPathsSpec)) configPathsUptoCard

/-- THE SECOND FORM's CARD OF 'empennagelaw04.ConfigOne'. -/
def configOneUptoCard : Claim7 := { stood := { row := configOneUptoRow, standIns := [], harness := (true, "bfa4850033025fefc0714b764359f1a51abf7a86eea573cef3db1bacdd901089"), looks := true }, kinds := [], alts := [], laidByText := true, laidKinds := [.handle], laidTests := true, laidLooks := .later }
def ConfigOneUptoCardSaid : Prop := Claim7.holds Tryd.pinned (.plain (OpenSpec.upto configOneSpec)) configOneUptoCard

/-- THE SECOND FORM's CARD OF 'empennagelaw04.ConfigWays'. -/
def configWaysUptoCard : Claim7 := { stood := { row := configWaysUptoRow, standIns := [], harness := (true, "bfa4850033025fefc0714b764359f1a51abf7a86eea573cef3db1bacdd901089"), looks := true }, kinds := [], alts := [], laidByText := true, laidKinds := [.handle], laidTests := true, laidLooks := .later }
def ConfigWaysUptoCardSaid : Prop := Claim7.holds Tryd.pinned (.plain (OpenSpec.upto configWaysSpec)) configWaysUptoCard

/-- THE SECOND FORM's CARD OF 'empennagelaw04.ConfigLess'. -/
def configLessUptoCard : Claim7 := { stood := { row := configLessUptoRow, standIns := [], harness := (true, "bfa4850033025fefc0714b764359f1a51abf7a86eea573cef3db1bacdd901089"), looks := true }, kinds := [], alts := [], laidByText := true, laidKinds := [.handle], laidTests := true, laidLooks := .later }
def ConfigLessUptoCardSaid : Prop := Claim7.holds Tryd.pinned (.plain (OpenSpec.upto configLessSpec)) configLessUptoCard

/-- THE SECOND FORM's CARD OF 'empennagelaw04.ConfigSame'. -/
def configSameUptoCard : Claim7 := { stood := { row := configSameUptoRow, standIns := [], harness := (true, "bfa4850033025fefc0714b764359f1a51abf7a86eea573cef3db1bacdd901089"), looks := true }, kinds := [], alts := [], laidByText := true, laidKinds := [.handle], laidTests := true, laidLooks := .later }
def ConfigSameUptoCardSaid : Prop := Claim7.holds Tryd.pinned (.plain (OpenSpec.upto configSameSpec)) configSameUptoCard
end Rows
end Go.Proofs.YtolecpnlpifnjaaDoor
