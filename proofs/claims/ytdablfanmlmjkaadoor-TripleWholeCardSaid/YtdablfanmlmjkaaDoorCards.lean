/-
  DERIVED. GIVEN WITH THE SEED: THE CARDS: each row of YtdablfanmlmjkaaDoorRows.lean that lists a variable, with what it lists TIED to the program's text (the seventh form; the later family's looks); each row that meets fmt, with fmt's text TOLD by the authors' own Lean function (tested against real Go, not proved from fmt's source: count such statements apart). THE CARD IS WHAT COUNTS. Prove the row's statement (the work); the ties are given (YtdablfanmlmjkaaDoorTie.lean); close each card by the builder's one call (the guide's Derived/Test/ToyasCard.lean, 'card_holds'). Laid BY PROGRAM, IN A SANDBOX (cutbox-door.mjs). By AI agents, Wed Nov 11 2026. No macro, syntax, notation, axiom, sorry.
-/
import Derived.Test.YtdablfanmlmjkaaDoorRows
import GoSem.ClaimSeven
namespace Go.Proofs.YtdablfanmlmjkaaDoor
namespace Rows

/-- THE TIED CARD OF 'empennagelaw07.TriplePlays'. -/
def triplePlaysCard : Claim7 := { stood := { row := triplePlaysRow, standIns := [], harness := (true, "9cf669b34542595204052fda93ebfce75e745c8772af84b0ecda471078371e1f"), looks := true }, kinds := [], alts := [], laidByText := true, laidKinds := [.handle], laidTests := true, laidLooks := .later }
def TriplePlaysCardSaid : Prop := Claim7.holds Tryd.pinned (.plain (OpenSpec.ofChange triplePlaysSpec)) triplePlaysCard

/-- THE TIED CARD OF 'empennagelaw07.TripleWhole'. -/
def tripleWholeCard : Claim7 := { stood := { row := tripleWholeRow, standIns := [], harness := (true, "9cf669b34542595204052fda93ebfce75e745c8772af84b0ecda471078371e1f"), looks := true }, kinds := [], alts := [], laidByText := true, laidKinds := [.handle], laidTests := true, laidLooks := .later }
def TripleWholeCardSaid : Prop := Claim7.holds Tryd.pinned (.plain (OpenSpec.ofChange tripleWholeSpec)) tripleWholeCard

/-- THE TIED CARD OF 'empennagelaw07.TripleThree'. -/
def tripleThreeCard : Claim7 := { stood := { row := tripleThreeRow, standIns := [], harness := (true, "9cf669b34542595204052fda93ebfce75e745c8772af84b0ecda471078371e1f"), looks := true }, kinds := [], alts := [], laidByText := true, laidKinds := [.handle], laidTests := true, laidLooks := .later }
def TripleThreeCardSaid : Prop := Claim7.holds Tryd.pinned (.plain (OpenSpec.ofChange tripleThreeSpec)) tripleThreeCard

/-- THE TIED CARD OF 'empennagelaw07.TripleAlone'. -/
def tripleAloneCard : Claim7 := { stood := { row := tripleAloneRow, standIns := [], harness := (true, "9cf669b34542595204052fda93ebfce75e745c8772af84b0ecda471078371e1f"), looks := true }, kinds := [], alts := [], laidByText := true, laidKinds := [.handle], laidTests := true, laidLooks := .later }
def TripleAloneCardSaid : Prop := Claim7.holds Tryd.pinned (.plain (OpenSpec.ofChange tripleAloneSpec)) tripleAloneCard

/-- THE TIED CARD OF 'empennagelaw07.TripleLast'. -/
def tripleLastCard : Claim7 := { stood := { row := tripleLastRow, standIns := [], harness := (true, "9cf669b34542595204052fda93ebfce75e745c8772af84b0ecda471078371e1f"), looks := true }, kinds := [], alts := [], laidByText := true, laidKinds := [.handle], laidTests := true, laidLooks := .later }
def TripleLastCardSaid : Prop := Claim7.holds Tryd.pinned (.plain (OpenSpec.ofChange tripleLastSpec)) tripleLastCard

/-- THE TIED CARD OF 'empennagelaw07.TripleOdd'. -/
def tripleOddCard : Claim7 := { stood := { row := tripleOddRow, standIns := [], harness := (true, "9cf669b34542595204052fda93ebfce75e745c8772af84b0ecda471078371e1f"), looks := true }, kinds := [], alts := [], laidByText := true, laidKinds := [.handle], laidTests := true, laidLooks := .later }
def TripleOddCardSaid : Prop := Claim7.holds Tryd.pinned (.plain (OpenSpec.ofChange tripleOddSpec)) tripleOddCard

/-- THE SECOND FORM's CARD OF 'empennagelaw07.TriplePlays'. -/
def triplePlaysUptoCard : Claim7 := { stood := { row := triplePlaysUptoRow, standIns := [], harness := (true, "9cf669b34542595204052fda93ebfce75e745c8772af84b0ecda471078371e1f"), looks := true }, kinds := [], alts := [], laidByText := true, laidKinds := [.handle], laidTests := true, laidLooks := .later }
def TriplePlaysUptoCardSaid : Prop := Claim7.holds Tryd.pinned (.plain (OpenSpec.upto triplePlaysSpec)) triplePlaysUptoCard

/-- THE SECOND FORM's CARD OF 'empennagelaw07.TripleWhole'. -/
def tripleWholeUptoCard : Claim7 := { stood := { row := tripleWholeUptoRow, standIns := [], harness := (true, "9cf669b34542595204052fda93ebfce75e745c8772af84b0ecda471078371e1f"), looks := true }, kinds := [], alts := [], laidByText := true, laidKinds := [.handle], laidTests := true, laidLooks := .later }
def TripleWholeUptoCardSaid : Prop := Claim7.holds Tryd.pinned (.plain (OpenSpec.upto tripleWholeSpec)) tripleWholeUptoCard

/-- THE SECOND FORM's CARD OF 'empennagelaw07.TripleThree'. -/
def tripleThreeUptoCard : Claim7 := { stood := { row := tripleThreeUptoRow, standIns := [], harness := (true, "9cf669b34542595204052fda93ebfce75e745c8772af84b0ecda471078371e1f"), looks := true }, kinds := [], alts := [], laidByText := true, laidKinds := [.handle], laidTests := true, laidLooks := .later }
def TripleThreeUptoCardSaid : Prop := Claim7.holds Tryd.pinned (.plain (OpenSpec.upto tripleThreeSpec)) tripleThreeUptoCard

/-- THE SECOND FORM's CARD OF 'empennagelaw07.TripleAlone'. -/
def tripleAloneUptoCard : Claim7 := { stood := { row := tripleAloneUptoRow, standIns := [], harness := (true, "9cf669b34542595204052fda93ebfce75e745c8772af84b0ecda471078371e1f"), looks := true }, kinds := [], alts := [], laidByText := true, laidKinds := [.handle], laidTests := true, laidLooks := .later }
def TripleAloneUptoCardSaid : Prop := Claim7.holds Tryd.pinned (.plain (OpenSpec.upto tripleAloneSpec)) tripleAloneUptoCard

/-- THE SECOND FORM's CARD OF 'empennagelaw07.TripleLast'. -/
def tripleLastUptoCard : Claim7 := { stood := { row := tripleLastUptoRow, standIns := [], harness := (true, "9cf669b34542595204052fda93ebfce75e745c8772af84b0ecda471078371e1f"), looks := true }, kinds := [], alts := [], laidByText := true, laidKinds := [.handle], laidTests := true, laidLooks := .later }
def TripleLastUptoCardSaid : Prop := Claim7.holds Tryd.pinned (.plain (OpenSpec.upto tripleLastSpec)) tripleLastUptoCard

/-- THE SECOND FORM's CARD OF 'empennagelaw07.TripleOdd'. -/
def tripleOddUptoCard : Claim7 := { stood := { row := tripleOddUptoRow, standIns := [], harness := (true, "9cf669b34542595204052fda93ebfce75e745c8772af84b0ecda471078371e1f"), looks := true }, kinds := [], alts := [], laidByText := true, laidKinds := [.handle], laidTests := true, laidLooks := .later }
def TripleOddUptoCardSaid : Prop := Claim7.holds Tryd.pinned (.plain (OpenSpec.upto tripleOddSpec)) tripleOddUptoCard
end Rows
end Go.Proofs.YtdablfanmlmjkaaDoor
