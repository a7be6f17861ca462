/-
  DERIVED. GIVEN WITH THE SEED: THE CARDS: each row of YtlgcbjipfolmbaaDoorRows.lean that lists a variable, with what it lists TIED to the program's text (the seventh form; the later family's looks); each row that meets fmt, with fmt's text TOLD by the authors' own Lean function (tested against real Go, not proved from fmt's source: count such statements apart). THE CARD IS WHAT COUNTS. Prove the row's statement (the work); the ties are given (YtlgcbjipfolmbaaDoorTie.lean); close each card by the builder's one call (the guide's Derived/Test/ToyasCard.lean, 'card_holds'). Laid BY PROGRAM, IN A SANDBOX (cutbox-door.mjs). By AI agents, Wed Nov 11 2026. No macro, syntax, notation, axiom, sorry.
-/
import Derived.Test.YtlgcbjipfolmbaaDoorRows
import GoSem.ClaimSeven
namespace Go.Proofs.YtlgcbjipfolmbaaDoor
namespace Rows

/-- THE TIED CARD OF 'glyphiclaw3.ColorSays'. -/
def colorSaysCard : Claim7 := { stood := { row := colorSaysRow, standIns := [], harness := (true, "ecab57d36eae3a56d78277420631cb78cdf86feb4e1d9d4e432435af49d1bb32"), looks := true }, kinds := [], alts := [], laidByText := true, laidKinds := [.sentinel, .sentinel, .sentinel, .sentinel, .sentinel, .sentinel, .sentinel, .sentinel, .sentinel, .sentinel, .sentinel, .sentinel, .sentinel], laidTests := true, laidLooks := .later }
def ColorSaysCardSaid : Prop := Claim7.holds Tryd.pinned (.plain (OpenSpec.ofChange colorSaysSpec)) colorSaysCard

/-- THE TIED CARD OF 'glyphiclaw3.ColorBack'. -/
def colorBackCard : Claim7 := { stood := { row := colorBackRow, standIns := [], harness := (true, "ecab57d36eae3a56d78277420631cb78cdf86feb4e1d9d4e432435af49d1bb32"), looks := true }, kinds := [], alts := [], laidByText := true, laidKinds := [.sentinel], laidTests := true, laidLooks := .later }
def ColorBackCardSaid : Prop := Claim7.holds Tryd.pinned (.plain (OpenSpec.ofChange colorBackSpec)) colorBackCard

/-- THE TIED CARD OF 'glyphiclaw3.ColorWrong'. -/
def colorWrongCard : Claim7 := { stood := { row := colorWrongRow, standIns := [], harness := (true, "ecab57d36eae3a56d78277420631cb78cdf86feb4e1d9d4e432435af49d1bb32"), looks := true }, kinds := [], alts := [], laidByText := true, laidKinds := [.sentinel], laidTests := true, laidLooks := .later }
def ColorWrongCardSaid : Prop := Claim7.holds Tryd.pinned (.plain (OpenSpec.ofChange colorWrongSpec)) colorWrongCard

/-- THE SECOND FORM's CARD OF 'glyphiclaw3.ColorSays'. -/
def colorSaysUptoCard : Claim7 := { stood := { row := colorSaysUptoRow, standIns := [], harness := (true, "ecab57d36eae3a56d78277420631cb78cdf86feb4e1d9d4e432435af49d1bb32"), looks := true }, kinds := [], alts := [], laidByText := true, laidKinds := [.sentinel, .sentinel, .sentinel, .sentinel, .sentinel, .sentinel, .sentinel, .sentinel, .sentinel, .sentinel, .sentinel, .sentinel, .sentinel], laidTests := true, laidLooks := .later }
def ColorSaysUptoCardSaid : Prop := Claim7.holds Tryd.pinned (.plain (OpenSpec.upto colorSaysSpec)) colorSaysUptoCard

/-- THE SECOND FORM's CARD OF 'glyphiclaw3.ColorBack'. -/
def colorBackUptoCard : Claim7 := { stood := { row := colorBackUptoRow, standIns := [], harness := (true, "ecab57d36eae3a56d78277420631cb78cdf86feb4e1d9d4e432435af49d1bb32"), looks := true }, kinds := [], alts := [], laidByText := true, laidKinds := [.sentinel], laidTests := true, laidLooks := .later }
def ColorBackUptoCardSaid : Prop := Claim7.holds Tryd.pinned (.plain (OpenSpec.upto colorBackSpec)) colorBackUptoCard

/-- THE SECOND FORM's CARD OF 'glyphiclaw3.ColorWrong'. -/
def colorWrongUptoCard : Claim7 := { stood := { row := colorWrongUptoRow, standIns := [], harness := (true, "ecab57d36eae3a56d78277420631cb78cdf86feb4e1d9d4e432435af49d1bb32"), looks := true }, kinds := [], alts := [], laidByText := true, laidKinds := [.sentinel], laidTests := true, laidLooks := .later }
def ColorWrongUptoCardSaid : Prop := Claim7.holds Tryd.pinned (.plain (OpenSpec.upto colorWrongSpec)) colorWrongUptoCard
end Rows
end Go.Proofs.YtlgcbjipfolmbaaDoor
