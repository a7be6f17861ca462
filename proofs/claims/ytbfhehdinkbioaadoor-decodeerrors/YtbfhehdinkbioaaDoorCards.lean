/-
  DERIVED. GIVEN WITH THE SEED: THE CARDS: each row of YtbfhehdinkbioaaDoorRows.lean that lists a variable, with what it lists TIED to the program's text (the seventh form; the later family's looks); each row that meets fmt, with fmt's text TOLD by the authors' own Lean function (tested against real Go, not proved from fmt's source: count such statements apart). THE CARD IS WHAT COUNTS. Prove the row's statement (the work); the ties are given (YtbfhehdinkbioaaDoorTie.lean); close each card by the builder's one call (the guide's Derived/Test/ToyasCard.lean, 'card_holds'). Laid BY PROGRAM, IN A SANDBOX (cutbox-door.mjs). By AI agents, Wed Nov 11 2026. No macro, syntax, notation, axiom, sorry.
-/
import Derived.Test.YtbfhehdinkbioaaDoorRows
import GoSem.ClaimSeven
namespace Go.Proofs.YtbfhehdinkbioaaDoor
namespace Rows

/-- THE TIED CARD OF 'glyphiclaw7.DecodeErrors'. -/
def decodeErrorsCard : Claim7 := { stood := { row := decodeErrorsRow, standIns := [], harness := (true, "a9ad9f550f29c97582a21fb142cf1eef639d893250494c6e93a287bc92fc859d"), looks := true }, kinds := [], alts := [], laidByText := true, laidKinds := [.sentinel, .sentinel, .sentinel, .sentinel, .sentinel, .sentinel, .sentinel, .sentinel, .sentinel, .sentinel, .sentinel, .sentinel, .sentinel], laidTests := true, laidLooks := .later }
def DecodeErrorsCardSaid : Prop := Claim7.holds Tryd.pinned (.plain (OpenSpec.ofChange decodeErrorsSpec)) decodeErrorsCard

/-- THE TIED CARD OF 'glyphiclaw6.EncodeSays'. -/
def encodeSaysCard : Claim7 := { stood := { row := encodeSaysRow, standIns := [], harness := (true, "a9ad9f550f29c97582a21fb142cf1eef639d893250494c6e93a287bc92fc859d"), looks := true }, kinds := [], alts := [], laidByText := true, laidKinds := [.sentinel, .sentinel, .sentinel, .sentinel, .sentinel, .sentinel, .sentinel, .sentinel, .sentinel, .sentinel, .sentinel, .sentinel, .sentinel], laidTests := true, laidLooks := .later }
def EncodeSaysCardSaid : Prop := Claim7.holds Tryd.pinned (.plain (OpenSpec.ofChange encodeSaysSpec)) encodeSaysCard

/-- THE SECOND FORM's CARD OF 'glyphiclaw7.DecodeErrors'. -/
def decodeErrorsUptoCard : Claim7 := { stood := { row := decodeErrorsUptoRow, standIns := [], harness := (true, "a9ad9f550f29c97582a21fb142cf1eef639d893250494c6e93a287bc92fc859d"), looks := true }, kinds := [], alts := [], laidByText := true, laidKinds := [.sentinel, .sentinel, .sentinel, .sentinel, .sentinel, .sentinel, .sentinel, .sentinel, .sentinel, .sentinel, .sentinel, .sentinel, .sentinel], laidTests := true, laidLooks := .later }
def DecodeErrorsUptoCardSaid : Prop := Claim7.holds Tryd.pinned (.plain (OpenSpec.upto decodeErrorsSpec)) decodeErrorsUptoCard

/-- THE SECOND FORM's CARD OF 'glyphiclaw6.EncodeSays'. -/
def encodeSaysUptoCard : Claim7 := { stood := { row := encodeSaysUptoRow, standIns := [], harness := (true, "a9ad9f550f29c97582a21fb142cf1eef639d893250494c6e93a287bc92fc859d"), looks := true }, kinds := [], alts := [], laidByText := true, laidKinds := [.sentinel, .sentinel, .sentinel, .sentinel, .sentinel, .sentinel, .sentinel, .sentinel, .sentinel, .sentinel, .sentinel, .sentinel, .sentinel], laidTests := true, laidLooks := .later }
def EncodeSaysUptoCardSaid : Prop := Claim7.holds Tryd.pinned (.plain (OpenSpec.upto encodeSaysSpec)) encodeSaysUptoCard
end Rows
end Go.Proofs.YtbfhehdinkbioaaDoor
