/-
  DERIVED. GIVEN WITH THE SEED: THE CARDS: each row of YtcnlkdoifogkbaaGreatDoorRows.lean that lists a variable, with what it lists TIED to the program's text (the seventh form; the later family's looks); each row that meets fmt, with fmt's text TOLD by the authors' own Lean function (tested against real Go, not proved from fmt's source: count such statements apart). THE CARD IS WHAT COUNTS. Prove the row's statement (the work); the ties are given (YtcnlkdoifogkbaaGreatDoorTie.lean); close each card by the builder's one call (the guide's Derived/Test/ToyasCard.lean, 'card_holds'). Laid BY PROGRAM, IN A SANDBOX (cutbox-door.mjs). By AI agents, Wed Nov 11 2026. No macro, syntax, notation, axiom, sorry.
-/
import Derived.Test.YtcnlkdoifogkbaaGreatDoorRows
import GoSem.ClaimSeven
namespace Go.Proofs.YtcnlkdoifogkbaaGreatDoor
namespace Rows

/-- THE TIED CARD OF 'glyphiclaw7.DecodeBack'. -/
def decodeBackCard : Claim7 := { stood := { row := decodeBackRow, standIns := [], harness := (true, "fbe2f6b4c513e85c2a26271082d29da9a65afcd1c6f7004d5365e473a9c707bc"), looks := true }, kinds := [], alts := [], laidByText := true, laidKinds := [.sentinel, .sentinel, .sentinel, .sentinel, .sentinel, .sentinel, .sentinel, .sentinel, .sentinel, .sentinel, .sentinel, .sentinel, .sentinel], laidTests := true, laidLooks := .later }
def DecodeBackCardSaid : Prop := Claim7.holds Tryz.pinned (.plain (OpenSpec.ofChange decodeBackSpec)) decodeBackCard

/-- THE TIED CARD OF 'glyphiclaw7.DecodeOne'. -/
def decodeOneCard : Claim7 := { stood := { row := decodeOneRow, standIns := [], harness := (true, "fbe2f6b4c513e85c2a26271082d29da9a65afcd1c6f7004d5365e473a9c707bc"), looks := true }, kinds := [], alts := [], laidByText := true, laidKinds := [.sentinel, .sentinel, .sentinel, .sentinel, .sentinel, .sentinel, .sentinel, .sentinel, .sentinel, .sentinel, .sentinel, .sentinel, .sentinel], laidTests := true, laidLooks := .later }
def DecodeOneCardSaid : Prop := Claim7.holds Tryz.pinned (.plain (OpenSpec.ofChange decodeOneSpec)) decodeOneCard

/-- THE SECOND FORM's CARD OF 'glyphiclaw7.DecodeBack'. -/
def decodeBackUptoCard : Claim7 := { stood := { row := decodeBackUptoRow, standIns := [], harness := (true, "fbe2f6b4c513e85c2a26271082d29da9a65afcd1c6f7004d5365e473a9c707bc"), looks := true }, kinds := [], alts := [], laidByText := true, laidKinds := [.sentinel, .sentinel, .sentinel, .sentinel, .sentinel, .sentinel, .sentinel, .sentinel, .sentinel, .sentinel, .sentinel, .sentinel, .sentinel], laidTests := true, laidLooks := .later }
def DecodeBackUptoCardSaid : Prop := Claim7.holds Tryz.pinned (.plain (OpenSpec.upto decodeBackSpec)) decodeBackUptoCard

/-- THE SECOND FORM's CARD OF 'glyphiclaw7.DecodeOne'. -/
def decodeOneUptoCard : Claim7 := { stood := { row := decodeOneUptoRow, standIns := [], harness := (true, "fbe2f6b4c513e85c2a26271082d29da9a65afcd1c6f7004d5365e473a9c707bc"), looks := true }, kinds := [], alts := [], laidByText := true, laidKinds := [.sentinel, .sentinel, .sentinel, .sentinel, .sentinel, .sentinel, .sentinel, .sentinel, .sentinel, .sentinel, .sentinel, .sentinel, .sentinel], laidTests := true, laidLooks := .later }
def DecodeOneUptoCardSaid : Prop := Claim7.holds Tryz.pinned (.plain (OpenSpec.upto decodeOneSpec)) decodeOneUptoCard
end Rows
end Go.Proofs.YtcnlkdoifogkbaaGreatDoor
