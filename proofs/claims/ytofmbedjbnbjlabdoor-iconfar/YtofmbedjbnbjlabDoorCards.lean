/-
  DERIVED. GIVEN WITH THE SEED: THE CARDS: each row of YtofmbedjbnbjlabDoorRows.lean that lists a variable, with what it lists TIED to the program's text (the seventh form; the later family's looks); each row that meets fmt, with fmt's text TOLD by the authors' own Lean function (tested against real Go, not proved from fmt's source: count such statements apart). THE CARD IS WHAT COUNTS. Prove the row's statement (the work); the ties are given (YtofmbedjbnbjlabDoorTie.lean); close each card by the builder's one call (the guide's Derived/Test/ToyasCard.lean, 'card_holds'). Laid BY PROGRAM, IN A SANDBOX (cutbox-door.mjs). By AI agents, Wed Nov 11 2026. No macro, syntax, notation, axiom, sorry.
-/
import Derived.Test.YtofmbedjbnbjlabDoorRows
import GoSem.ClaimSeven
namespace Go.Proofs.YtofmbedjbnbjlabDoor
namespace Rows

/-- THE TIED CARD OF 'glyphiclaw5.IconFar'. -/
def iconFarCard : Claim7 := { stood := { row := iconFarRow, standIns := [], harness := (true, "d1d6572edbace5246985c96e6add02195dd435653e821851b5916c0557b04a6c"), looks := true }, kinds := [], alts := [], laidByText := true, laidKinds := [.sentinel, .sentinel, .sentinel, .sentinel, .sentinel, .sentinel, .sentinel, .sentinel, .sentinel, .sentinel, .sentinel, .sentinel, .sentinel], laidTests := true, laidLooks := .later }
def IconFarCardSaid : Prop := Claim7.holds Tryd.pinned (.plain (OpenSpec.ofChange iconFarSpec)) iconFarCard

/-- THE SECOND FORM's CARD OF 'glyphiclaw5.IconFar'. -/
def iconFarUptoCard : Claim7 := { stood := { row := iconFarUptoRow, standIns := [], harness := (true, "d1d6572edbace5246985c96e6add02195dd435653e821851b5916c0557b04a6c"), looks := true }, kinds := [], alts := [], laidByText := true, laidKinds := [.sentinel, .sentinel, .sentinel, .sentinel, .sentinel, .sentinel, .sentinel, .sentinel, .sentinel, .sentinel, .sentinel, .sentinel, .sentinel], laidTests := true, laidLooks := .later }
def IconFarUptoCardSaid : Prop := Claim7.holds Tryd.pinned (.plain (OpenSpec.upto iconFarSpec)) iconFarUptoCard
end Rows
end Go.Proofs.YtofmbedjbnbjlabDoor
