/-
  DERIVED. GIVEN WITH THE SEED: THE CARDS: each row of YtdfbhdnklefbaaaDoorRows.lean that lists a variable, with what it lists TIED to the program's text (the seventh form; the later family's looks); each row that meets fmt, with fmt's text TOLD by the authors' own Lean function (tested against real Go, not proved from fmt's source: count such statements apart). THE CARD IS WHAT COUNTS. Prove the row's statement (the work); the ties are given (YtdfbhdnklefbaaaDoorTie.lean); close each card by the builder's one call (the guide's Derived/Test/ToyasCard.lean, 'card_holds'). Laid BY PROGRAM, IN A SANDBOX (cutbox-door.mjs). By AI agents, Wed Nov 11 2026. No macro, syntax, notation, axiom, sorry.
-/
import Derived.Test.YtdfbhdnklefbaaaDoorRows
import GoSem.ClaimSeven
namespace Go.Proofs.YtdfbhdnklefbaaaDoor
namespace Rows

/-- THE TIED CARD OF 'glyphiclaw8.WordSays'. -/
def wordSaysCard : Claim7 := { stood := { row := wordSaysRow, standIns := [], harness := (true, "91e75136bdadb10315bba9e93d2bf67aeff3e43ffee655f937419a9d95c1dd8b"), looks := true }, kinds := [], alts := [], laidByText := true, laidKinds := [.data, .data, .data, .sentinel, .sentinel, .sentinel, .sentinel, .sentinel, .sentinel, .sentinel, .sentinel, .sentinel, .sentinel, .sentinel, .sentinel, .sentinel], laidTests := true, laidLooks := .later }
def WordSaysCardSaid : Prop := Claim7.holds Tryd.pinned (.plain (OpenSpec.ofChange wordSaysSpec)) wordSaysCard

/-- THE TIED CARD OF 'glyphiclaw8.WordRows'. -/
def wordRowsCard : Claim7 := { stood := { row := wordRowsRow, standIns := [], harness := (true, "91e75136bdadb10315bba9e93d2bf67aeff3e43ffee655f937419a9d95c1dd8b"), looks := true }, kinds := [], alts := [], laidByText := true, laidKinds := [.sentinel, .sentinel], laidTests := true, laidLooks := .later }
def WordRowsCardSaid : Prop := Claim7.holds Tryd.pinned (.plain (OpenSpec.ofChange wordRowsSpec)) wordRowsCard

/-- THE TIED CARD OF 'glyphiclaw8.WordErrors'. -/
def wordErrorsCard : Claim7 := { stood := { row := wordErrorsRow, standIns := [], harness := (true, "91e75136bdadb10315bba9e93d2bf67aeff3e43ffee655f937419a9d95c1dd8b"), looks := true }, kinds := [], alts := [], laidByText := true, laidKinds := [.sentinel, .sentinel, .sentinel, .sentinel, .sentinel, .sentinel, .sentinel, .sentinel, .sentinel, .sentinel, .sentinel, .sentinel, .sentinel], laidTests := true, laidLooks := .later }
def WordErrorsCardSaid : Prop := Claim7.holds Tryd.pinned (.plain (OpenSpec.ofChange wordErrorsSpec)) wordErrorsCard

/-- THE TIED CARD OF 'glyphiclaw8.WordNames'. -/
def wordNamesCard : Claim7 := { stood := { row := wordNamesRow, standIns := [], harness := (true, "91e75136bdadb10315bba9e93d2bf67aeff3e43ffee655f937419a9d95c1dd8b"), looks := true }, kinds := [], alts := [], laidByText := true, laidKinds := [.sentinel, .sentinel, .sentinel, .sentinel, .sentinel, .sentinel, .sentinel, .sentinel, .sentinel, .sentinel, .sentinel, .sentinel, .sentinel], laidTests := true, laidLooks := .later }
def WordNamesCardSaid : Prop := Claim7.holds Tryd.pinned (.plain (OpenSpec.ofChange wordNamesSpec)) wordNamesCard

/-- THE SECOND FORM's CARD OF 'glyphiclaw8.WordSays'. -/
def wordSaysUptoCard : Claim7 := { stood := { row := wordSaysUptoRow, standIns := [], harness := (true, "91e75136bdadb10315bba9e93d2bf67aeff3e43ffee655f937419a9d95c1dd8b"), looks := true }, kinds := [], alts := [], laidByText := true, laidKinds := [.data, .data, .data, .sentinel, .sentinel, .sentinel, .sentinel, .sentinel, .sentinel, .sentinel, .sentinel, .sentinel, .sentinel, .sentinel, .sentinel, .sentinel], laidTests := true, laidLooks := .later }
def WordSaysUptoCardSaid : Prop := Claim7.holds Tryd.pinned (.plain (OpenSpec.upto wordSaysSpec)) wordSaysUptoCard

/-- THE SECOND FORM's CARD OF 'glyphiclaw8.WordRows'. -/
def wordRowsUptoCard : Claim7 := { stood := { row := wordRowsUptoRow, standIns := [], harness := (true, "91e75136bdadb10315bba9e93d2bf67aeff3e43ffee655f937419a9d95c1dd8b"), looks := true }, kinds := [], alts := [], laidByText := true, laidKinds := [.sentinel, .sentinel], laidTests := true, laidLooks := .later }
def WordRowsUptoCardSaid : Prop := Claim7.holds Tryd.pinned (.plain (OpenSpec.upto wordRowsSpec)) wordRowsUptoCard

/-- THE SECOND FORM's CARD OF 'glyphiclaw8.WordErrors'. -/
def wordErrorsUptoCard : Claim7 := { stood := { row := wordErrorsUptoRow, standIns := [], harness := (true, "91e75136bdadb10315bba9e93d2bf67aeff3e43ffee655f937419a9d95c1dd8b"), looks := true }, kinds := [], alts := [], laidByText := true, laidKinds := [.sentinel, .sentinel, .sentinel, .sentinel, .sentinel, .sentinel, .sentinel, .sentinel, .sentinel, .sentinel, .sentinel, .sentinel, .sentinel], laidTests := true, laidLooks := .later }
def WordErrorsUptoCardSaid : Prop := Claim7.holds Tryd.pinned (.plain (OpenSpec.upto wordErrorsSpec)) wordErrorsUptoCard

/-- THE SECOND FORM's CARD OF 'glyphiclaw8.WordNames'. -/
def wordNamesUptoCard : Claim7 := { stood := { row := wordNamesUptoRow, standIns := [], harness := (true, "91e75136bdadb10315bba9e93d2bf67aeff3e43ffee655f937419a9d95c1dd8b"), looks := true }, kinds := [], alts := [], laidByText := true, laidKinds := [.sentinel, .sentinel, .sentinel, .sentinel, .sentinel, .sentinel, .sentinel, .sentinel, .sentinel, .sentinel, .sentinel, .sentinel, .sentinel], laidTests := true, laidLooks := .later }
def WordNamesUptoCardSaid : Prop := Claim7.holds Tryd.pinned (.plain (OpenSpec.upto wordNamesSpec)) wordNamesUptoCard
end Rows
end Go.Proofs.YtdfbhdnklefbaaaDoor
