/-
  DERIVED. GIVEN WITH THE SEED: THE CARDS: each row of YtepilofedebmeaaDoorRows.lean that lists a variable, with what it lists TIED to the program's text (the seventh form; the later family's looks); each row that meets fmt, with fmt's text TOLD by the authors' own Lean function (tested against real Go, not proved from fmt's source: count such statements apart). THE CARD IS WHAT COUNTS. Prove the row's statement (the work); the ties are given (YtepilofedebmeaaDoorTie.lean); close each card by the builder's one call (the guide's Derived/Test/ToyasCard.lean, 'card_holds'). Laid BY PROGRAM, IN A SANDBOX (cutbox-door.mjs). By AI agents, Wed Nov 11 2026. No macro, syntax, notation, axiom, sorry.
-/
import Derived.Test.YtepilofedebmeaaDoorRows
import GoSem.ClaimSeven
namespace Go.Proofs.YtepilofedebmeaaDoor
namespace Rows

/-- THE TIED CARD OF 'glyphiclaw9.NumberSays'. -/
def numberSaysCard : Claim7 := { stood := { row := numberSaysRow, standIns := [], harness := (true, "801abbd8265e7a4c368a2b690f1aea0b5487fadc5dca9b4bd5e4a7ea8ae56440"), looks := true }, kinds := [], alts := [], laidByText := true, laidKinds := [.data, .data, .data, .data, .sentinel, .sentinel, .sentinel, .sentinel, .sentinel, .sentinel, .sentinel, .sentinel, .sentinel, .sentinel, .sentinel, .sentinel, .sentinel, .pinned], laidTests := true, laidLooks := .later }
def NumberSaysCardSaid : Prop := Claim7.holds Tryd.pinned (.plain (OpenSpec.ofChange numberSaysSpec)) numberSaysCard

/-- THE TIED CARD OF 'glyphiclaw9.NumberBack'. -/
def numberBackCard : Claim7 := { stood := { row := numberBackRow, standIns := [], harness := (true, "801abbd8265e7a4c368a2b690f1aea0b5487fadc5dca9b4bd5e4a7ea8ae56440"), looks := true }, kinds := [], alts := [], laidByText := true, laidKinds := [.data, .data, .data, .data, .sentinel, .pinned], laidTests := true, laidLooks := .later }
def NumberBackCardSaid : Prop := Claim7.holds Tryd.pinned (.plain (OpenSpec.ofChange numberBackSpec)) numberBackCard

/-- THE TIED CARD OF 'glyphiclaw9.NumberParts'. -/
def numberPartsCard : Claim7 := { stood := { row := numberPartsRow, standIns := [], harness := (true, "801abbd8265e7a4c368a2b690f1aea0b5487fadc5dca9b4bd5e4a7ea8ae56440"), looks := true }, kinds := [], alts := [], laidByText := true, laidKinds := [.data, .data, .data, .data, .sentinel, .pinned], laidTests := true, laidLooks := .later }
def NumberPartsCardSaid : Prop := Claim7.holds Tryd.pinned (.plain (OpenSpec.ofChange numberPartsSpec)) numberPartsCard

/-- THE TIED CARD OF 'glyphiclaw9.NumberWrong'. -/
def numberWrongCard : Claim7 := { stood := { row := numberWrongRow, standIns := [], harness := (true, "801abbd8265e7a4c368a2b690f1aea0b5487fadc5dca9b4bd5e4a7ea8ae56440"), looks := true }, kinds := [], alts := [], laidByText := true, laidKinds := [.data, .data, .data, .data, .sentinel, .sentinel, .sentinel, .sentinel, .sentinel, .sentinel, .sentinel, .sentinel, .sentinel, .sentinel, .sentinel, .sentinel, .sentinel, .pinned], laidTests := true, laidLooks := .later }
def NumberWrongCardSaid : Prop := Claim7.holds Tryd.pinned (.plain (OpenSpec.ofChange numberWrongSpec)) numberWrongCard

/-- THE SECOND FORM's CARD OF 'glyphiclaw9.NumberSays'. -/
def numberSaysUptoCard : Claim7 := { stood := { row := numberSaysUptoRow, standIns := [], harness := (true, "801abbd8265e7a4c368a2b690f1aea0b5487fadc5dca9b4bd5e4a7ea8ae56440"), looks := true }, kinds := [], alts := [], laidByText := true, laidKinds := [.data, .data, .data, .data, .sentinel, .sentinel, .sentinel, .sentinel, .sentinel, .sentinel, .sentinel, .sentinel, .sentinel, .sentinel, .sentinel, .sentinel, .sentinel, .pinned], laidTests := true, laidLooks := .later }
def NumberSaysUptoCardSaid : Prop := Claim7.holds Tryd.pinned (.plain (OpenSpec.upto numberSaysSpec)) numberSaysUptoCard

/-- THE SECOND FORM's CARD OF 'glyphiclaw9.NumberBack'. -/
def numberBackUptoCard : Claim7 := { stood := { row := numberBackUptoRow, standIns := [], harness := (true, "801abbd8265e7a4c368a2b690f1aea0b5487fadc5dca9b4bd5e4a7ea8ae56440"), looks := true }, kinds := [], alts := [], laidByText := true, laidKinds := [.data, .data, .data, .data, .sentinel, .pinned], laidTests := true, laidLooks := .later }
def NumberBackUptoCardSaid : Prop := Claim7.holds Tryd.pinned (.plain (OpenSpec.upto numberBackSpec)) numberBackUptoCard

/-- THE SECOND FORM's CARD OF 'glyphiclaw9.NumberParts'. -/
def numberPartsUptoCard : Claim7 := { stood := { row := numberPartsUptoRow, standIns := [], harness := (true, "801abbd8265e7a4c368a2b690f1aea0b5487fadc5dca9b4bd5e4a7ea8ae56440"), looks := true }, kinds := [], alts := [], laidByText := true, laidKinds := [.data, .data, .data, .data, .sentinel, .pinned], laidTests := true, laidLooks := .later }
def NumberPartsUptoCardSaid : Prop := Claim7.holds Tryd.pinned (.plain (OpenSpec.upto numberPartsSpec)) numberPartsUptoCard

/-- THE SECOND FORM's CARD OF 'glyphiclaw9.NumberWrong'. -/
def numberWrongUptoCard : Claim7 := { stood := { row := numberWrongUptoRow, standIns := [], harness := (true, "801abbd8265e7a4c368a2b690f1aea0b5487fadc5dca9b4bd5e4a7ea8ae56440"), looks := true }, kinds := [], alts := [], laidByText := true, laidKinds := [.data, .data, .data, .data, .sentinel, .sentinel, .sentinel, .sentinel, .sentinel, .sentinel, .sentinel, .sentinel, .sentinel, .sentinel, .sentinel, .sentinel, .sentinel, .pinned], laidTests := true, laidLooks := .later }
def NumberWrongUptoCardSaid : Prop := Claim7.holds Tryd.pinned (.plain (OpenSpec.upto numberWrongSpec)) numberWrongUptoCard
end Rows
end Go.Proofs.YtepilofedebmeaaDoor
