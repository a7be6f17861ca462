/-
  DERIVED. GIVEN WITH THE SEED: THE CARDS: each row of YtmkipfgglcpfaaaDoorRows.lean that lists a variable, with what it lists TIED to the program's text (the seventh form; the later family's looks); each row that meets fmt, with fmt's text TOLD by the authors' own Lean function (tested against real Go, not proved from fmt's source: count such statements apart). THE CARD IS WHAT COUNTS. Prove the row's statement (the work); the ties are given (YtmkipfgglcpfaaaDoorTie.lean); close each card by the builder's one call (the guide's Derived/Test/ToyasCard.lean, 'card_holds'). Laid BY PROGRAM, IN A SANDBOX (cutbox-door.mjs). By AI agents, Wed Nov 11 2026. No macro, syntax, notation, axiom, sorry.
-/
import Derived.Test.YtmkipfgglcpfaaaDoorRows
import GoSem.ClaimSeven
namespace Go.Proofs.YtmkipfgglcpfaaaDoor
namespace Rows

/-- THE TIED CARD OF 'glyphiclaw5.IconErrors'. -/
def iconErrorsCard : Claim7 := { stood := { row := iconErrorsRow, standIns := [], harness := (true, "f08f439bf0ec1cff8de5d98423f218b09cdc665002dd5f9eca0c2b3a1e4caae0"), looks := true }, kinds := [], alts := [], laidByText := true, laidKinds := [.sentinel, .sentinel, .sentinel, .sentinel, .sentinel, .sentinel, .sentinel, .sentinel, .sentinel, .sentinel, .sentinel, .sentinel, .sentinel], laidTests := true, laidLooks := .later }
def IconErrorsCardSaid : Prop := Claim7.holds Tryd.pinned (.plain (OpenSpec.ofChange iconErrorsSpec)) iconErrorsCard

/-- THE TIED CARD OF 'glyphiclaw5.IconLimits'. -/
def iconLimitsCard : Claim7 := { stood := { row := iconLimitsRow, standIns := [], harness := (true, "f08f439bf0ec1cff8de5d98423f218b09cdc665002dd5f9eca0c2b3a1e4caae0"), looks := true }, kinds := [], alts := [], laidByText := true, laidKinds := [.sentinel, .sentinel, .sentinel, .sentinel, .sentinel, .sentinel, .sentinel, .sentinel, .sentinel, .sentinel, .sentinel, .sentinel, .sentinel], laidTests := true, laidLooks := .later }
def IconLimitsCardSaid : Prop := Claim7.holds Tryd.pinned (.plain (OpenSpec.ofChange iconLimitsSpec)) iconLimitsCard

/-- THE TIED CARD OF 'glyphiclaw5.IconFar'. -/
def iconFarCard : Claim7 := { stood := { row := iconFarRow, standIns := [], harness := (true, "f08f439bf0ec1cff8de5d98423f218b09cdc665002dd5f9eca0c2b3a1e4caae0"), looks := true }, kinds := [], alts := [], laidByText := true, laidKinds := [.sentinel, .sentinel, .sentinel, .sentinel, .sentinel, .sentinel, .sentinel, .sentinel, .sentinel, .sentinel, .sentinel, .sentinel, .sentinel], laidTests := true, laidLooks := .later }
def IconFarCardSaid : Prop := Claim7.holds Tryd.pinned (.plain (OpenSpec.ofChange iconFarSpec)) iconFarCard

/-- THE SECOND FORM's CARD OF 'glyphiclaw5.IconErrors'. -/
def iconErrorsUptoCard : Claim7 := { stood := { row := iconErrorsUptoRow, standIns := [], harness := (true, "f08f439bf0ec1cff8de5d98423f218b09cdc665002dd5f9eca0c2b3a1e4caae0"), looks := true }, kinds := [], alts := [], laidByText := true, laidKinds := [.sentinel, .sentinel, .sentinel, .sentinel, .sentinel, .sentinel, .sentinel, .sentinel, .sentinel, .sentinel, .sentinel, .sentinel, .sentinel], laidTests := true, laidLooks := .later }
def IconErrorsUptoCardSaid : Prop := Claim7.holds Tryd.pinned (.plain (OpenSpec.upto iconErrorsSpec)) iconErrorsUptoCard

/-- THE SECOND FORM's CARD OF 'glyphiclaw5.IconLimits'. -/
def iconLimitsUptoCard : Claim7 := { stood := { row := iconLimitsUptoRow, standIns := [], harness := (true, "f08f439bf0ec1cff8de5d98423f218b09cdc665002dd5f9eca0c2b3a1e4caae0"), looks := true }, kinds := [], alts := [], laidByText := true, laidKinds := [.sentinel, .sentinel, .sentinel, .sentinel, .sentinel, .sentinel, .sentinel, .sentinel, .sentinel, .sentinel, .sentinel, .sentinel, .sentinel], laidTests := true, laidLooks := .later }
def IconLimitsUptoCardSaid : Prop := Claim7.holds Tryd.pinned (.plain (OpenSpec.upto iconLimitsSpec)) iconLimitsUptoCard

/-- THE SECOND FORM's CARD OF 'glyphiclaw5.IconFar'. -/
def iconFarUptoCard : Claim7 := { stood := { row := iconFarUptoRow, standIns := [], harness := (true, "f08f439bf0ec1cff8de5d98423f218b09cdc665002dd5f9eca0c2b3a1e4caae0"), looks := true }, kinds := [], alts := [], laidByText := true, laidKinds := [.sentinel, .sentinel, .sentinel, .sentinel, .sentinel, .sentinel, .sentinel, .sentinel, .sentinel, .sentinel, .sentinel, .sentinel, .sentinel], laidTests := true, laidLooks := .later }
def IconFarUptoCardSaid : Prop := Claim7.holds Tryd.pinned (.plain (OpenSpec.upto iconFarSpec)) iconFarUptoCard
end Rows
end Go.Proofs.YtmkipfgglcpfaaaDoor
