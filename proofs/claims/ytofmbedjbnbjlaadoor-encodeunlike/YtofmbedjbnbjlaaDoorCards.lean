/-
  DERIVED. GIVEN WITH THE SEED: THE CARDS: each row of YtofmbedjbnbjlaaDoorRows.lean that lists a variable, with what it lists TIED to the program's text (the seventh form; the later family's looks); each row that meets fmt, with fmt's text TOLD by the authors' own Lean function (tested against real Go, not proved from fmt's source: count such statements apart). THE CARD IS WHAT COUNTS. Prove the row's statement (the work); the ties are given (YtofmbedjbnbjlaaDoorTie.lean); close each card by the builder's one call (the guide's Derived/Test/ToyasCard.lean, 'card_holds'). Laid BY PROGRAM, IN A SANDBOX (cutbox-door.mjs). By AI agents, Wed Nov 11 2026. No macro, syntax, notation, axiom, sorry.
-/
import Derived.Test.YtofmbedjbnbjlaaDoorRows
import GoSem.ClaimSeven
namespace Go.Proofs.YtofmbedjbnbjlaaDoor
namespace Rows

/-- THE TIED CARD OF 'glyphiclaw6.EncodeSays'. -/
def encodeSaysCard : Claim7 := { stood := { row := encodeSaysRow, standIns := [], harness := (true, "365999b51a82970cf0122191dac4f021e004cd729fda50060bae0eb2061fc515"), looks := true }, kinds := [], alts := [], laidByText := true, laidKinds := [.sentinel, .sentinel, .sentinel, .sentinel, .sentinel, .sentinel, .sentinel, .sentinel, .sentinel, .sentinel, .sentinel, .sentinel, .sentinel], laidTests := true, laidLooks := .later }
def EncodeSaysCardSaid : Prop := Claim7.holds Tryd.pinned (.plain (OpenSpec.ofChange encodeSaysSpec)) encodeSaysCard

/-- THE TIED CARD OF 'glyphiclaw6.EncodeUnlike'. -/
def encodeUnlikeCard : Claim7 := { stood := { row := encodeUnlikeRow, standIns := [], harness := (true, "365999b51a82970cf0122191dac4f021e004cd729fda50060bae0eb2061fc515"), looks := true }, kinds := [], alts := [], laidByText := true, laidKinds := [.sentinel, .sentinel, .sentinel], laidTests := true, laidLooks := .later }
def EncodeUnlikeCardSaid : Prop := Claim7.holds Tryd.pinned (.plain (OpenSpec.ofChange encodeUnlikeSpec)) encodeUnlikeCard

/-- THE TIED CARD OF 'glyphiclaw6.EncodeRuns'. -/
def encodeRunsCard : Claim7 := { stood := { row := encodeRunsRow, standIns := [], harness := (true, "365999b51a82970cf0122191dac4f021e004cd729fda50060bae0eb2061fc515"), looks := true }, kinds := [], alts := [], laidByText := true, laidKinds := [.sentinel, .sentinel, .sentinel], laidTests := true, laidLooks := .later }
def EncodeRunsCardSaid : Prop := Claim7.holds Tryd.pinned (.plain (OpenSpec.ofChange encodeRunsSpec)) encodeRunsCard

/-- THE TIED CARD OF 'glyphiclaw6.EncodeHeads'. -/
def encodeHeadsCard : Claim7 := { stood := { row := encodeHeadsRow, standIns := [], harness := (true, "365999b51a82970cf0122191dac4f021e004cd729fda50060bae0eb2061fc515"), looks := true }, kinds := [], alts := [], laidByText := true, laidKinds := [.sentinel, .sentinel, .sentinel], laidTests := true, laidLooks := .later }
def EncodeHeadsCardSaid : Prop := Claim7.holds Tryd.pinned (.plain (OpenSpec.ofChange encodeHeadsSpec)) encodeHeadsCard

/-- THE TIED CARD OF 'glyphiclaw6.EncodeShort'. -/
def encodeShortCard : Claim7 := { stood := { row := encodeShortRow, standIns := [], harness := (true, "365999b51a82970cf0122191dac4f021e004cd729fda50060bae0eb2061fc515"), looks := true }, kinds := [], alts := [], laidByText := true, laidKinds := [.sentinel, .sentinel, .sentinel], laidTests := true, laidLooks := .later }
def EncodeShortCardSaid : Prop := Claim7.holds Tryd.pinned (.plain (OpenSpec.ofChange encodeShortSpec)) encodeShortCard

/-- THE TIED CARD OF 'glyphiclaw5.IconErrors'. -/
def iconErrorsCard : Claim7 := { stood := { row := iconErrorsRow, standIns := [], harness := (true, "365999b51a82970cf0122191dac4f021e004cd729fda50060bae0eb2061fc515"), looks := true }, kinds := [], alts := [], laidByText := true, laidKinds := [.sentinel, .sentinel, .sentinel, .sentinel, .sentinel, .sentinel, .sentinel, .sentinel, .sentinel, .sentinel, .sentinel, .sentinel, .sentinel], laidTests := true, laidLooks := .later }
def IconErrorsCardSaid : Prop := Claim7.holds Tryd.pinned (.plain (OpenSpec.ofChange iconErrorsSpec)) iconErrorsCard

/-- THE SECOND FORM's CARD OF 'glyphiclaw6.EncodeSays'. -/
def encodeSaysUptoCard : Claim7 := { stood := { row := encodeSaysUptoRow, standIns := [], harness := (true, "365999b51a82970cf0122191dac4f021e004cd729fda50060bae0eb2061fc515"), looks := true }, kinds := [], alts := [], laidByText := true, laidKinds := [.sentinel, .sentinel, .sentinel, .sentinel, .sentinel, .sentinel, .sentinel, .sentinel, .sentinel, .sentinel, .sentinel, .sentinel, .sentinel], laidTests := true, laidLooks := .later }
def EncodeSaysUptoCardSaid : Prop := Claim7.holds Tryd.pinned (.plain (OpenSpec.upto encodeSaysSpec)) encodeSaysUptoCard

/-- THE SECOND FORM's CARD OF 'glyphiclaw6.EncodeUnlike'. -/
def encodeUnlikeUptoCard : Claim7 := { stood := { row := encodeUnlikeUptoRow, standIns := [], harness := (true, "365999b51a82970cf0122191dac4f021e004cd729fda50060bae0eb2061fc515"), looks := true }, kinds := [], alts := [], laidByText := true, laidKinds := [.sentinel, .sentinel, .sentinel], laidTests := true, laidLooks := .later }
def EncodeUnlikeUptoCardSaid : Prop := Claim7.holds Tryd.pinned (.plain (OpenSpec.upto encodeUnlikeSpec)) encodeUnlikeUptoCard

/-- THE SECOND FORM's CARD OF 'glyphiclaw6.EncodeRuns'. -/
def encodeRunsUptoCard : Claim7 := { stood := { row := encodeRunsUptoRow, standIns := [], harness := (true, "365999b51a82970cf0122191dac4f021e004cd729fda50060bae0eb2061fc515"), looks := true }, kinds := [], alts := [], laidByText := true, laidKinds := [.sentinel, .sentinel, .sentinel], laidTests := true, laidLooks := .later }
def EncodeRunsUptoCardSaid : Prop := Claim7.holds Tryd.pinned (.plain (OpenSpec.upto encodeRunsSpec)) encodeRunsUptoCard

/-- THE SECOND FORM's CARD OF 'glyphiclaw6.EncodeHeads'. -/
def encodeHeadsUptoCard : Claim7 := { stood := { row := encodeHeadsUptoRow, standIns := [], harness := (true, "365999b51a82970cf0122191dac4f021e004cd729fda50060bae0eb2061fc515"), looks := true }, kinds := [], alts := [], laidByText := true, laidKinds := [.sentinel, .sentinel, .sentinel], laidTests := true, laidLooks := .later }
def EncodeHeadsUptoCardSaid : Prop := Claim7.holds Tryd.pinned (.plain (OpenSpec.upto encodeHeadsSpec)) encodeHeadsUptoCard

/-- THE SECOND FORM's CARD OF 'glyphiclaw6.EncodeShort'. -/
def encodeShortUptoCard : Claim7 := { stood := { row := encodeShortUptoRow, standIns := [], harness := (true, "365999b51a82970cf0122191dac4f021e004cd729fda50060bae0eb2061fc515"), looks := true }, kinds := [], alts := [], laidByText := true, laidKinds := [.sentinel, .sentinel, .sentinel], laidTests := true, laidLooks := .later }
def EncodeShortUptoCardSaid : Prop := Claim7.holds Tryd.pinned (.plain (OpenSpec.upto encodeShortSpec)) encodeShortUptoCard

/-- THE SECOND FORM's CARD OF 'glyphiclaw5.IconErrors'. -/
def iconErrorsUptoCard : Claim7 := { stood := { row := iconErrorsUptoRow, standIns := [], harness := (true, "365999b51a82970cf0122191dac4f021e004cd729fda50060bae0eb2061fc515"), looks := true }, kinds := [], alts := [], laidByText := true, laidKinds := [.sentinel, .sentinel, .sentinel, .sentinel, .sentinel, .sentinel, .sentinel, .sentinel, .sentinel, .sentinel, .sentinel, .sentinel, .sentinel], laidTests := true, laidLooks := .later }
def IconErrorsUptoCardSaid : Prop := Claim7.holds Tryd.pinned (.plain (OpenSpec.upto iconErrorsSpec)) iconErrorsUptoCard
end Rows
end Go.Proofs.YtofmbedjbnbjlaaDoor
