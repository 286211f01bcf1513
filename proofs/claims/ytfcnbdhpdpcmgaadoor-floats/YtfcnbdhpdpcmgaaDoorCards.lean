/-
  DERIVED. GIVEN WITH THE SEED: THE CARDS: each row of YtfcnbdhpdpcmgaaDoorRows.lean that lists a variable, with what it lists TIED to the program's text (the seventh form; the later family's looks); each row that meets fmt, with fmt's text TOLD by the authors' own Lean function (tested against real Go, not proved from fmt's source: count such statements apart). THE CARD IS WHAT COUNTS. Prove the row's statement (the work); the ties are given (YtfcnbdhpdpcmgaaDoorTie.lean); close each card by the builder's one call (the guide's Derived/Test/ToyasCard.lean, 'card_holds'). Laid BY PROGRAM, IN A SANDBOX (cutbox-door.mjs). By AI agents, Wed Nov 11 2026. No macro, syntax, notation, axiom, sorry.
-/
import Derived.Test.YtfcnbdhpdpcmgaaDoorRows
import GoSem.ClaimSeven
namespace Go.Proofs.YtfcnbdhpdpcmgaaDoor
namespace Rows

/-- THE TIED CARD OF 'signetkeep.Encoded'. -/
def encodedCard : Claim7 := { stood := { row := encodedRow, standIns := [], harness := (true, "d2028e098aff7d1966aca90150bdc7ef634523bac827ead41dbd8177ae669244"), looks := false }, kinds := [], alts := [], laidByText := true, laidKinds := [.wider, .wider, .data], laidTests := true, laidLooks := .later }
def EncodedCardSaid : Prop := Claim7.holds Tryd.pinned (.plain (OpenSpec.ofChange encodedSpec)) encodedCard

/-- THE TIED CARD OF 'signetkeep.Decoded'. -/
def decodedCard : Claim7 := { stood := { row := decodedRow, standIns := [], harness := (true, "d2028e098aff7d1966aca90150bdc7ef634523bac827ead41dbd8177ae669244"), looks := false }, kinds := [], alts := [], laidByText := true, laidKinds := [.wider, .wider, .data], laidTests := true, laidLooks := .later }
def DecodedCardSaid : Prop := Claim7.holds Tryd.pinned (.plain (OpenSpec.ofChange decodedSpec)) decodedCard

/-- THE TIED CARD OF 'signetkeep.Heads'. -/
def headsCard : Claim7 := { stood := { row := headsRow, standIns := [], harness := (true, "d2028e098aff7d1966aca90150bdc7ef634523bac827ead41dbd8177ae669244"), looks := false }, kinds := [], alts := [], laidByText := true, laidKinds := [.wider, .wider, .data], laidTests := true, laidLooks := .later }
def HeadsCardSaid : Prop := Claim7.holds Tryd.pinned (.plain (OpenSpec.ofChange headsSpec)) headsCard

/-- THE TIED CARD OF 'signetkeep.Floats'. -/
def floatsCard : Claim7 := { stood := { row := floatsRow, standIns := [], harness := (true, "d2028e098aff7d1966aca90150bdc7ef634523bac827ead41dbd8177ae669244"), looks := false }, kinds := [], alts := [], laidByText := true, laidKinds := [.wider, .wider, .data], laidTests := true, laidLooks := .later }
def FloatsCardSaid : Prop := Claim7.holds Tryd.pinned (.plain (OpenSpec.ofChange floatsSpec)) floatsCard

/-- THE SECOND FORM's CARD OF 'signetkeep.Encoded'. -/
def encodedUptoCard : Claim7 := { stood := { row := encodedUptoRow, standIns := [], harness := (true, "d2028e098aff7d1966aca90150bdc7ef634523bac827ead41dbd8177ae669244"), looks := false }, kinds := [], alts := [], laidByText := true, laidKinds := [.wider, .wider, .data], laidTests := true, laidLooks := .later }
def EncodedUptoCardSaid : Prop := Claim7.holds Tryd.pinned (.plain (OpenSpec.upto encodedSpec)) encodedUptoCard

/-- THE SECOND FORM's CARD OF 'signetkeep.Decoded'. -/
def decodedUptoCard : Claim7 := { stood := { row := decodedUptoRow, standIns := [], harness := (true, "d2028e098aff7d1966aca90150bdc7ef634523bac827ead41dbd8177ae669244"), looks := false }, kinds := [], alts := [], laidByText := true, laidKinds := [.wider, .wider, .data], laidTests := true, laidLooks := .later }
def DecodedUptoCardSaid : Prop := Claim7.holds Tryd.pinned (.plain (OpenSpec.upto decodedSpec)) decodedUptoCard

/-- THE SECOND FORM's CARD OF 'signetkeep.Heads'. -/
def headsUptoCard : Claim7 := { stood := { row := headsUptoRow, standIns := [], harness := (true, "d2028e098aff7d1966aca90150bdc7ef634523bac827ead41dbd8177ae669244"), looks := false }, kinds := [], alts := [], laidByText := true, laidKinds := [.wider, .wider, .data], laidTests := true, laidLooks := .later }
def HeadsUptoCardSaid : Prop := Claim7.holds Tryd.pinned (.plain (OpenSpec.upto headsSpec)) headsUptoCard

/-- THE SECOND FORM's CARD OF 'signetkeep.Floats'. -/
def floatsUptoCard : Claim7 := { stood := { row := floatsUptoRow, standIns := [], harness := (true, "d2028e098aff7d1966aca90150bdc7ef634523bac827ead41dbd8177ae669244"), looks := false }, kinds := [], alts := [], laidByText := true, laidKinds := [.wider, .wider, .data], laidTests := true, laidLooks := .later }
def FloatsUptoCardSaid : Prop := Claim7.holds Tryd.pinned (.plain (OpenSpec.upto floatsSpec)) floatsUptoCard
end Rows
end Go.Proofs.YtfcnbdhpdpcmgaaDoor
