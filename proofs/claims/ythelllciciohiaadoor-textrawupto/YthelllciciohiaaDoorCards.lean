/-
  DERIVED. GIVEN WITH THE SEED: THE CARDS: each row of YthelllciciohiaaDoorRows.lean that lists a variable, with what it lists TIED to the program's text (the seventh form; the later family's looks); each row that meets fmt, with fmt's text TOLD by the authors' own Lean function (tested against real Go, not proved from fmt's source: count such statements apart). THE CARD IS WHAT COUNTS. Prove the row's statement (the work); the ties are given (YthelllciciohiaaDoorTie.lean); close each card by the builder's one call (the guide's Derived/Test/ToyasCard.lean, 'card_holds'). Laid BY PROGRAM, IN A SANDBOX (cutbox-door.mjs). By AI agents, Wed Nov 11 2026. No macro, syntax, notation, axiom, sorry.
-/
import Derived.Test.YthelllciciohiaaDoorRows
import GoSem.ClaimSeven
namespace Go.Proofs.YthelllciciohiaaDoor
namespace Rows

/-- THE TIED CARD OF 'maquettelaw07.TextClause'. -/
def textClauseCard : Claim7 := { stood := { row := textClauseRow, standIns := [], harness := (true, "733d5ca295931552afc2e01c702f0142643b0a6843dbbf66b20e4ffc64de1f10"), looks := false }, kinds := [], alts := [], laidByText := true, laidKinds := [.data, .data, .data], laidTests := true, laidLooks := .later }
def TextClauseCardSaid : Prop := Claim7.holds Tryd.pinned (.plain (OpenSpec.ofChange textClauseSpec)) textClauseCard

/-- THE TIED CARD OF 'maquettelaw07.TextConfig'. -/
def textConfigCard : Claim7 := { stood := { row := textConfigRow, standIns := [], harness := (true, "733d5ca295931552afc2e01c702f0142643b0a6843dbbf66b20e4ffc64de1f10"), looks := false }, kinds := [], alts := [], laidByText := true, laidKinds := [.data, .data, .data], laidTests := true, laidLooks := .later }
def TextConfigCardSaid : Prop := Claim7.holds Tryd.pinned (.plain (OpenSpec.ofChange textConfigSpec)) textConfigCard

/-- THE TIED CARD OF 'maquettelaw07.TextRaw'. -/
def textRawCard : Claim7 := { stood := { row := textRawRow, standIns := [], harness := (true, "733d5ca295931552afc2e01c702f0142643b0a6843dbbf66b20e4ffc64de1f10"), looks := false }, kinds := [], alts := [], laidByText := true, laidKinds := [.data, .data, .data], laidTests := true, laidLooks := .later }
def TextRawCardSaid : Prop := Claim7.holds Tryd.pinned (.plain (OpenSpec.ofChange textRawSpec)) textRawCard

/-- THE TIED CARD OF 'maquettelaw07.TextSame'. -/
def textSameCard : Claim7 := { stood := { row := textSameRow, standIns := [], harness := (true, "733d5ca295931552afc2e01c702f0142643b0a6843dbbf66b20e4ffc64de1f10"), looks := false }, kinds := [], alts := [], laidByText := true, laidKinds := [.data, .data, .data], laidTests := true, laidLooks := .later }
def TextSameCardSaid : Prop := Claim7.holds Tryd.pinned (.plain (OpenSpec.ofChange textSameSpec)) textSameCard

/-- THE TIED CARD OF 'maquettelaw07.TextLines'. -/
def textLinesCard : Claim7 := { stood := { row := textLinesRow, standIns := [], harness := (true, "733d5ca295931552afc2e01c702f0142643b0a6843dbbf66b20e4ffc64de1f10"), looks := false }, kinds := [], alts := [], laidByText := true, laidKinds := [.data, .data, .data], laidTests := true, laidLooks := .later }
def TextLinesCardSaid : Prop := Claim7.holds Tryd.pinned (.plain (OpenSpec.ofChange textLinesSpec)) textLinesCard

/-- THE TIED CARD OF 'maquettelaw07.TextParts'. -/
def textPartsCard : Claim7 := { stood := { row := textPartsRow, standIns := [], harness := (true, "733d5ca295931552afc2e01c702f0142643b0a6843dbbf66b20e4ffc64de1f10"), looks := false }, kinds := [], alts := [], laidByText := true, laidKinds := [.data, .data, .data], laidTests := true, laidLooks := .later }
def TextPartsCardSaid : Prop := Claim7.holds Tryd.pinned (.plain (OpenSpec.ofChange textPartsSpec)) textPartsCard

/-- THE SECOND FORM's CARD OF 'maquettelaw07.TextClause'. -/
def textClauseUptoCard : Claim7 := { stood := { row := textClauseUptoRow, standIns := [], harness := (true, "733d5ca295931552afc2e01c702f0142643b0a6843dbbf66b20e4ffc64de1f10"), looks := false }, kinds := [], alts := [], laidByText := true, laidKinds := [.data, .data, .data], laidTests := true, laidLooks := .later }
def TextClauseUptoCardSaid : Prop := Claim7.holds Tryd.pinned (.plain (OpenSpec.upto textClauseSpec)) textClauseUptoCard

/-- THE SECOND FORM's CARD OF 'maquettelaw07.TextConfig'. -/
def textConfigUptoCard : Claim7 := { stood := { row := textConfigUptoRow, standIns := [], harness := (true, "733d5ca295931552afc2e01c702f0142643b0a6843dbbf66b20e4ffc64de1f10"), looks := false }, kinds := [], alts := [], laidByText := true, laidKinds := [.data, .data, .data], laidTests := true, laidLooks := .later }
def TextConfigUptoCardSaid : Prop := Claim7.holds Tryd.pinned (.plain (OpenSpec.upto textConfigSpec)) textConfigUptoCard

/-- THE SECOND FORM's CARD OF 'maquettelaw07.TextRaw'. -/
def textRawUptoCard : Claim7 := { stood := { row := textRawUptoRow, standIns := [], harness := (true, "733d5ca295931552afc2e01c702f0142643b0a6843dbbf66b20e4ffc64de1f10"), looks := false }, kinds := [], alts := [], laidByText := true, laidKinds := [.data, .data, .data], laidTests := true, laidLooks := .later }
def TextRawUptoCardSaid : Prop := Claim7.holds Tryd.pinned (.plain (OpenSpec.upto textRawSpec)) textRawUptoCard

/-- THE SECOND FORM's CARD OF 'maquettelaw07.TextSame'. -/
def textSameUptoCard : Claim7 := { stood := { row := textSameUptoRow, standIns := [], harness := (true, "733d5ca295931552afc2e01c702f0142643b0a6843dbbf66b20e4ffc64de1f10"), looks := false }, kinds := [], alts := [], laidByText := true, laidKinds := [.data, .data, .data], laidTests := true, laidLooks := .later }
def TextSameUptoCardSaid : Prop := Claim7.holds Tryd.pinned (.plain (OpenSpec.upto textSameSpec)) textSameUptoCard

/-- THE SECOND FORM's CARD OF 'maquettelaw07.TextLines'. -/
def textLinesUptoCard : Claim7 := { stood := { row := textLinesUptoRow, standIns := [], harness := (true, "733d5ca295931552afc2e01c702f0142643b0a6843dbbf66b20e4ffc64de1f10"), looks := false }, kinds := [], alts := [], laidByText := true, laidKinds := [.data, .data, .data], laidTests := true, laidLooks := .later }
def TextLinesUptoCardSaid : Prop := Claim7.holds Tryd.pinned (.plain (OpenSpec.upto textLinesSpec)) textLinesUptoCard

/-- THE SECOND FORM's CARD OF 'maquettelaw07.TextParts'. -/
def textPartsUptoCard : Claim7 := { stood := { row := textPartsUptoRow, standIns := [], harness := (true, "733d5ca295931552afc2e01c702f0142643b0a6843dbbf66b20e4ffc64de1f10"), looks := false }, kinds := [], alts := [], laidByText := true, laidKinds := [.data, .data, .data], laidTests := true, laidLooks := .later }
def TextPartsUptoCardSaid : Prop := Claim7.holds Tryd.pinned (.plain (OpenSpec.upto textPartsSpec)) textPartsUptoCard
end Rows
end Go.Proofs.YthelllciciohiaaDoor
