/-
  DERIVED. GIVEN WITH THE SEED: THE CARDS: each row of YtahjkkegbcalnaaDoorRows.lean that lists a variable, with what it lists TIED to the program's text (the seventh form; the later family's looks); each row that meets fmt, with fmt's text TOLD by the authors' own Lean function (tested against real Go, not proved from fmt's source: count such statements apart). THE CARD IS WHAT COUNTS. Prove the row's statement (the work); the ties are given (YtahjkkegbcalnaaDoorTie.lean); close each card by the builder's one call (the guide's Derived/Test/ToyasCard.lean, 'card_holds'). Laid BY PROGRAM, IN A SANDBOX (cutbox-door.mjs). By AI agents, Wed Nov 11 2026. No macro, syntax, notation, axiom, sorry.
-/
import Derived.Test.YtahjkkegbcalnaaDoorRows
import GoSem.ClaimSeven
namespace Go.Proofs.YtahjkkegbcalnaaDoor
namespace Rows

/-- THE TIED CARD OF 'maquettelaw03.ComposeNone'. -/
def composeNoneCard : Claim7 := { stood := { row := composeNoneRow, standIns := [], harness := (true, "5e54c6c85d9c76d86963fd89f624bdf450150c6b38813b5edabf794082514cfa"), looks := true }, kinds := [], alts := [], laidByText := true, laidKinds := [.handle], laidTests := true, laidLooks := .later }
def ComposeNoneCardSaid : Prop := Claim7.holds Tryd.pinned (.plain (OpenSpec.ofChange composeNoneSpec)) composeNoneCard

/-- THE SECOND FORM's CARD OF 'maquettelaw03.ComposeNone'. -/
def composeNoneUptoCard : Claim7 := { stood := { row := composeNoneUptoRow, standIns := [], harness := (true, "5e54c6c85d9c76d86963fd89f624bdf450150c6b38813b5edabf794082514cfa"), looks := true }, kinds := [], alts := [], laidByText := true, laidKinds := [.handle], laidTests := true, laidLooks := .later }
def ComposeNoneUptoCardSaid : Prop := Claim7.holds Tryd.pinned (.plain (OpenSpec.upto composeNoneSpec)) composeNoneUptoCard
end Rows
end Go.Proofs.YtahjkkegbcalnaaDoor
