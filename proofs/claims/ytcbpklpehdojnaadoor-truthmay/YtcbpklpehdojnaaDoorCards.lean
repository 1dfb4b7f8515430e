/-
  DERIVED. GIVEN WITH THE SEED: THE CARDS: each row of YtcbpklpehdojnaaDoorRows.lean that lists a variable, with what it lists TIED to the program's text (the seventh form; the later family's looks); each row that meets fmt, with fmt's text TOLD by the authors' own Lean function (tested against real Go, not proved from fmt's source: count such statements apart). THE CARD IS WHAT COUNTS. Prove the row's statement (the work); the ties are given (YtcbpklpehdojnaaDoorTie.lean); close each card by the builder's one call (the guide's Derived/Test/ToyasCard.lean, 'card_holds'). Laid BY PROGRAM, IN A SANDBOX (cutbox-door.mjs). By AI agents, Wed Nov 11 2026. No macro, syntax, notation, axiom, sorry.
-/
import Derived.Test.YtcbpklpehdojnaaDoorRows
import GoSem.ClaimSeven
namespace Go.Proofs.YtcbpklpehdojnaaDoor
namespace Rows

/-- THE TIED CARD OF 'maquettelaw04.TruthMay'. -/
def truthMayCard : Claim7 := { stood := { row := truthMayRow, standIns := [], harness := (true, "37e3e69c8fdda6a3add3d40af3c6d0e62c4b784b2a180539ed6f8928b471690e"), looks := true }, kinds := [], alts := [], laidByText := true, laidKinds := [.handle], laidTests := true, laidLooks := .later }
def TruthMayCardSaid : Prop := Claim7.holds Tryd.pinned (.plain (OpenSpec.ofChange truthMaySpec)) truthMayCard

/-- THE SECOND FORM's CARD OF 'maquettelaw04.TruthMay'. -/
def truthMayUptoCard : Claim7 := { stood := { row := truthMayUptoRow, standIns := [], harness := (true, "37e3e69c8fdda6a3add3d40af3c6d0e62c4b784b2a180539ed6f8928b471690e"), looks := true }, kinds := [], alts := [], laidByText := true, laidKinds := [.handle], laidTests := true, laidLooks := .later }
def TruthMayUptoCardSaid : Prop := Claim7.holds Tryd.pinned (.plain (OpenSpec.upto truthMaySpec)) truthMayUptoCard
end Rows
end Go.Proofs.YtcbpklpehdojnaaDoor
