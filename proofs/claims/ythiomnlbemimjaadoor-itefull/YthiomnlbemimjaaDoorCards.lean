/-
  DERIVED. GIVEN WITH THE SEED: THE CARDS: each row of YthiomnlbemimjaaDoorRows.lean that lists a variable, with what it lists TIED to the program's text (the seventh form; the later family's looks); each row that meets fmt, with fmt's text TOLD by the authors' own Lean function (tested against real Go, not proved from fmt's source: count such statements apart). THE CARD IS WHAT COUNTS. Prove the row's statement (the work); the ties are given (YthiomnlbemimjaaDoorTie.lean); close each card by the builder's one call (the guide's Derived/Test/ToyasCard.lean, 'card_holds'). Laid BY PROGRAM, IN A SANDBOX (cutbox-door.mjs). By AI agents, Wed Nov 11 2026. No macro, syntax, notation, axiom, sorry.
-/
import Derived.Test.YthiomnlbemimjaaDoorRows
import GoSem.ClaimSeven
namespace Go.Proofs.YthiomnlbemimjaaDoor
namespace Rows

/-- THE TIED CARD OF 'maquettelaw02.IteFull'. -/
def iteFullCard : Claim7 := { stood := { row := iteFullRow, standIns := [], harness := (true, "bb78648e16fae40acc24876c409b769164966a1609fb95ed4b85a785258086cd"), looks := true }, kinds := [], alts := [], laidByText := true, laidKinds := [.handle], laidTests := true, laidLooks := .later }
def IteFullCardSaid : Prop := Claim7.holds Tryd.pinned (.plain (OpenSpec.ofChange iteFullSpec)) iteFullCard

/-- THE SECOND FORM's CARD OF 'maquettelaw02.IteFull'. -/
def iteFullUptoCard : Claim7 := { stood := { row := iteFullUptoRow, standIns := [], harness := (true, "bb78648e16fae40acc24876c409b769164966a1609fb95ed4b85a785258086cd"), looks := true }, kinds := [], alts := [], laidByText := true, laidKinds := [.handle], laidTests := true, laidLooks := .later }
def IteFullUptoCardSaid : Prop := Claim7.holds Tryd.pinned (.plain (OpenSpec.upto iteFullSpec)) iteFullUptoCard
end Rows
end Go.Proofs.YthiomnlbemimjaaDoor
