/-
  DERIVED. GIVEN WITH THE SEED: THE CARDS: each row of YthlbelpooplgeaaDoorRows.lean that lists a variable, with what it lists TIED to the program's text (the seventh form; the later family's looks); each row that meets fmt, with fmt's text TOLD by the authors' own Lean function (tested against real Go, not proved from fmt's source: count such statements apart). THE CARD IS WHAT COUNTS. Prove the row's statement (the work); the ties are given (YthlbelpooplgeaaDoorTie.lean); close each card by the builder's one call (the guide's Derived/Test/ToyasCard.lean, 'card_holds'). Laid BY PROGRAM, IN A SANDBOX (cutbox-door.mjs). By AI agents, Wed Nov 11 2026. No macro, syntax, notation, axiom, sorry.
-/
import Derived.Test.YthlbelpooplgeaaDoorRows
import GoSem.ClaimSeven
namespace Go.Proofs.YthlbelpooplgeaaDoor
namespace Rows

/-- THE TIED CARD OF 'maquettelaw01.ArenaScript'. -/
def arenaScriptCard : Claim7 := { stood := { row := arenaScriptRow, standIns := [], harness := (true, "cd41e93062b37792daeec2a29ac7765098742747ca7322a1a5903c423331ea4b"), looks := true }, kinds := [], alts := [], laidByText := true, laidKinds := [.handle], laidTests := true, laidLooks := .later }
def ArenaScriptCardSaid : Prop := Claim7.holds Tryd.pinned (.plain (OpenSpec.ofChange arenaScriptSpec)) arenaScriptCard

/-- THE TIED CARD OF 'maquettelaw01.ArenaLimits'. -/
def arenaLimitsCard : Claim7 := { stood := { row := arenaLimitsRow, standIns := [], harness := (true, "cd41e93062b37792daeec2a29ac7765098742747ca7322a1a5903c423331ea4b"), looks := true }, kinds := [], alts := [], laidByText := true, laidKinds := [.handle], laidTests := true, laidLooks := .later }
def ArenaLimitsCardSaid : Prop := Claim7.holds Tryd.pinned (.plain (OpenSpec.ofChange arenaLimitsSpec)) arenaLimitsCard

/-- THE TIED CARD OF 'maquettelaw01.ArenaVariable'. -/
def arenaVariableCard : Claim7 := { stood := { row := arenaVariableRow, standIns := [], harness := (true, "cd41e93062b37792daeec2a29ac7765098742747ca7322a1a5903c423331ea4b"), looks := true }, kinds := [], alts := [], laidByText := true, laidKinds := [.handle], laidTests := true, laidLooks := .later }
def ArenaVariableCardSaid : Prop := Claim7.holds Tryd.pinned (.plain (OpenSpec.ofChange arenaVariableSpec)) arenaVariableCard

/-- THE SECOND FORM's CARD OF 'maquettelaw01.ArenaScript'. -/
def arenaScriptUptoCard : Claim7 := { stood := { row := arenaScriptUptoRow, standIns := [], harness := (true, "cd41e93062b37792daeec2a29ac7765098742747ca7322a1a5903c423331ea4b"), looks := true }, kinds := [], alts := [], laidByText := true, laidKinds := [.handle], laidTests := true, laidLooks := .later }
def ArenaScriptUptoCardSaid : Prop := Claim7.holds Tryd.pinned (.plain (OpenSpec.upto arenaScriptSpec)) arenaScriptUptoCard

/-- THE SECOND FORM's CARD OF 'maquettelaw01.ArenaLimits'. -/
def arenaLimitsUptoCard : Claim7 := { stood := { row := arenaLimitsUptoRow, standIns := [], harness := (true, "cd41e93062b37792daeec2a29ac7765098742747ca7322a1a5903c423331ea4b"), looks := true }, kinds := [], alts := [], laidByText := true, laidKinds := [.handle], laidTests := true, laidLooks := .later }
def ArenaLimitsUptoCardSaid : Prop := Claim7.holds Tryd.pinned (.plain (OpenSpec.upto arenaLimitsSpec)) arenaLimitsUptoCard

/-- THE SECOND FORM's CARD OF 'maquettelaw01.ArenaVariable'. -/
def arenaVariableUptoCard : Claim7 := { stood := { row := arenaVariableUptoRow, standIns := [], harness := (true, "cd41e93062b37792daeec2a29ac7765098742747ca7322a1a5903c423331ea4b"), looks := true }, kinds := [], alts := [], laidByText := true, laidKinds := [.handle], laidTests := true, laidLooks := .later }
def ArenaVariableUptoCardSaid : Prop := Claim7.holds Tryd.pinned (.plain (OpenSpec.upto arenaVariableSpec)) arenaVariableUptoCard
end Rows
end Go.Proofs.YthlbelpooplgeaaDoor
