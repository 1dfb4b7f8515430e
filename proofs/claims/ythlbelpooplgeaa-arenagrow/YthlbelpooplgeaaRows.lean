/-
  No cell of these rows narrows 'for every input' (looked for: loops, veiled, ifaces, maps, wideKeys, modest, calm, conditions, laid).
  DERIVED. THE GIVEN ROWS OF THIS SEAT. 3 by the template 'for every input the law returns true; each argument reads behind the call as it read before'; 0 by the template 'total and deterministic' (their statements: YthlbelpooplgeaaTotals.lean).
  GIVEN WITH THE SEED: the statements are not yours to turn. If you find one false, say at which input.
  Laid BY PROGRAM, IN A SANDBOX (cutbox-rows.mjs): the forced cells as the released guide's own fill.sh prints them over the translation 8c2c309c40aee3ee… (all of the seat's roots in one cut). By AI agents, Wed Nov 11 2026. No macro, syntax, notation, axiom, sorry.
-/
import Derived.Test.YthlbelpooplgeaaChecked
import GoSem.Claim
import GoSem.ClaimJoined
import GoSem.ClaimMapViews
import Derived.JoinedTies
import Derived.KernelRfl
namespace Go.Proofs.Ythlbelpooplgeaa
/- THE CELL 'sum', in the pinned program and in every row, IS THE sha256 OF THE DUMP (.gsa) THAT YthlbelpooplgeaaProg.lean LOADS. Nothing in Lean hashes anything: it is a label: what it is worth is what the hold of that sum in a sandbox is worth. -/
noncomputable def Try.pinned : Pinned := { name := "ythlbelpooplgeaa", sum := "8c2c309c40aee3eeba871107e1f504a6bfcaa14ee9b017e6ad12d6e625fa4152", checked := Try.checked }
namespace Rows
def none {H : Type} : Left H := { results := [], args := [] }

/-- 'maquettelaw01.ArenaEval': WHATEVER THE INPUT: true; the input reads as it did. -/
def arenaEvalSpec : ChangeSpec := { name := "arenaEval", fn := fun _ => fun
  | [d1, d2] => { results := [.lit (.bool true)], args := [d1, d2] }
  | _ => none }
def arenaEvalRow : OpenClaim := { program := "ythlbelpooplgeaa", sum := "8c2c309c40aee3eeba871107e1f504a6bfcaa14ee9b017e6ad12d6e625fa4152", func := "maquette/maquettelaw01.ArenaEval", spec := "arenaEval", unfollowed := true, recurses := true, plainKeys := false, apart := false }
def ArenaEvalSaid : Prop := arenaEvalRow.holds Try.pinned (OpenSpec.ofChange arenaEvalSpec)

/-- ITS FALSE NEIGHBOUR: 'it returns false'. Refute it at one input. -/
def arenaEvalWrong : ChangeSpec := { name := "arenaEval", fn := fun _ => fun
  | [d1, d2] => { results := [.lit (.bool false)], args := [d1, d2] }
  | _ => none }
def ArenaEvalWrongFalsely : Prop := arenaEvalRow.holds Try.pinned (OpenSpec.ofChange arenaEvalWrong)

/-- 'maquettelaw01.ArenaOrder': WHATEVER THE INPUT: true; the input reads as it did. -/
def arenaOrderSpec : ChangeSpec := { name := "arenaOrder", fn := fun _ => fun
  | [d1, d2] => { results := [.lit (.bool true)], args := [d1, d2] }
  | _ => none }
def arenaOrderRow : OpenClaim := { program := "ythlbelpooplgeaa", sum := "8c2c309c40aee3eeba871107e1f504a6bfcaa14ee9b017e6ad12d6e625fa4152", func := "maquette/maquettelaw01.ArenaOrder", spec := "arenaOrder", unfollowed := true, recurses := true, plainKeys := false, apart := false }
def ArenaOrderSaid : Prop := arenaOrderRow.holds Try.pinned (OpenSpec.ofChange arenaOrderSpec)

/-- ITS FALSE NEIGHBOUR: 'it returns false'. Refute it at one input. -/
def arenaOrderWrong : ChangeSpec := { name := "arenaOrder", fn := fun _ => fun
  | [d1, d2] => { results := [.lit (.bool false)], args := [d1, d2] }
  | _ => none }
def ArenaOrderWrongFalsely : Prop := arenaOrderRow.holds Try.pinned (OpenSpec.ofChange arenaOrderWrong)

/-- 'maquettelaw01.ArenaGrow': WHATEVER THE INPUT: true; the input reads as it did. -/
def arenaGrowSpec : ChangeSpec := { name := "arenaGrow", fn := fun _ => fun
  | [d] => { results := [.lit (.bool true)], args := [d] }
  | _ => none }
def arenaGrowRow : OpenClaim := { program := "ythlbelpooplgeaa", sum := "8c2c309c40aee3eeba871107e1f504a6bfcaa14ee9b017e6ad12d6e625fa4152", func := "maquette/maquettelaw01.ArenaGrow", spec := "arenaGrow", unfollowed := true, recurses := true, plainKeys := false, apart := false }
def ArenaGrowSaid : Prop := arenaGrowRow.holds Try.pinned (OpenSpec.ofChange arenaGrowSpec)

/-- ITS FALSE NEIGHBOUR: 'it returns false'. Refute it at one input. -/
def arenaGrowWrong : ChangeSpec := { name := "arenaGrow", fn := fun _ => fun
  | [d] => { results := [.lit (.bool false)], args := [d] }
  | _ => none }
def ArenaGrowWrongFalsely : Prop := arenaGrowRow.holds Try.pinned (OpenSpec.ofChange arenaGrowWrong)

/- THE SECOND FORM. 'bulk': how many values and letters a reading holds, each counted each time it is reached (what is shared counts as often as it is met; a slice's spare places count too). A statement '..UptoSaid' is the law's where the arguments, and the package variables that the reading takes, are together of bulk at most 1048576: NARROWER than '..Said'. Prove '..Said' where nothing that the law and all that it calls make is longer than what came in: it says more and counts as full. Else prove '..UptoSaid'. A law counts once. -/
mutual
def uptoBulk {H : Type} : DataW H → Nat
  | .lit (.string bytes) => bytes.length + 1
  | .lit _ => 1
  | .nil => 1
  | .ptr d => uptoBulk d + 1
  | .slice elems spare => uptoBulkAll elems + uptoBulkAll spare + 1
  | .agg parts => uptoBulkAll parts + 1
  | .iface _ d => uptoBulk d + 1
  | .map entries => uptoBulkEntries entries + 1
  | .held _ => 1
def uptoBulkAll {H : Type} : List (DataW H) → Nat
  | [] => 0
  | d :: r => uptoBulk d + uptoBulkAll r
def uptoBulkEntries {H : Type} : List (Lit × DataW H) → Nat
  | [] => 0
  | x :: r => uptoBulkEntry x + uptoBulkEntries r
def uptoBulkEntry {H : Type} : Lit × DataW H → Nat
  | (.string bytes, d) => bytes.length + uptoBulk d + 1
  | (_, d) => uptoBulk d + 1
 end
def uptoSmall : (H : Type) → List (DataW H) → Bool := fun _ ds => decide (uptoBulkAll ds ≤ 1048576)
def OpenSpec.upto (s : _root_.Go.ChangeSpec) : _root_.Go.OpenSpec := { _root_.Go.OpenSpec.ofChange s with cond := some uptoSmall }

/-- 'maquettelaw01.ArenaEval', WHERE WHAT IT READS IS OF BULK AT MOST 1048576: true; the input reads as it did. -/
def arenaEvalUptoRow : OpenClaim := { program := "ythlbelpooplgeaa", sum := "8c2c309c40aee3eeba871107e1f504a6bfcaa14ee9b017e6ad12d6e625fa4152", func := "maquette/maquettelaw01.ArenaEval", spec := "arenaEval", unfollowed := true, recurses := true, plainKeys := false, apart := false, narrowed := true }
def ArenaEvalUptoSaid : Prop := arenaEvalUptoRow.holds Try.pinned (OpenSpec.upto arenaEvalSpec)

/-- 'maquettelaw01.ArenaOrder', WHERE WHAT IT READS IS OF BULK AT MOST 1048576: true; the input reads as it did. -/
def arenaOrderUptoRow : OpenClaim := { program := "ythlbelpooplgeaa", sum := "8c2c309c40aee3eeba871107e1f504a6bfcaa14ee9b017e6ad12d6e625fa4152", func := "maquette/maquettelaw01.ArenaOrder", spec := "arenaOrder", unfollowed := true, recurses := true, plainKeys := false, apart := false, narrowed := true }
def ArenaOrderUptoSaid : Prop := arenaOrderUptoRow.holds Try.pinned (OpenSpec.upto arenaOrderSpec)

/-- 'maquettelaw01.ArenaGrow', WHERE WHAT IT READS IS OF BULK AT MOST 1048576: true; the input reads as it did. -/
def arenaGrowUptoRow : OpenClaim := { program := "ythlbelpooplgeaa", sum := "8c2c309c40aee3eeba871107e1f504a6bfcaa14ee9b017e6ad12d6e625fa4152", func := "maquette/maquettelaw01.ArenaGrow", spec := "arenaGrow", unfollowed := true, recurses := true, plainKeys := false, apart := false, narrowed := true }
def ArenaGrowUptoSaid : Prop := arenaGrowUptoRow.holds Try.pinned (OpenSpec.upto arenaGrowSpec)

end Rows
end Go.Proofs.Ythlbelpooplgeaa
