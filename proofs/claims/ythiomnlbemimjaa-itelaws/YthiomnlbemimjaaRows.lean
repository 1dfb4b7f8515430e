/-
  No cell of these rows narrows 'for every input' (looked for: loops, veiled, ifaces, maps, wideKeys, modest, calm, conditions, laid).
  DERIVED. THE GIVEN ROWS OF THIS SEAT. 4 by the template 'for every input the law returns true; each argument reads behind the call as it read before'; 0 by the template 'total and deterministic' (their statements: YthiomnlbemimjaaTotals.lean).
  GIVEN WITH THE SEED: the statements are not yours to turn. If you find one false, say at which input.
  Laid BY PROGRAM, IN A SANDBOX (cutbox-rows.mjs): the forced cells as the released guide's own fill.sh prints them over the translation 4beff16c97f16adc… (all of the seat's roots in one cut). By AI agents, Wed Nov 11 2026. No macro, syntax, notation, axiom, sorry.
-/
import Derived.Test.YthiomnlbemimjaaChecked
import GoSem.Claim
import GoSem.ClaimJoined
import GoSem.ClaimMapViews
import Derived.JoinedTies
import Derived.KernelRfl
namespace Go.Proofs.Ythiomnlbemimjaa
/- THE CELL 'sum', in the pinned program and in every row, IS THE sha256 OF THE DUMP (.gsa) THAT YthiomnlbemimjaaProg.lean LOADS. Nothing in Lean hashes anything: it is a label: what it is worth is what the hold of that sum in a sandbox is worth. -/
noncomputable def Try.pinned : Pinned := { name := "ythiomnlbemimjaa", sum := "4beff16c97f16adc631ee98a41d963a3b4a172724b8bf898857f2d8ec9005ed6", checked := Try.checked }
namespace Rows
def none {H : Type} : Left H := { results := [], args := [] }

/-- 'maquettelaw02.IteOf': WHATEVER THE INPUT: true; the input reads as it did. -/
def iteOfSpec : ChangeSpec := { name := "iteOf", fn := fun _ => fun
  | [d1, d2, d3] => { results := [.lit (.bool true)], args := [d1, d2, d3] }
  | _ => none }
def iteOfRow : OpenClaim := { program := "ythiomnlbemimjaa", sum := "4beff16c97f16adc631ee98a41d963a3b4a172724b8bf898857f2d8ec9005ed6", func := "maquette/maquettelaw02.IteOf", spec := "iteOf", unfollowed := true, recurses := true, plainKeys := false, apart := false }
def IteOfSaid : Prop := iteOfRow.holds Try.pinned (OpenSpec.ofChange iteOfSpec)

/-- ITS FALSE NEIGHBOUR: 'it returns false'. Refute it at one input. -/
def iteOfWrong : ChangeSpec := { name := "iteOf", fn := fun _ => fun
  | [d1, d2, d3] => { results := [.lit (.bool false)], args := [d1, d2, d3] }
  | _ => none }
def IteOfWrongFalsely : Prop := iteOfRow.holds Try.pinned (OpenSpec.ofChange iteOfWrong)

/-- 'maquettelaw02.IteTwo': WHATEVER THE INPUT: true; the input reads as it did. -/
def iteTwoSpec : ChangeSpec := { name := "iteTwo", fn := fun _ => fun
  | [d1, d2] => { results := [.lit (.bool true)], args := [d1, d2] }
  | _ => none }
def iteTwoRow : OpenClaim := { program := "ythiomnlbemimjaa", sum := "4beff16c97f16adc631ee98a41d963a3b4a172724b8bf898857f2d8ec9005ed6", func := "maquette/maquettelaw02.IteTwo", spec := "iteTwo", unfollowed := true, recurses := true, plainKeys := false, apart := false }
def IteTwoSaid : Prop := iteTwoRow.holds Try.pinned (OpenSpec.ofChange iteTwoSpec)

/-- ITS FALSE NEIGHBOUR: 'it returns false'. Refute it at one input. -/
def iteTwoWrong : ChangeSpec := { name := "iteTwo", fn := fun _ => fun
  | [d1, d2] => { results := [.lit (.bool false)], args := [d1, d2] }
  | _ => none }
def IteTwoWrongFalsely : Prop := iteTwoRow.holds Try.pinned (OpenSpec.ofChange iteTwoWrong)

/-- 'maquettelaw02.IteLaws': WHATEVER THE INPUT: true; the input reads as it did. -/
def iteLawsSpec : ChangeSpec := { name := "iteLaws", fn := fun _ => fun
  | [d1, d2, d3] => { results := [.lit (.bool true)], args := [d1, d2, d3] }
  | _ => none }
def iteLawsRow : OpenClaim := { program := "ythiomnlbemimjaa", sum := "4beff16c97f16adc631ee98a41d963a3b4a172724b8bf898857f2d8ec9005ed6", func := "maquette/maquettelaw02.IteLaws", spec := "iteLaws", unfollowed := true, recurses := true, plainKeys := false, apart := false }
def IteLawsSaid : Prop := iteLawsRow.holds Try.pinned (OpenSpec.ofChange iteLawsSpec)

/-- ITS FALSE NEIGHBOUR: 'it returns false'. Refute it at one input. -/
def iteLawsWrong : ChangeSpec := { name := "iteLaws", fn := fun _ => fun
  | [d1, d2, d3] => { results := [.lit (.bool false)], args := [d1, d2, d3] }
  | _ => none }
def IteLawsWrongFalsely : Prop := iteLawsRow.holds Try.pinned (OpenSpec.ofChange iteLawsWrong)

/-- 'maquettelaw02.IteKeeps': WHATEVER THE INPUT: true; the input reads as it did. -/
def iteKeepsSpec : ChangeSpec := { name := "iteKeeps", fn := fun _ => fun
  | [d1, d2] => { results := [.lit (.bool true)], args := [d1, d2] }
  | _ => none }
def iteKeepsRow : OpenClaim := { program := "ythiomnlbemimjaa", sum := "4beff16c97f16adc631ee98a41d963a3b4a172724b8bf898857f2d8ec9005ed6", func := "maquette/maquettelaw02.IteKeeps", spec := "iteKeeps", unfollowed := true, recurses := true, plainKeys := false, apart := false }
def IteKeepsSaid : Prop := iteKeepsRow.holds Try.pinned (OpenSpec.ofChange iteKeepsSpec)

/-- ITS FALSE NEIGHBOUR: 'it returns false'. Refute it at one input. -/
def iteKeepsWrong : ChangeSpec := { name := "iteKeeps", fn := fun _ => fun
  | [d1, d2] => { results := [.lit (.bool false)], args := [d1, d2] }
  | _ => none }
def IteKeepsWrongFalsely : Prop := iteKeepsRow.holds Try.pinned (OpenSpec.ofChange iteKeepsWrong)

/- THE SECOND FORM. 'bulk': how many values and letters a reading holds, each counted each time it is reached (what is shared counts as often as it is met; a slice's spare places count too). A statement '..UptoSaid' is the law's where the arguments, and the package variables that the reading takes, are together of bulk at most 1048576: NARROWER than '..Said'. Prove '..Said' where nothing that the law and all that it calls make is longer than what came in: it says more and counts as full. Else prove '..UptoSaid'. A law counts once. -/
mutual
def uptoBulk {H : Type} : DataW H → Nat
  | .lit (.string bytes) => bytes.length + 1
  | .lit _ => 1
  | .nil => 1
  | .ptr d => uptoBulk d + 1
  | .slice elems spare => uptoBulkAll elems + uptoBulkAll spare + 1
  | .agg parts => uptoBulkAll parts + 1
  | .iface _ d => uptoBulk d + 1
  | .map entries => uptoBulkEntries entries + 1
  | .held _ => 1
def uptoBulkAll {H : Type} : List (DataW H) → Nat
  | [] => 0
  | d :: r => uptoBulk d + uptoBulkAll r
def uptoBulkEntries {H : Type} : List (Lit × DataW H) → Nat
  | [] => 0
  | x :: r => uptoBulkEntry x + uptoBulkEntries r
def uptoBulkEntry {H : Type} : Lit × DataW H → Nat
  | (.string bytes, d) => bytes.length + uptoBulk d + 1
  | (_, d) => uptoBulk d + 1
 end
def uptoSmall : (H : Type) → List (DataW H) → Bool := fun _ ds => decide (uptoBulkAll ds ≤ 1048576)
def OpenSpec.upto (s : _root_.Go.ChangeSpec) : _root_.Go.OpenSpec := { _root_.Go.OpenSpec.ofChange s with cond := some uptoSmall }

/-- 'maquettelaw02.IteOf', WHERE WHAT IT READS IS OF BULK AT MOST 1048576: true; the input reads as it did. -/
def iteOfUptoRow : OpenClaim := { program := "ythiomnlbemimjaa", sum := "4beff16c97f16adc631ee98a41d963a3b4a172724b8bf898857f2d8ec9005ed6", func := "maquette/maquettelaw02.IteOf", spec := "iteOf", unfollowed := true, recurses := true, plainKeys := false, apart := false, narrowed := true }
def IteOfUptoSaid : Prop := iteOfUptoRow.holds Try.pinned (OpenSpec.upto iteOfSpec)

/-- 'maquettelaw02.IteTwo', WHERE WHAT IT READS IS OF BULK AT MOST 1048576: true; the input reads as it did. -/
def iteTwoUptoRow : OpenClaim := { program := "ythiomnlbemimjaa", sum := "4beff16c97f16adc631ee98a41d963a3b4a172724b8bf898857f2d8ec9005ed6", func := "maquette/maquettelaw02.IteTwo", spec := "iteTwo", unfollowed := true, recurses := true, plainKeys := false, apart := false, narrowed := true }
def IteTwoUptoSaid : Prop := iteTwoUptoRow.holds Try.pinned (OpenSpec.upto iteTwoSpec)

/-- 'maquettelaw02.IteLaws', WHERE WHAT IT READS IS OF BULK AT MOST 1048576: true; the input reads as it did. -/
def iteLawsUptoRow : OpenClaim := { program := "ythiomnlbemimjaa", sum := "4beff16c97f16adc631ee98a41d963a3b4a172724b8bf898857f2d8ec9005ed6", func := "maquette/maquettelaw02.IteLaws", spec := "iteLaws", unfollowed := true, recurses := true, plainKeys := false, apart := false, narrowed := true }
def IteLawsUptoSaid : Prop := iteLawsUptoRow.holds Try.pinned (OpenSpec.upto iteLawsSpec)

/-- 'maquettelaw02.IteKeeps', WHERE WHAT IT READS IS OF BULK AT MOST 1048576: true; the input reads as it did. -/
def iteKeepsUptoRow : OpenClaim := { program := "ythiomnlbemimjaa", sum := "4beff16c97f16adc631ee98a41d963a3b4a172724b8bf898857f2d8ec9005ed6", func := "maquette/maquettelaw02.IteKeeps", spec := "iteKeeps", unfollowed := true, recurses := true, plainKeys := false, apart := false, narrowed := true }
def IteKeepsUptoSaid : Prop := iteKeepsUptoRow.holds Try.pinned (OpenSpec.upto iteKeepsSpec)

end Rows
end Go.Proofs.Ythiomnlbemimjaa
