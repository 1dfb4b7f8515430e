/-
  No cell of these rows narrows 'for every input' (looked for: loops, veiled, ifaces, maps, wideKeys, modest, calm, conditions, laid).
  DERIVED. THE GIVEN ROWS OF THIS SEAT. 5 by the template 'for every input the law returns true; each argument reads behind the call as it read before'; 0 by the template 'total and deterministic' (their statements: YtahjkkegbcalnaaTotals.lean).
  GIVEN WITH THE SEED: the statements are not yours to turn. If you find one false, say at which input.
  Laid BY PROGRAM, IN A SANDBOX (cutbox-rows.mjs): the forced cells as the released guide's own fill.sh prints them over the translation 743f6f5051fcb219… (all of the seat's roots in one cut). By AI agents, Wed Nov 11 2026. No macro, syntax, notation, axiom, sorry.
-/
import Derived.Test.YtahjkkegbcalnaaChecked
import GoSem.Claim
import GoSem.ClaimJoined
import GoSem.ClaimMapViews
import Derived.JoinedTies
import Derived.KernelRfl
namespace Go.Proofs.Ytahjkkegbcalnaa
/- THE CELL 'sum', in the pinned program and in every row, IS THE sha256 OF THE DUMP (.gsa) THAT YtahjkkegbcalnaaProg.lean LOADS. Nothing in Lean hashes anything: it is a label: what it is worth is what the hold of that sum in a sandbox is worth. -/
noncomputable def Try.pinned : Pinned := { name := "ytahjkkegbcalnaa", sum := "743f6f5051fcb21982d5ec348fe1c4b0a9d504128177adb5b763c720e334b73c", checked := Try.checked }
namespace Rows
def none {H : Type} : Left H := { results := [], args := [] }

/-- 'maquettelaw03.ComposeRestrict': WHATEVER THE INPUT: true; the input reads as it did. -/
def composeRestrictSpec : ChangeSpec := { name := "composeRestrict", fn := fun _ => fun
  | [d1, d2, d3] => { results := [.lit (.bool true)], args := [d1, d2, d3] }
  | _ => none }
def composeRestrictRow : OpenClaim := { program := "ytahjkkegbcalnaa", sum := "743f6f5051fcb21982d5ec348fe1c4b0a9d504128177adb5b763c720e334b73c", func := "maquette/maquettelaw03.ComposeRestrict", spec := "composeRestrict", unfollowed := true, recurses := true, plainKeys := false, apart := false }
def ComposeRestrictSaid : Prop := composeRestrictRow.holds Try.pinned (OpenSpec.ofChange composeRestrictSpec)

/-- ITS FALSE NEIGHBOUR: 'it returns false'. Refute it at one input. -/
def composeRestrictWrong : ChangeSpec := { name := "composeRestrict", fn := fun _ => fun
  | [d1, d2, d3] => { results := [.lit (.bool false)], args := [d1, d2, d3] }
  | _ => none }
def ComposeRestrictWrongFalsely : Prop := composeRestrictRow.holds Try.pinned (OpenSpec.ofChange composeRestrictWrong)

/-- 'maquettelaw03.ComposeOf': WHATEVER THE INPUT: true; the input reads as it did. -/
def composeOfSpec : ChangeSpec := { name := "composeOf", fn := fun _ => fun
  | [d1, d2, d3] => { results := [.lit (.bool true)], args := [d1, d2, d3] }
  | _ => none }
def composeOfRow : OpenClaim := { program := "ytahjkkegbcalnaa", sum := "743f6f5051fcb21982d5ec348fe1c4b0a9d504128177adb5b763c720e334b73c", func := "maquette/maquettelaw03.ComposeOf", spec := "composeOf", unfollowed := true, recurses := true, plainKeys := false, apart := false }
def ComposeOfSaid : Prop := composeOfRow.holds Try.pinned (OpenSpec.ofChange composeOfSpec)

/-- ITS FALSE NEIGHBOUR: 'it returns false'. Refute it at one input. -/
def composeOfWrong : ChangeSpec := { name := "composeOf", fn := fun _ => fun
  | [d1, d2, d3] => { results := [.lit (.bool false)], args := [d1, d2, d3] }
  | _ => none }
def ComposeOfWrongFalsely : Prop := composeOfRow.holds Try.pinned (OpenSpec.ofChange composeOfWrong)

/-- 'maquettelaw03.ComposeSome': WHATEVER THE INPUT: true; the input reads as it did. -/
def composeSomeSpec : ChangeSpec := { name := "composeSome", fn := fun _ => fun
  | [d1, d2] => { results := [.lit (.bool true)], args := [d1, d2] }
  | _ => none }
def composeSomeRow : OpenClaim := { program := "ytahjkkegbcalnaa", sum := "743f6f5051fcb21982d5ec348fe1c4b0a9d504128177adb5b763c720e334b73c", func := "maquette/maquettelaw03.ComposeSome", spec := "composeSome", unfollowed := true, recurses := true, plainKeys := false, apart := false }
def ComposeSomeSaid : Prop := composeSomeRow.holds Try.pinned (OpenSpec.ofChange composeSomeSpec)

/-- ITS FALSE NEIGHBOUR: 'it returns false'. Refute it at one input. -/
def composeSomeWrong : ChangeSpec := { name := "composeSome", fn := fun _ => fun
  | [d1, d2] => { results := [.lit (.bool false)], args := [d1, d2] }
  | _ => none }
def ComposeSomeWrongFalsely : Prop := composeSomeRow.holds Try.pinned (OpenSpec.ofChange composeSomeWrong)

/-- 'maquettelaw03.ComposeSelf': WHATEVER THE INPUT: true; the input reads as it did. -/
def composeSelfSpec : ChangeSpec := { name := "composeSelf", fn := fun _ => fun
  | [d1, d2, d3] => { results := [.lit (.bool true)], args := [d1, d2, d3] }
  | _ => none }
def composeSelfRow : OpenClaim := { program := "ytahjkkegbcalnaa", sum := "743f6f5051fcb21982d5ec348fe1c4b0a9d504128177adb5b763c720e334b73c", func := "maquette/maquettelaw03.ComposeSelf", spec := "composeSelf", unfollowed := true, recurses := true, plainKeys := false, apart := false }
def ComposeSelfSaid : Prop := composeSelfRow.holds Try.pinned (OpenSpec.ofChange composeSelfSpec)

/-- ITS FALSE NEIGHBOUR: 'it returns false'. Refute it at one input. -/
def composeSelfWrong : ChangeSpec := { name := "composeSelf", fn := fun _ => fun
  | [d1, d2, d3] => { results := [.lit (.bool false)], args := [d1, d2, d3] }
  | _ => none }
def ComposeSelfWrongFalsely : Prop := composeSelfRow.holds Try.pinned (OpenSpec.ofChange composeSelfWrong)

/-- 'maquettelaw03.ComposeShannon': WHATEVER THE INPUT: true; the input reads as it did. -/
def composeShannonSpec : ChangeSpec := { name := "composeShannon", fn := fun _ => fun
  | [d1, d2] => { results := [.lit (.bool true)], args := [d1, d2] }
  | _ => none }
def composeShannonRow : OpenClaim := { program := "ytahjkkegbcalnaa", sum := "743f6f5051fcb21982d5ec348fe1c4b0a9d504128177adb5b763c720e334b73c", func := "maquette/maquettelaw03.ComposeShannon", spec := "composeShannon", unfollowed := true, recurses := true, plainKeys := false, apart := false }
def ComposeShannonSaid : Prop := composeShannonRow.holds Try.pinned (OpenSpec.ofChange composeShannonSpec)

/-- ITS FALSE NEIGHBOUR: 'it returns false'. Refute it at one input. -/
def composeShannonWrong : ChangeSpec := { name := "composeShannon", fn := fun _ => fun
  | [d1, d2] => { results := [.lit (.bool false)], args := [d1, d2] }
  | _ => none }
def ComposeShannonWrongFalsely : Prop := composeShannonRow.holds Try.pinned (OpenSpec.ofChange composeShannonWrong)

/- THE SECOND FORM. 'bulk': how many values and letters a reading holds, each counted each time it is reached (what is shared counts as often as it is met; a slice's spare places count too). A statement '..UptoSaid' is the law's where the arguments, and the package variables that the reading takes, are together of bulk at most 1048576: NARROWER than '..Said'. Prove '..Said' where nothing that the law and all that it calls make is longer than what came in: it says more and counts as full. Else prove '..UptoSaid'. A law counts once. -/
mutual
def uptoBulk {H : Type} : DataW H → Nat
  | .lit (.string bytes) => bytes.length + 1
  | .lit _ => 1
  | .nil => 1
  | .ptr d => uptoBulk d + 1
  | .slice elems spare => uptoBulkAll elems + uptoBulkAll spare + 1
  | .agg parts => uptoBulkAll parts + 1
  | .iface _ d => uptoBulk d + 1
  | .map entries => uptoBulkEntries entries + 1
  | .held _ => 1
def uptoBulkAll {H : Type} : List (DataW H) → Nat
  | [] => 0
  | d :: r => uptoBulk d + uptoBulkAll r
def uptoBulkEntries {H : Type} : List (Lit × DataW H) → Nat
  | [] => 0
  | x :: r => uptoBulkEntry x + uptoBulkEntries r
def uptoBulkEntry {H : Type} : Lit × DataW H → Nat
  | (.string bytes, d) => bytes.length + uptoBulk d + 1
  | (_, d) => uptoBulk d + 1
 end
def uptoSmall : (H : Type) → List (DataW H) → Bool := fun _ ds => decide (uptoBulkAll ds ≤ 1048576)
def OpenSpec.upto (s : _root_.Go.ChangeSpec) : _root_.Go.OpenSpec := { _root_.Go.OpenSpec.ofChange s with cond := some uptoSmall }

/-- 'maquettelaw03.ComposeRestrict', WHERE WHAT IT READS IS OF BULK AT MOST 1048576: true; the input reads as it did. -/
def composeRestrictUptoRow : OpenClaim := { program := "ytahjkkegbcalnaa", sum := "743f6f5051fcb21982d5ec348fe1c4b0a9d504128177adb5b763c720e334b73c", func := "maquette/maquettelaw03.ComposeRestrict", spec := "composeRestrict", unfollowed := true, recurses := true, plainKeys := false, apart := false, narrowed := true }
def ComposeRestrictUptoSaid : Prop := composeRestrictUptoRow.holds Try.pinned (OpenSpec.upto composeRestrictSpec)

/-- 'maquettelaw03.ComposeOf', WHERE WHAT IT READS IS OF BULK AT MOST 1048576: true; the input reads as it did. -/
def composeOfUptoRow : OpenClaim := { program := "ytahjkkegbcalnaa", sum := "743f6f5051fcb21982d5ec348fe1c4b0a9d504128177adb5b763c720e334b73c", func := "maquette/maquettelaw03.ComposeOf", spec := "composeOf", unfollowed := true, recurses := true, plainKeys := false, apart := false, narrowed := true }
def ComposeOfUptoSaid : Prop := composeOfUptoRow.holds Try.pinned (OpenSpec.upto composeOfSpec)

/-- 'maquettelaw03.ComposeSome', WHERE WHAT IT READS IS OF BULK AT MOST 1048576: true; the input reads as it did. -/
def composeSomeUptoRow : OpenClaim := { program := "ytahjkkegbcalnaa", sum := "743f6f5051fcb21982d5ec348fe1c4b0a9d504128177adb5b763c720e334b73c", func := "maquette/maquettelaw03.ComposeSome", spec := "composeSome", unfollowed := true, recurses := true, plainKeys := false, apart := false, narrowed := true }
def ComposeSomeUptoSaid : Prop := composeSomeUptoRow.holds Try.pinned (OpenSpec.upto composeSomeSpec)

/-- 'maquettelaw03.ComposeSelf', WHERE WHAT IT READS IS OF BULK AT MOST 1048576: true; the input reads as it did. -/
def composeSelfUptoRow : OpenClaim := { program := "ytahjkkegbcalnaa", sum := "743f6f5051fcb21982d5ec348fe1c4b0a9d504128177adb5b763c720e334b73c", func := "maquette/maquettelaw03.ComposeSelf", spec := "composeSelf", unfollowed := true, recurses := true, plainKeys := false, apart := false, narrowed := true }
def ComposeSelfUptoSaid : Prop := composeSelfUptoRow.holds Try.pinned (OpenSpec.upto composeSelfSpec)

/-- 'maquettelaw03.ComposeShannon', WHERE WHAT IT READS IS OF BULK AT MOST 1048576: true; the input reads as it did. -/
def composeShannonUptoRow : OpenClaim := { program := "ytahjkkegbcalnaa", sum := "743f6f5051fcb21982d5ec348fe1c4b0a9d504128177adb5b763c720e334b73c", func := "maquette/maquettelaw03.ComposeShannon", spec := "composeShannon", unfollowed := true, recurses := true, plainKeys := false, apart := false, narrowed := true }
def ComposeShannonUptoSaid : Prop := composeShannonUptoRow.holds Try.pinned (OpenSpec.upto composeShannonSpec)

end Rows
end Go.Proofs.Ytahjkkegbcalnaa
