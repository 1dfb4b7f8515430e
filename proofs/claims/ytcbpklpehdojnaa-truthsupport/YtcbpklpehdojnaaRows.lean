/-
  No cell of these rows narrows 'for every input' (looked for: loops, veiled, ifaces, maps, wideKeys, modest, calm, conditions, laid).
  DERIVED. THE GIVEN ROWS OF THIS SEAT. 5 by the template 'for every input the law returns true; each argument reads behind the call as it read before'; 0 by the template 'total and deterministic' (their statements: YtcbpklpehdojnaaTotals.lean).
  GIVEN WITH THE SEED: the statements are not yours to turn. If you find one false, say at which input.
  Laid BY PROGRAM, IN A SANDBOX (cutbox-rows.mjs): the forced cells as the released guide's own fill.sh prints them over the translation 7a7cc02d187eae3c… (all of the seat's roots in one cut). By AI agents, Wed Nov 11 2026. No macro, syntax, notation, axiom, sorry.
-/
import Derived.Test.YtcbpklpehdojnaaChecked
import GoSem.Claim
import GoSem.ClaimJoined
import GoSem.ClaimMapViews
import Derived.JoinedTies
import Derived.KernelRfl
namespace Go.Proofs.Ytcbpklpehdojnaa
/- THE CELL 'sum', in the pinned program and in every row, IS THE sha256 OF THE DUMP (.gsa) THAT YtcbpklpehdojnaaProg.lean LOADS. Nothing in Lean hashes anything: it is a label: what it is worth is what the hold of that sum in a sandbox is worth. -/
noncomputable def Try.pinned : Pinned := { name := "ytcbpklpehdojnaa", sum := "7a7cc02d187eae3cec221c52940694d032f1bdff51534b2dd0a1641f50d0145e", checked := Try.checked }
namespace Rows
def none {H : Type} : Left H := { results := [], args := [] }

/-- 'maquettelaw04.TruthBuild': WHATEVER THE INPUT: true; the input reads as it did. -/
def truthBuildSpec : ChangeSpec := { name := "truthBuild", fn := fun _ => fun
  | [d1, d2] => { results := [.lit (.bool true)], args := [d1, d2] }
  | _ => none }
def truthBuildRow : OpenClaim := { program := "ytcbpklpehdojnaa", sum := "7a7cc02d187eae3cec221c52940694d032f1bdff51534b2dd0a1641f50d0145e", func := "maquette/maquettelaw04.TruthBuild", spec := "truthBuild", unfollowed := true, recurses := true, plainKeys := false, apart := false }
def TruthBuildSaid : Prop := truthBuildRow.holds Try.pinned (OpenSpec.ofChange truthBuildSpec)

/-- ITS FALSE NEIGHBOUR: 'it returns false'. Refute it at one input. -/
def truthBuildWrong : ChangeSpec := { name := "truthBuild", fn := fun _ => fun
  | [d1, d2] => { results := [.lit (.bool false)], args := [d1, d2] }
  | _ => none }
def TruthBuildWrongFalsely : Prop := truthBuildRow.holds Try.pinned (OpenSpec.ofChange truthBuildWrong)

/-- 'maquettelaw04.TruthFour': WHATEVER THE INPUT: true; the input reads as it did. -/
def truthFourSpec : ChangeSpec := { name := "truthFour", fn := fun _ => fun
  | [d] => { results := [.lit (.bool true)], args := [d] }
  | _ => none }
def truthFourRow : OpenClaim := { program := "ytcbpklpehdojnaa", sum := "7a7cc02d187eae3cec221c52940694d032f1bdff51534b2dd0a1641f50d0145e", func := "maquette/maquettelaw04.TruthFour", spec := "truthFour", unfollowed := true, recurses := true, plainKeys := false, apart := false }
def TruthFourSaid : Prop := truthFourRow.holds Try.pinned (OpenSpec.ofChange truthFourSpec)

/-- ITS FALSE NEIGHBOUR: 'it returns false'. Refute it at one input. -/
def truthFourWrong : ChangeSpec := { name := "truthFour", fn := fun _ => fun
  | [d] => { results := [.lit (.bool false)], args := [d] }
  | _ => none }
def TruthFourWrongFalsely : Prop := truthFourRow.holds Try.pinned (OpenSpec.ofChange truthFourWrong)

/-- 'maquettelaw04.TruthSupport': WHATEVER THE INPUT: true; the input reads as it did. -/
def truthSupportSpec : ChangeSpec := { name := "truthSupport", fn := fun _ => fun
  | [d] => { results := [.lit (.bool true)], args := [d] }
  | _ => none }
def truthSupportRow : OpenClaim := { program := "ytcbpklpehdojnaa", sum := "7a7cc02d187eae3cec221c52940694d032f1bdff51534b2dd0a1641f50d0145e", func := "maquette/maquettelaw04.TruthSupport", spec := "truthSupport", unfollowed := true, recurses := true, plainKeys := false, apart := false }
def TruthSupportSaid : Prop := truthSupportRow.holds Try.pinned (OpenSpec.ofChange truthSupportSpec)

/-- ITS FALSE NEIGHBOUR: 'it returns false'. Refute it at one input. -/
def truthSupportWrong : ChangeSpec := { name := "truthSupport", fn := fun _ => fun
  | [d] => { results := [.lit (.bool false)], args := [d] }
  | _ => none }
def TruthSupportWrongFalsely : Prop := truthSupportRow.holds Try.pinned (OpenSpec.ofChange truthSupportWrong)

/-- 'maquettelaw04.TruthSize': WHATEVER THE INPUT: true; the input reads as it did. -/
def truthSizeSpec : ChangeSpec := { name := "truthSize", fn := fun _ => fun
  | [d1, d2] => { results := [.lit (.bool true)], args := [d1, d2] }
  | _ => none }
def truthSizeRow : OpenClaim := { program := "ytcbpklpehdojnaa", sum := "7a7cc02d187eae3cec221c52940694d032f1bdff51534b2dd0a1641f50d0145e", func := "maquette/maquettelaw04.TruthSize", spec := "truthSize", unfollowed := true, recurses := true, plainKeys := false, apart := false }
def TruthSizeSaid : Prop := truthSizeRow.holds Try.pinned (OpenSpec.ofChange truthSizeSpec)

/-- ITS FALSE NEIGHBOUR: 'it returns false'. Refute it at one input. -/
def truthSizeWrong : ChangeSpec := { name := "truthSize", fn := fun _ => fun
  | [d1, d2] => { results := [.lit (.bool false)], args := [d1, d2] }
  | _ => none }
def TruthSizeWrongFalsely : Prop := truthSizeRow.holds Try.pinned (OpenSpec.ofChange truthSizeWrong)

/-- 'maquettelaw04.TruthClamps': WHATEVER THE INPUT: true; the input reads as it did. -/
def truthClampsSpec : ChangeSpec := { name := "truthClamps", fn := fun _ => fun
  | [d1, d2] => { results := [.lit (.bool true)], args := [d1, d2] }
  | _ => none }
def truthClampsRow : OpenClaim := { program := "ytcbpklpehdojnaa", sum := "7a7cc02d187eae3cec221c52940694d032f1bdff51534b2dd0a1641f50d0145e", func := "maquette/maquettelaw04.TruthClamps", spec := "truthClamps", unfollowed := true, recurses := true, plainKeys := false, apart := false }
def TruthClampsSaid : Prop := truthClampsRow.holds Try.pinned (OpenSpec.ofChange truthClampsSpec)

/-- ITS FALSE NEIGHBOUR: 'it returns false'. Refute it at one input. -/
def truthClampsWrong : ChangeSpec := { name := "truthClamps", fn := fun _ => fun
  | [d1, d2] => { results := [.lit (.bool false)], args := [d1, d2] }
  | _ => none }
def TruthClampsWrongFalsely : Prop := truthClampsRow.holds Try.pinned (OpenSpec.ofChange truthClampsWrong)

/- THE SECOND FORM. 'bulk': how many values and letters a reading holds, each counted each time it is reached (what is shared counts as often as it is met; a slice's spare places count too). A statement '..UptoSaid' is the law's where the arguments, and the package variables that the reading takes, are together of bulk at most 1048576: NARROWER than '..Said'. Prove '..Said' where nothing that the law and all that it calls make is longer than what came in: it says more and counts as full. Else prove '..UptoSaid'. A law counts once. -/
mutual
def uptoBulk {H : Type} : DataW H → Nat
  | .lit (.string bytes) => bytes.length + 1
  | .lit _ => 1
  | .nil => 1
  | .ptr d => uptoBulk d + 1
  | .slice elems spare => uptoBulkAll elems + uptoBulkAll spare + 1
  | .agg parts => uptoBulkAll parts + 1
  | .iface _ d => uptoBulk d + 1
  | .map entries => uptoBulkEntries entries + 1
  | .held _ => 1
def uptoBulkAll {H : Type} : List (DataW H) → Nat
  | [] => 0
  | d :: r => uptoBulk d + uptoBulkAll r
def uptoBulkEntries {H : Type} : List (Lit × DataW H) → Nat
  | [] => 0
  | x :: r => uptoBulkEntry x + uptoBulkEntries r
def uptoBulkEntry {H : Type} : Lit × DataW H → Nat
  | (.string bytes, d) => bytes.length + uptoBulk d + 1
  | (_, d) => uptoBulk d + 1
 end
def uptoSmall : (H : Type) → List (DataW H) → Bool := fun _ ds => decide (uptoBulkAll ds ≤ 1048576)
def OpenSpec.upto (s : _root_.Go.ChangeSpec) : _root_.Go.OpenSpec := { _root_.Go.OpenSpec.ofChange s with cond := some uptoSmall }

/-- 'maquettelaw04.TruthBuild', WHERE WHAT IT READS IS OF BULK AT MOST 1048576: true; the input reads as it did. -/
def truthBuildUptoRow : OpenClaim := { program := "ytcbpklpehdojnaa", sum := "7a7cc02d187eae3cec221c52940694d032f1bdff51534b2dd0a1641f50d0145e", func := "maquette/maquettelaw04.TruthBuild", spec := "truthBuild", unfollowed := true, recurses := true, plainKeys := false, apart := false, narrowed := true }
def TruthBuildUptoSaid : Prop := truthBuildUptoRow.holds Try.pinned (OpenSpec.upto truthBuildSpec)

/-- 'maquettelaw04.TruthFour', WHERE WHAT IT READS IS OF BULK AT MOST 1048576: true; the input reads as it did. -/
def truthFourUptoRow : OpenClaim := { program := "ytcbpklpehdojnaa", sum := "7a7cc02d187eae3cec221c52940694d032f1bdff51534b2dd0a1641f50d0145e", func := "maquette/maquettelaw04.TruthFour", spec := "truthFour", unfollowed := true, recurses := true, plainKeys := false, apart := false, narrowed := true }
def TruthFourUptoSaid : Prop := truthFourUptoRow.holds Try.pinned (OpenSpec.upto truthFourSpec)

/-- 'maquettelaw04.TruthSupport', WHERE WHAT IT READS IS OF BULK AT MOST 1048576: true; the input reads as it did. -/
def truthSupportUptoRow : OpenClaim := { program := "ytcbpklpehdojnaa", sum := "7a7cc02d187eae3cec221c52940694d032f1bdff51534b2dd0a1641f50d0145e", func := "maquette/maquettelaw04.TruthSupport", spec := "truthSupport", unfollowed := true, recurses := true, plainKeys := false, apart := false, narrowed := true }
def TruthSupportUptoSaid : Prop := truthSupportUptoRow.holds Try.pinned (OpenSpec.upto truthSupportSpec)

/-- 'maquettelaw04.TruthSize', WHERE WHAT IT READS IS OF BULK AT MOST 1048576: true; the input reads as it did. -/
def truthSizeUptoRow : OpenClaim := { program := "ytcbpklpehdojnaa", sum := "7a7cc02d187eae3cec221c52940694d032f1bdff51534b2dd0a1641f50d0145e", func := "maquette/maquettelaw04.TruthSize", spec := "truthSize", unfollowed := true, recurses := true, plainKeys := false, apart := false, narrowed := true }
def TruthSizeUptoSaid : Prop := truthSizeUptoRow.holds Try.pinned (OpenSpec.upto truthSizeSpec)

/-- 'maquettelaw04.TruthClamps', WHERE WHAT IT READS IS OF BULK AT MOST 1048576: true; the input reads as it did. -/
def truthClampsUptoRow : OpenClaim := { program := "ytcbpklpehdojnaa", sum := "7a7cc02d187eae3cec221c52940694d032f1bdff51534b2dd0a1641f50d0145e", func := "maquette/maquettelaw04.TruthClamps", spec := "truthClamps", unfollowed := true, recurses := true, plainKeys := false, apart := false, narrowed := true }
def TruthClampsUptoSaid : Prop := truthClampsUptoRow.holds Try.pinned (OpenSpec.upto truthClampsSpec)

end Rows
end Go.Proofs.Ytcbpklpehdojnaa
