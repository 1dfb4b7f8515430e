/- What the rows' list gives: the library's tables, of which one is read, and errors.errorType. -/
import Derived.Test.YtejhgifadohbiaaGreatDoorCards
import Derived.Test.YtejhgifadohbiaaGreatDoorTie
import Derived.Test.YtejhgifadohbiaaGreatDoorHE
import Derived.Test.YtejhgifadohbiaaGreatDoorHBd
import Derived.Test.YtejhgifadohbiaaGreatDoorKO
import Derived.ChangeSame
import Derived.ChangeVars
import Derived.JoinedOf
import Derived.RowKit
import Derived.RowKitTokens
import Derived.LaidLaws
import Derived.LaidHandle
import Derived.Stop.Joined
import Derived.Stop.LaidErr
import Derived.SevenTiedAt
import Derived.OpenShut
import Derived.Carry
import Derived.Lib.LaidTab
import Derived.Lib.LaidIn
import Derived.Lib.SmallJoins
import Derived.ChangeMaps5
namespace Go.Proofs.YtejhgifadohbiaaGreatDoor
open Go.ChangeShapes Go.WideShapes Go.RowKit

theorem ownKnob_none : ownKnob Tryz.prog.godebug = none := by kernel_rfl
def laid3 : List (String × DataW Unit) := [("math/bits.deBruijn32tab", Rows.laid_math_bits_deBruijn32tab), ("math/bits.deBruijn64tab", Rows.laid_math_bits_deBruijn64tab), ("internal/strconv.uint64pow10", Rows.laid_internal_strconv_uint64pow10)]
def laid4 : List (String × DataW Unit) := [("math/bits.deBruijn32tab", Rows.laid_math_bits_deBruijn32tab), ("math/bits.deBruijn64tab", Rows.laid_math_bits_deBruijn64tab), ("internal/strconv.uint64pow10", Rows.laid_internal_strconv_uint64pow10), ("errors.errorType", Rows.laid_errors_errorType)]
theorem tab_num : Tryz.prog.globalNamed "internal/strconv.uint64pow10" = some 1 := by kernel_rfl
theorem tab_type : (Tryz.prog.globals[1]?).map (·.type) = some 168 := by kernel_rfl
theorem tab_data : (Rows.laid_internal_strconv_uint64pow10 : DataW Unit) = Lib.tabData .u64 Lib.pow10Tab := by rfl
/-- What the row's list gives: the table's cells. -/
theorem tab_of_laid4 {W : World} (h : laidMetH Tryz.prog laid4 W) : TabP W := by
  have h0 : laidMet Tryz.prog laid3 W ∧ handlesMet Tryz.prog [("errors.errorType", Rows.laid_errors_errorType)] W := h
  have h' := h0.1
  have h2 : laidMet Tryz.prog [("internal/strconv.uint64pow10", Rows.laid_internal_strconv_uint64pow10)] W := laidMet.tail (laidMet.tail h')
  rw [tab_data] at h2
  exact Lib.tabIs_of_head tab_num tab_type Tryz.underlying168 Tryz.underlying161 (by kernel_rfl) (by kernel_rfl) h2
theorem etNamed : Tryz.prog.globalNamed "errors.errorType" = some 0 := by kernel_rfl
theorem rtNamed : (Tryz.prog.cutTypes.find? (·.1 == "internal/reflectlite.rtype")).map (·.2) = some 139 := by kernel_rfl
theorem oneRow : ((List.range 204).filter fun t => Tryz.prog.rowNamed t [101, 114, 114, 111, 114]) = [34] := by kernel_rfl
theorem sizeTypes : Tryz.prog.types.size = 204 := by kernel_rfl

/-- What the row's list gives: the variable's one cell. -/
theorem handle_of_laid4 {W : World} (h : laidMetH Tryz.prog laid4 W) : Laid W := by
  have h' : laidMet Tryz.prog laid3 W ∧ handlesMet Tryz.prog [("errors.errorType", Rows.laid_errors_errorType)] W := h
  obtain ⟨name, u, ty, e1, e2, e3, e4, e5⟩ := h'.2 _ (List.mem_singleton.2 rfl)
  have en : name = [101, 114, 114, 111, 114] := (Option.some.inj e1).symm
  subst en
  obtain rfl := Option.some.inj (rtNamed.symm.trans e2)
  have hm : ty ∈ (List.range 204).filter fun t => Tryz.prog.rowNamed t [101, 114, 114, 111, 114] := List.mem_filter.2 ⟨List.mem_range.2 (by rw [← sizeTypes]; exact e3), e4⟩
  rw [oneRow] at hm
  obtain rfl := List.mem_singleton.1 hm
  have hh : typeHandle Tryz.prog 34 = .pointer (some ⟨5, 34, none⟩) := by kernel_rfl
  rw [hh] at e5
  simpa [Laid] using World.var?_cell etNamed e5 0

/-- A table's cells. -/
def dataCells : DataW Unit → Array Value
  | .agg l => (l.map fun | .lit (.int k z) => Value.int k z | _ => undef).toArray
  | _ => #[]
/-- A world with the tables laid. -/
def layTabs (w : World) : World :=
  { w with heap := ((w.heap.modify 1 fun | .cells _ t frozen => .cells (dataCells Rows.laid_internal_strconv_uint64pow10) t frozen | o => o).modify 3 fun | .cells _ t frozen => .cells (dataCells Rows.laid_math_bits_deBruijn32tab) t frozen | o => o).modify 4 fun | .cells _ t frozen => .cells (dataCells Rows.laid_math_bits_deBruijn64tab) t frozen | o => o }
/-- The same, and errors.errorType. -/
def layAll (w : World) : World :=
  { layTabs w with heap := (layTabs w).heap.modify 0 fun | .cells _ t frozen => .cells #[.iface 139 (.agg #[.pointer (some ⟨5, 34, none⟩)])] t frozen | o => o }
/-- A world that meets the condition: the settled one, all laid. -/
theorem laid_met4 (os : Os) (args : Array Value) : laidMetH Tryz.prog laid4 ((layAll (World.holding Tryz.prog os ⟨#[], #[], []⟩)).forCall (fun _ _ => 0) ⟨#[], args, []⟩).memory :=
  laidMetH_of_parts (LaidIn.of_run [1, 3, 4] 8 (by kernel_rfl) (by kernel_rfl) (by kernel_rfl) (by kernel_rfl)).met (by kernel_rfl)
end Go.Proofs.YtejhgifadohbiaaGreatDoor
