/- What the rows' list gives: the library's tables, of which one is read. -/
import Derived.Test.YthelllciciohiaaDoorCards
import Derived.Test.YthelllciciohiaaDoorTie
import Derived.Test.YthelllciciohiaaDoorHE
import Derived.ChangeSame
import Derived.ChangeVars
import Derived.JoinedOf
import Derived.RowKit
import Derived.RowKitTokens
import Derived.LaidLaws
import Derived.LaidHandle
import Derived.Stop.Joined
import Derived.Stop.LaidErr
import Derived.SevenTiedAt
import Derived.OpenShut
import Derived.Carry
import Derived.Lib.LaidTab
import Derived.Lib.LaidIn
import Derived.Lib.SmallJoins
import Derived.ChangeMaps5
namespace Go.Proofs.YthelllciciohiaaDoor
open Go.ChangeShapes Go.WideShapes Go.RowKit

theorem ownKnob_none : ownKnob Tryd.prog.godebug = none := by kernel_rfl
def laid3 : List (String × DataW Unit) := [("math/bits.deBruijn32tab", Rows.laid_math_bits_deBruijn32tab), ("math/bits.deBruijn64tab", Rows.laid_math_bits_deBruijn64tab), ("internal/strconv.uint64pow10", Rows.laid_internal_strconv_uint64pow10)]
theorem tab_num : Tryd.prog.globalNamed "internal/strconv.uint64pow10" = some 0 := by kernel_rfl
theorem tab_type : (Tryd.prog.globals[0]?).map (·.type) = some 96 := by kernel_rfl
theorem tab_data : (Rows.laid_internal_strconv_uint64pow10 : DataW Unit) = Lib.tabData .u64 Lib.pow10Tab := by rfl
/-- What the row's list gives: the table's cells. -/
theorem tab_of_laid {W : World} (h : laidMetH Tryd.prog laid3 W) : TabP W := by
  have h' : laidMet Tryd.prog laid3 W := h
  have h2 : laidMet Tryd.prog [("internal/strconv.uint64pow10", Rows.laid_internal_strconv_uint64pow10)] W := laidMet.tail (laidMet.tail h')
  rw [tab_data] at h2
  exact Lib.tabIs_of_head tab_num tab_type Tryd.underlying96 Tryd.underlying89 (by kernel_rfl) (by kernel_rfl) h2
/-- A table's cells. -/
def dataCells : DataW Unit → Array Value
  | .agg l => (l.map fun | .lit (.int k z) => Value.int k z | _ => undef).toArray
  | _ => #[]
/-- A world with the tables laid. -/
def layTabs (w : World) : World :=
  { w with heap := ((w.heap.modify 0 fun | .cells _ t frozen => .cells (dataCells Rows.laid_internal_strconv_uint64pow10) t frozen | o => o).modify 1 fun | .cells _ t frozen => .cells (dataCells Rows.laid_math_bits_deBruijn32tab) t frozen | o => o).modify 2 fun | .cells _ t frozen => .cells (dataCells Rows.laid_math_bits_deBruijn64tab) t frozen | o => o }
/-- A world that meets the condition: the settled one, the tables laid. -/
theorem laid_met (os : Os) (args : Array Value) : laidMetH Tryd.prog laid3 ((layTabs (World.holding Tryd.prog os ⟨#[], #[], []⟩)).forCall (fun _ _ => 0) ⟨#[], args, []⟩).memory :=
  (LaidIn.of_run [0, 1, 2] 8 (by kernel_rfl) (by kernel_rfl) (by kernel_rfl) (by kernel_rfl)).met
theorem cellsPf : Tryd.prog.cellsOf 24 = 2 := by kernel_rfl
theorem bounds_u32' {n : Int} (h : (Lit.int .u32 n).wf = true) : ∃ k : Nat, n = k ∧ k < 4294967296 := by
  have := bounds_u32 h
  exact ⟨n.toNat, by omega, by omega⟩
theorem bounds_u8' {n : Int} (h : (Lit.int .u8 n).wf = true) : ∃ k : Nat, n = k ∧ k < 256 := by
  have := bounds_u8 h
  exact ⟨n.toNat, by omega, by omega⟩
end Go.Proofs.YthelllciciohiaaDoor
