/- errors.As at an error with a place: into a Fault, into an Errno. -/
import Derived.Test.YtcjdjifooaeomaaDoorKM
import Derived.Laws.Cells
import Derived.WalkSmall
import Derived.Handy
namespace Go.Proofs.YtcjdjifooaeomaaDoor
open Go.RowKit Go.Extern.Stop Go.Stop Go.Extern

theorem setF (ta b : Addr) (n m : Int) (o1 o2 : Value) (W : World) (hb : W.cell? b = some (.int .i64 n)) (hb2 : W.cell? (b.add 1) = some (.int .i64 m)) (ht : W.cell? ta = some o1) (ht2 : (W.setCell ta (.int .i64 n)).cell? (ta.add 1) = some o2) (hf : W.frozen? ta = false) (hf2 : (W.setCell ta (.int .i64 n)).frozen? (ta.add 1) = false) :
    (ReflectliteValue.set #[.agg #[.pointer (some ⟨1, 85, none⟩), .pointer (some ta), .int .u64 409], .agg #[.pointer (some ⟨1, 85, none⟩), .pointer (some b), .int .u64 153]]).run Tryd.prog W
      = .ok (.tuple #[]) ((W.setCell ta (.int .i64 n)).setCell (ta.add 1) (.int .i64 m)) := by
  have hL : (loadCells b 2).run Tryd.prog W = .ok #[.int .i64 n, .int .i64 m] W := run_loadCells_list W b [.int .i64 n, .int .i64 m] (by
    intro j v hj
    match j, hj with
    | 0, hj => simp at hj; subst hj; simpa [Addr.add] using hb
    | 1, hj => simp at hj; subst hj; simpa using hb2)
  change Sem.run _ (ReflectliteValue.parts (.agg #[.pointer (some ⟨1, 85, none⟩), .pointer (some ta), .int .u64 409]) >>= fun y => ReflectliteValue.parts (.agg #[.pointer (some ⟨1, 85, none⟩), .pointer (some b), .int .u64 153]) >>= _) _ = _
  simp only [Sem.run_bind, partsFa, partsF, Result.andThen]
  simp [ReflectliteValue.flagAddr, loadVar, isAgg, underlying, Tryd.underlying85, hL, Result.andThen, directF, storeVar, Value.cells, storeCells]
  rw [show ta.add 0 = ta by simp [Addr.add], run_store Tryd.prog W ta _ _ (by rfl)]
  simp [ht, hf]
  rw [run_store Tryd.prog _ (ta.add 1) _ _ (by rfl)]
  simp [ht2, hf2]
theorem noAsF (v : Value) (xT : TypeId) (w : World) : (Instr.typeAssert (.iface 85 v) xT 123 true).run Tryd.prog w = .ok (.tuple #[.nilIface, .bool false]) w := run_typeAssert_lacksB Tryd.underlying123 (by kernel_rfl) (by kernel_rfl) v xT w
theorem isUnF (v : Value) (xT : TypeId) (w : World) : (Instr.typeAssert (.iface 85 v) xT 126 true).run Tryd.prog w = .ok (.tuple #[.iface 85 v, .bool true]) w := run_typeAssert_hasB Tryd.underlying126 (by kernel_rfl) v xT w
theorem methodUn (v : Value) (w : World) : (Go.method 260 85 v "Unwrap").run Tryd.prog w = .ok (67, v) w := by kernel_rfl
theorem unwrap_any (n m : Int) (w : World) : Calls Tryd.prog 67 #[.agg #[.int .i64 n, .int .i64 m]] w fun e w' => e = .returned (.iface 37 (.int .i64 n)) ∧ w' = w.alloc (.cells #[.int .i64 n, .int .i64 m] 85) := by
  go_enter Tryd.func67, Tryd.ntmps67
  go_wp2
  go_ret
  exact ⟨rfl, rfl⟩
/-- The one variable of the program that is read: errors.errorType. -/
def Laid (w : World) : Prop := w.cell? ⟨0, 0, none⟩ = some (.iface 118 (.agg #[.pointer (some ⟨1, 28, none⟩)]))

end Go.Proofs.YtcjdjifooaeomaaDoor
