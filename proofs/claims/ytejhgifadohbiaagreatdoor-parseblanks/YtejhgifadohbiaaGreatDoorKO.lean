/- errors.As at an error with a place: into a Fault, into an Errno. -/
import Derived.Test.YtejhgifadohbiaaGreatDoorKM
import Derived.Laws.Cells
import Derived.WalkSmall
import Derived.Handy
namespace Go.Proofs.YtejhgifadohbiaaGreatDoor
open Go.RowKit Go.Extern.Stop Go.Stop Go.Extern

theorem setF (ta b : Addr) (n m : Int) (o1 o2 : Value) (W : World) (hb : W.cell? b = some (.int .i64 n)) (hb2 : W.cell? (b.add 1) = some (.int .i64 m)) (ht : W.cell? ta = some o1) (ht2 : (W.setCell ta (.int .i64 n)).cell? (ta.add 1) = some o2) (hf : W.frozen? ta = false) (hf2 : (W.setCell ta (.int .i64 n)).frozen? (ta.add 1) = false) :
    (ReflectliteValue.set #[.agg #[.pointer (some ⟨5, 88, none⟩), .pointer (some ta), .int .u64 409], .agg #[.pointer (some ⟨5, 88, none⟩), .pointer (some b), .int .u64 153]]).run Tryz.prog W
      = .ok (.tuple #[]) ((W.setCell ta (.int .i64 n)).setCell (ta.add 1) (.int .i64 m)) := by
  have hL : (loadCells b 2).run Tryz.prog W = .ok #[.int .i64 n, .int .i64 m] W := run_loadCells_list W b [.int .i64 n, .int .i64 m] (by
    intro j v hj
    match j, hj with
    | 0, hj => simp at hj; subst hj; simpa [Addr.add] using hb
    | 1, hj => simp at hj; subst hj; simpa using hb2)
  change Sem.run _ (ReflectliteValue.parts (.agg #[.pointer (some ⟨5, 88, none⟩), .pointer (some ta), .int .u64 409]) >>= fun y => ReflectliteValue.parts (.agg #[.pointer (some ⟨5, 88, none⟩), .pointer (some b), .int .u64 153]) >>= _) _ = _
  simp only [Sem.run_bind, partsFa, partsF, Result.andThen]
  simp [ReflectliteValue.flagAddr, loadVar, isAgg, underlying, Tryz.underlying88, hL, Result.andThen, directF, storeVar, Value.cells, storeCells]
  rw [show ta.add 0 = ta by simp [Addr.add], run_store Tryz.prog W ta _ _ (by rfl)]
  simp [ht, hf]
  rw [run_store Tryz.prog _ (ta.add 1) _ _ (by rfl)]
  simp [ht2, hf2]
theorem noAsF (v : Value) (xT : TypeId) (w : World) : (Instr.typeAssert (.iface 88 v) xT 144 true).run Tryz.prog w = .ok (.tuple #[.nilIface, .bool false]) w := run_typeAssert_lacksB Tryz.underlying144 (by kernel_rfl) (by kernel_rfl) v xT w
theorem isUnF (v : Value) (xT : TypeId) (w : World) : (Instr.typeAssert (.iface 88 v) xT 147 true).run Tryz.prog w = .ok (.tuple #[.iface 88 v, .bool true]) w := run_typeAssert_hasB Tryz.underlying147 (by kernel_rfl) v xT w
theorem methodUn (v : Value) (w : World) : (Go.method 304 88 v "Unwrap").run Tryz.prog w = .ok (122, v) w := by kernel_rfl
theorem unwrap_any (n m : Int) (w : World) : Calls Tryz.prog 122 #[.agg #[.int .i64 n, .int .i64 m]] w fun e w' => e = .returned (.iface 39 (.int .i64 n)) ∧ w' = w.alloc (.cells #[.int .i64 n, .int .i64 m] 88) := by
  go_enter Tryz.func122, Tryz.ntmps122
  go_wp2
  go_ret
  exact ⟨rfl, rfl⟩
/-- The one variable of the program that is read: errors.errorType. -/
def Laid (w : World) : Prop := w.cell? ⟨0, 0, none⟩ = some (.iface 139 (.agg #[.pointer (some ⟨5, 34, none⟩)]))

end Go.Proofs.YtejhgifadohbiaaGreatDoor
