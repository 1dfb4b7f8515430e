/- Clauses as they lie. No program. -/
import Derived.Test.YtphhfjfdanlhiaaUA
import Derived.Test.YtphhfjfdanlhiaaSL
import Derived.Test.YtphhfjfdanlhiaaChecked
import Derived.WalkKit
namespace Go.Proofs.Ytphhfjfdanlhiaa
open Go.RowKit Go.Lib

/-- A clause, a link as values. -/
def clV (c : ClD) : Value := .agg #[.bool c.any, .int .u32 c.a, .int .i64 c.b, .int .u8 c.wi, .int .u8 c.ou, .bool c.drop, .int .u8 c.se, .int .u8 c.cl, .int .i64 c.more, .int .i64 c.pref]
def ClAt (W : World) (b o : Nat) (c : ClD) : Prop :=
  W.cell? ⟨b, o, none⟩ = some (.bool c.any) ∧ W.cell? ⟨b, o + 1, none⟩ = some (.int .u32 c.a) ∧ W.cell? ⟨b, o + 2, none⟩ = some (.int .i64 c.b) ∧ W.cell? ⟨b, o + 3, none⟩ = some (.int .u8 c.wi) ∧ W.cell? ⟨b, o + 4, none⟩ = some (.int .u8 c.ou) ∧
  W.cell? ⟨b, o + 5, none⟩ = some (.bool c.drop) ∧ W.cell? ⟨b, o + 6, none⟩ = some (.int .u8 c.se) ∧ W.cell? ⟨b, o + 7, none⟩ = some (.int .u8 c.cl) ∧ W.cell? ⟨b, o + 8, none⟩ = some (.int .i64 c.more) ∧ W.cell? ⟨b, o + 9, none⟩ = some (.int .i64 c.pref)
theorem ClAt.keep {W W' : World} {B b o : Nat} {c : ClD} (h : ClAt W b o c) (hb : b < B) (k : Cells B W W') : ClAt W' b o c :=
  ⟨k _ _ _ hb h.1, k _ _ _ hb h.2.1, k _ _ _ hb h.2.2.1, k _ _ _ hb h.2.2.2.1, k _ _ _ hb h.2.2.2.2.1, k _ _ _ hb h.2.2.2.2.2.1, k _ _ _ hb h.2.2.2.2.2.2.1, k _ _ _ hb h.2.2.2.2.2.2.2.1, k _ _ _ hb h.2.2.2.2.2.2.2.2.1, k _ _ _ hb h.2.2.2.2.2.2.2.2.2⟩
def clW (c : ClD) : List Value := [.bool c.any, .int .u32 c.a, .int .i64 c.b, .int .u8 c.wi, .int .u8 c.ou, .bool c.drop, .int .u8 c.se, .int .u8 c.cl, .int .i64 c.more, .int .i64 c.pref]
theorem clW_at {W : World} {b o : Nat} {c : ClD} (h : ∀ j u, (clW c)[j]? = some u → W.cell? ⟨b, o + j, none⟩ = some u) : ClAt W b o c :=
  ⟨h 0 _ rfl, h 1 _ rfl, h 2 _ rfl, h 3 _ rfl, h 4 _ rfl, h 5 _ rfl, h 6 _ rfl, h 7 _ rfl, h 8 _ rfl, h 9 _ rfl⟩
theorem clW_one (c : ClD) : ∀ u ∈ clW c, u.oneCell' = true := by
  intro u hu
  simp [clW] at hu
  rcases hu with rfl | rfl | rfl | rfl | rfl | rfl | rfl | rfl | rfl | rfl <;> rfl
theorem infoCl : (Try.prog.info? 53).map (fun i => (i.zero, i.size, i.bytes)) = some (some (.agg #[.bool false, .int .u32 0, .int .i64 0, .int .u8 0, .int .u8 0, .bool false, .int .u8 0, .int .u8 0, .int .i64 0, .int .i64 0]), 10, 48) := by kernel_rfl
end Go.Proofs.Ytphhfjfdanlhiaa
