/- Routes as they lie in memory. No program. -/
import Derived.Test.YtphhfjfdanlhiaaRA
import Derived.Test.YtphhfjfdanlhiaaHQ
import Derived.Test.YtphhfjfdanlhiaaOW
import Derived.Test.YtphhfjfdanlhiaaSL
import Derived.Test.YtphhfjfdanlhiaaChecked
import Derived.WalkKit
namespace Go.Proofs.Ytphhfjfdanlhiaa
open Go.RowKit

theorem bel_alloc2 (w : World) (o p : Obj) : Below w.heap.size w ((w.alloc o).alloc p) := bel_alloc (bel_alloc (Below.refl _ _) o) p
theorem bool_ret {x y : Bool} (h : x = true ↔ y = true) : Ending.returned (Value.bool x) = Ending.returned (Value.bool y) := by rw [bool_of h]
theorem at_cells {U : World} {b : Nat} {x y z u : Value} {t : TypeId} (h : U.heap[b]? = some (.cells #[x, y, z, u] t (0, 0))) :
    (∀ p : BelOf U, p.w.cell? ⟨b, 0, none⟩ = some x) ∧ (∀ p : BelOf U, p.w.cell? ⟨b, 1, none⟩ = some y) ∧ (∀ p : BelOf U, p.w.cell? ⟨b, 2, none⟩ = some z) ∧ (∀ p : BelOf U, p.w.cell? ⟨b, 3, none⟩ = some u) := by
  have l := (Array.getElem?_eq_some_iff.1 h).1
  obtain ⟨c0, c1, c2, c3⟩ := cells_four h
  exact ⟨bel_cell l c0, bel_cell l c1, bel_cell l c2, bel_cell l c3⟩
theorem int_cases (x y : Int) : x = y ∨ (decide (y < x) = true ∧ decide (x < y) = false ∧ (x == y) = false ∧ decide (x = y) = false) ∨ (decide (y < x) = false ∧ decide (x < y) = true ∧ (x == y) = false ∧ decide (x = y) = false) := by
  by_cases h1 : x = y
  · exact .inl h1
  · by_cases h2 : y < x
    · exact .inr (.inl ⟨decide_eq_true h2, decide_eq_false (by omega), by simpa using h1, decide_eq_false h1⟩)
    · exact .inr (.inr ⟨decide_eq_false h2, decide_eq_true (by omega), by simpa using h1, decide_eq_false h1⟩)
theorem int_self (x : Int) : decide (x < x) = false ∧ (x == x) = true ∧ decide (x = x) = true := ⟨decide_eq_false (by omega), by simp, decide_eq_true rfl⟩
/-- A route's cells. -/
def atL (a : At) : List Value := [.bool a.ok, .int .i64 a.pref, .int .i64 a.cost, .int .u8 a.tags]
def AtAt (W : World) (b o : Nat) (a : At) : Prop :=
  W.cell? ⟨b, o, none⟩ = some (.bool a.ok) ∧ W.cell? ⟨b, o + 1, none⟩ = some (.int .i64 a.pref) ∧ W.cell? ⟨b, o + 2, none⟩ = some (.int .i64 a.cost) ∧ W.cell? ⟨b, o + 3, none⟩ = some (.int .u8 a.tags)
theorem atL_at {W : World} {b o : Nat} {a : At} (h : ∀ j u, (atL a)[j]? = some u → W.cell? ⟨b, o + j, none⟩ = some u) : AtAt W b o a := ⟨h 0 _ rfl, h 1 _ rfl, h 2 _ rfl, h 3 _ rfl⟩
theorem AtAt.keep {W W' : World} {b o B : Nat} {a : At} (h : AtAt W b o a) (hb : b < B) (k : Cells B W W') : AtAt W' b o a :=
  ⟨k _ _ _ hb h.1, k _ _ _ hb h.2.1, k _ _ _ hb h.2.2.1, k _ _ _ hb h.2.2.2⟩
theorem ats_keep {W W' : World} {v : Value} {l : List At} (h : SliceAt W.heap.size 4 (AtAt W) v l) (k : Below W.heap.size W W') : SliceAt W'.heap.size 4 (AtAt W') v l :=
  h.mono k.size fun _ _ _ hb h => h.keep hb (cells_below k (Nat.le_refl _))
/-- A route in a block of its own. -/
def atB (a : At) : Obj := .cells #[.bool a.ok, .int .i64 a.pref, .int .i64 a.cost, .int .u8 a.tags] 29 (0, 0)
/-- A route's four cells written. -/
def put4 (w : World) (b : Nat) (a : At) : World := (((w.setCell ⟨b, 0, none⟩ (.bool a.ok)).setCell ⟨b, 1, none⟩ (.int .i64 a.pref)).setCell ⟨b, 2, none⟩ (.int .i64 a.cost)).setCell ⟨b, 3, none⟩ (.int .u8 a.tags)
theorem put4_at {w : World} {b : Nat} {o : At} (h : w.heap[b]? = some (atB o)) (a : At) : (put4 w b a).heap[b]? = some (atB a) := by
  have e0 : (w.setCell ⟨b, 0, none⟩ (.bool a.ok)).heap[b]? = some (.cells #[.bool a.ok, .int .i64 o.pref, .int .i64 o.cost, .int .u8 o.tags] 29 (0, 0)) := set_at (i := 0) h _
  have e1 := set_at (i := 1) e0 (.int .i64 a.pref)
  have e2 := set_at (i := 2) e1 (.int .i64 a.cost)
  exact set_at (i := 3) e2 (.int .u8 a.tags)
theorem put4_off {w : World} {b q : Nat} {o : Obj} (h : w.heap[q]? = some o) (hne : q ≠ b) (a : At) : (put4 w b a).heap[q]? = some o := set_off (set_off (set_off (set_off h hne _) hne _) hne _) hne _
theorem put4_below {w W : World} {B b : Nat} (h : Below B w W) (hb : B ≤ b) (a : At) : Below B w (put4 W b a) := (((h.setCell hb _).setCell hb _).setCell hb _).setCell hb _
theorem at_cell {w : World} {b : Nat} {a : At} (h : w.heap[b]? = some (atB a)) : w.cell? ⟨b, 0, none⟩ = some (.bool a.ok) ∧ w.cell? ⟨b, 1, none⟩ = some (.int .i64 a.pref) ∧ w.cell? ⟨b, 2, none⟩ = some (.int .i64 a.cost) ∧ w.cell? ⟨b, 3, none⟩ = some (.int .u8 a.tags) := cells_four h
theorem at_free {w : World} {b : Nat} {a : At} (h : w.heap[b]? = some (atB a)) : w.frozen? ⟨b, 0, none⟩ = false ∧ w.frozen? ⟨b, 1, none⟩ = false ∧ w.frozen? ⟨b, 2, none⟩ = false ∧ w.frozen? ⟨b, 3, none⟩ = false := ⟨free_at h 0, free_at h 1, free_at h 2, free_at h 3⟩
theorem take_next {l : List At} {k : Nat} {a : At} (h : l[k]? = some a) : l.take (k + 1) = l.take k ++ [a] := by
  rw [List.take_add_one, h]
  rfl
end Go.Proofs.Ytphhfjfdanlhiaa
