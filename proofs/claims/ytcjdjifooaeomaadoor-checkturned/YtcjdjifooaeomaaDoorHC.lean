/- What Covers does, and the reckoning by bits. -/
import Derived.Test.YtcjdjifooaeomaaDoorHB
namespace Go.Proofs.YtcjdjifooaeomaaDoor
open Go.RowKit

theorem cov_f1 {a c : Nat} {b d : Int} (h : mayP a b = false) : covP a b c d = false := by simp [covP, h]
theorem cov_f2 {a c : Nat} {b d : Int} (h : mayP c d = false) : covP a b c d = false := by simp [covP, h]
theorem cov_f3 {a c : Nat} {b d : Int} (h : ¬ b ≤ d) : covP a b c d = false := by simp [covP, h]
theorem cov_t {a c : Nat} {b d : Int} (h1 : mayP a b = true) (h2 : mayP c d = true) (h3 : b ≤ d) : covP a b c d = decide (fstP c b.toNat = a) := by simp [covP, h1, h2, h3]
/-- Two prefixes in boxes. -/
theorem two_pf (w : World) (a c : Nat) (b d : Int) {U : World} {b1 b2 : Nat} (hU : U = (w.alloc (.cells #[.int .u32 a, .int .i64 b] 74)).alloc (.cells #[.int .u32 c, .int .i64 d] 74)) (hb1 : b1 = w.heap.size) (hb2 : b2 = w.heap.size + 1) :
    Below w.heap.size w U ∧ (∀ p : BelOf U, p.w.cell? ⟨b1, 0, none⟩ = some (.int .u32 a)) ∧ (∀ p : BelOf U, p.w.cell? ⟨b1, 1, none⟩ = some (.int .i64 b)) ∧ (∀ p : BelOf U, p.w.cell? ⟨b2, 0, none⟩ = some (.int .u32 c)) ∧ ∀ p : BelOf U, p.w.cell? ⟨b2, 1, none⟩ = some (.int .i64 d) := by
  have s1 : (w.alloc (.cells #[.int .u32 a, .int .i64 b] 74)).heap.size = w.heap.size + 1 := by simp
  have hwU : Below w.heap.size w U := by rw [hU]; exact bel_alloc (bel_alloc (Below.refl _ _) _) _
  have hc1 : U.heap[b1]? = some (.cells #[.int .u32 a, .int .i64 b] 74 (0, 0)) := by
    rw [hU]
    exact pf_block (bel_alloc (Below.refl _ _) _) (pf_new _ _ _ hb1)
  have hc2 : U.heap[b2]? = some (.cells #[.int .u32 c, .int .i64 d] 74 (0, 0)) := by rw [hU]; exact pf_new _ _ _ (by rw [s1]; exact hb2)
  obtain ⟨C0, C1⟩ := cells_two hc1
  obtain ⟨D0, D1⟩ := cells_two hc2
  have l1 := (Array.getElem?_eq_some_iff.1 hc1).1
  have l2 := (Array.getElem?_eq_some_iff.1 hc2).1
  exact ⟨hwU, bel_cell l1 C0, bel_cell l1 C1, bel_cell l2 D0, bel_cell l2 D1⟩
end Go.Proofs.YtcjdjifooaeomaaDoor
