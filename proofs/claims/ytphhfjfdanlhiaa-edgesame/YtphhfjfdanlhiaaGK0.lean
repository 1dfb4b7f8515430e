/- A wire and two edges as they lie. -/
import Derived.Test.YtphhfjfdanlhiaaGE
namespace Go.Proofs.Ytphhfjfdanlhiaa
open Go.RowKit Go.Lib

/-- A wire in a block of its own. -/
def wiB (fr co : Nat) (ve vi : Value) : Obj := .cells #[.int .u8 fr, .int .u8 co, ve, vi] 24 (0, 0)
theorem wi_all {U : World} {b fr co : Nat} {ve vi : Value} (h : U.heap[b]? = some (wiB fr co ve vi)) : (∀ p : BelOf U, p.w.cell? ⟨b, 0, none⟩ = some (.int .u8 fr)) ∧ (∀ p : BelOf U, p.w.cell? ⟨b, 1, none⟩ = some (.int .u8 co)) ∧ (∀ p : BelOf U, p.w.cell? ⟨b, 2, none⟩ = some ve) ∧ (∀ p : BelOf U, p.w.cell? ⟨b, 3, none⟩ = some vi) := at_cells h
/-- An edge with its maps, as it lies in a row. -/
structure EdR where
  fr : Int
  cost : Int
  ve : Value
  vi : Value
  ex : List ClD
  im : List ClD
def edB2 (r s : EdR) : Obj := .cells #[.int .i64 r.fr, .int .i64 r.cost, r.ve, r.vi, .int .i64 s.fr, .int .i64 s.cost, s.ve, s.vi] 27 (0, 0)
theorem two_ed {X : World} {b : Nat} {r s : EdR} (h : X.heap[b]? = some (edB2 r s)) : ∀ (k : Nat) (x : EdR), [r, s][k]? = some x →
    X.cell? ⟨b, k * 4, none⟩ = some (.int .i64 x.fr) ∧ X.cell? ⟨b, k * 4 + 1, none⟩ = some (.int .i64 x.cost) ∧ X.cell? ⟨b, k * 4 + 2, none⟩ = some x.ve ∧ X.cell? ⟨b, k * 4 + 3, none⟩ = some x.vi
  | 0, x, hx => by
    obtain rfl : r = x := by simpa using hx
    refine ⟨?_, ?_, ?_, ?_⟩ <;> simp [World.cell?, h, edB2]
  | 1, x, hx => by
    obtain rfl : s = x := by simpa using hx
    refine ⟨?_, ?_, ?_, ?_⟩ <;> simp [World.cell?, h, edB2]
  | k + 2, x, hx => by simp at hx
end Go.Proofs.Ytphhfjfdanlhiaa
