/- Eval. -/
import Derived.Test.YtahjkkegbcalnaaDoorD0
import Derived.LoopTactic
import Derived.WalkSmall
import Derived.Handy
namespace Go.Proofs.YtahjkkegbcalnaaDoor
open Go.RowKit

/-- Whether YES is come to from a node on, in so many steps. -/
def evalF (ns : List Nd) (f : Int → Bool) : Nat → Int → Bool
  | 0, k => decide (k = 1)
  | n + 1, k => if (getN ns k).v < 1024 then evalF ns f n (if f (getN ns k).v = true then (getN ns k).hi else (getN ns k).lo) else decide (k = 1)
def evalP (ns : List Nd) (f : Int → Bool) (k : Int) : Bool := evalF ns f ns.length k

theorem getN_in {ns : List Nd} {i : Nat} (h : i < ns.length) : getN ns i = ndAt ns i := by simp [getN, hasB_nat.2 h]
theorem getN_out {ns : List Nd} {k : Int} (h : hasB ns k = false) : getN ns k = ⟨1024, 0, 0⟩ := by simp [getN, h]
/-- A node that asks something is there, and goes to nodes of smaller numbers. -/
theorem asks {most : Int} {ns : List Nd} (h : Good most ns) {k : Int} (hv : (getN ns k).v < 1024) : ∃ i : Nat, k = i ∧ 2 ≤ i ∧ i < ns.length ∧ (∃ a : Nat, (getN ns k).lo = a ∧ a < i) ∧ (∃ a : Nat, (getN ns k).hi = a ∧ a < i) := by
  cases hb : hasB ns k with
  | false => rw [getN_out hb] at hv; simp at hv
  | true =>
    obtain ⟨i, rfl, hi⟩ := hasB_elim hb
    rw [getN_in hi] at hv ⊢
    have h2 : 2 ≤ i := by
      obtain ⟨l, rfl⟩ := h.two
      match i with
      | 0 => simp [ndAt] at hv
      | 1 => simp [ndAt] at hv
      | i + 2 => omega
    obtain ⟨_, _, ⟨a, h3, h4, _⟩, ⟨b, h5, h6, _⟩, _⟩ := h.nodes i h2 hi
    exact ⟨i, rfl, h2, hi, ⟨a, h3, h4⟩, ⟨b, h5, h6⟩⟩
theorem asks_nonneg {most : Int} {ns : List Nd} (h : Good most ns) {k : Int} (hv : (getN ns k).v < 1024) : 0 ≤ (getN ns k).v := by
  obtain ⟨i, rfl, h2, hi, _⟩ := asks h hv
  rw [getN_in hi]
  exact (h.nodes i h2 hi).1
theorem evalF_more {most : Int} {ns : List Nd} (h : Good most ns) (f : Int → Bool) : ∀ (n : Nat) (k : Int), k.toNat < n → evalF ns f (n + 1) k = evalF ns f n k
  | 0, k, hk => by omega
  | n + 1, k, hk => by
    have e1 : ∀ j, evalF ns f (j + 1) k = if (getN ns k).v < 1024 then evalF ns f j (if f (getN ns k).v = true then (getN ns k).hi else (getN ns k).lo) else decide (k = 1) := fun _ => rfl
    rw [e1, e1]
    by_cases hv : (getN ns k).v < 1024
    · rw [if_pos hv, if_pos hv]
      obtain ⟨i, rfl, _, _, ⟨a, ha, ha'⟩, ⟨b, hb, hb'⟩⟩ := asks h hv
      refine evalF_more h f n _ ?_
      split <;> omega
    · rw [if_neg hv, if_neg hv]
theorem evalP_step {most : Int} {ns : List Nd} (h : Good most ns) (f : Int → Bool) {k : Int} (hv : (getN ns k).v < 1024) :
    evalP ns f k = evalP ns f (if f (getN ns k).v = true then (getN ns k).hi else (getN ns k).lo) := by
  unfold evalP
  obtain ⟨L, hL⟩ : ∃ L, ns.length = L + 1 := ⟨ns.length - 1, by have := h.len; omega⟩
  rw [hL, evalF_more h f L (if f (getN ns k).v = true then (getN ns k).hi else (getN ns k).lo)]
  · rw [evalF, if_pos hv]
  · obtain ⟨i, rfl, _, hi, ⟨a, ha, ha'⟩, ⟨b, hb, hb'⟩⟩ := asks h hv
    split <;> omega
theorem evalP_end {ns : List Nd} (f : Int → Bool) {k : Int} (hv : ¬ (getN ns k).v < 1024) : evalP ns f k = decide (k = 1) := by
  unfold evalP
  cases ns.length with
  | zero => rfl
  | succ n => rw [evalF, if_neg hv]

theorem below_block {W W' : World} {b : Nat} {o : Obj} (h : Below W.heap.size W W') (hb : W.heap[b]? = some o) : W'.heap[b]? = some o := by
  rw [h.block b (Array.getElem?_eq_some_iff.1 hb).1]; exact hb
theorem Below.up {B : Nat} {w W W' : World} (h : Below B w W) (h' : Below W.heap.size W W') (hB : B ≤ w.heap.size) : Below B w W' := h.trans (h'.mono (Nat.le_trans hB h.size))
theorem boxed {w w3 w4 : World} {x y z : Int} (h : Below w.heap.size w w3) (hb : Below (w3.alloc (.cells #[.int .i64 x, .int .i64 y, .int .i64 z] 35)).heap.size (w3.alloc (.cells #[.int .i64 x, .int .i64 y, .int .i64 z] 35)) w4) (n : Nd) :
    w4.cell? ⟨w3.heap.size, 0, none⟩ = some (.int .i64 x) ∧ w4.cell? ⟨w3.heap.size, 1, none⟩ = some (.int .i64 y) ∧ w4.cell? ⟨w3.heap.size, 2, none⟩ = some (.int .i64 z) ∧
    w4.frozen? ⟨w3.heap.size, 0, none⟩ = false ∧ w4.frozen? ⟨w3.heap.size, 1, none⟩ = false ∧ w4.frozen? ⟨w3.heap.size, 2, none⟩ = false ∧
    (((w4.setCell ⟨w3.heap.size, 0, none⟩ (.int .i64 n.v)).setCell ⟨w3.heap.size, 1, none⟩ (.int .i64 n.lo)).setCell ⟨w3.heap.size, 2, none⟩ (.int .i64 n.hi)).heap[w3.heap.size]? = some (.cells #[.int .i64 n.v, .int .i64 n.lo, .int .i64 n.hi] 35 (0, 0)) ∧
    Below w.heap.size w (((w4.setCell ⟨w3.heap.size, 0, none⟩ (.int .i64 n.v)).setCell ⟨w3.heap.size, 1, none⟩ (.int .i64 n.lo)).setCell ⟨w3.heap.size, 2, none⟩ (.int .i64 n.hi)) := by
  have e := below_block hb (heap_new_at w3 (.cells #[.int .i64 x, .int .i64 y, .int .i64 z] 35) _ rfl)
  refine ⟨by simp [World.cell?, e], by simp [World.cell?, e], by simp [World.cell?, e], by simp [World.frozen?, e], by simp [World.frozen?, e], by simp [World.frozen?, e], ?_, ?_⟩
  · have e1 := heap_set_at (i := 2) (heap_set_at (i := 1) (heap_set_at (i := 0) e (.int .i64 n.v)) (.int .i64 n.lo)) (.int .i64 n.hi)
    simpa using e1
  · have := h.size
    exact (((Below.up (Below.up h ((Below.refl _ _).alloc (Nat.le_refl _) _) (Nat.le_refl _)) hb (Nat.le_refl _)).setCell this _).setCell this _).setCell this _
end Go.Proofs.YtahjkkegbcalnaaDoor
