/- Variable, and the document's examples. -/
import Derived.Test.YthlbelpooplgeaaDoorE
import Derived.Test.YthlbelpooplgeaaDoorV
namespace Go.Proofs.YthlbelpooplgeaaDoor
open Go.RowKit

theorem errV_zero : errV 0 = .nilIface := rfl
section
variable {w : World} {p g m cap : Nat} {most : Int} {ns : List Nd}

/-- The arena is as it was where only other blocks have turned. -/
theorem Kept.up {own : List Nat} {w W W' : World} (h : Kept own w W) (h' : Below W.heap.size W W') : Kept own w W' :=
  ⟨h'.os.trans h.os, h'.tape.trans h.tape, h'.output.trans h.output, Nat.le_trans h.size h'.size, fun k hk hn => (h'.block k (Nat.lt_of_lt_of_le hk h.size)).trans (h.block k hk hn)⟩
/-- What was there ahead of an arena is there behind what is made in it. -/
theorem Below.kept {B : Nat} {own : List Nat} {w W W' : World} (h : Below B w W) (h' : Kept own W W') (hB : B ≤ w.heap.size) (hown : ∀ k ∈ own, B ≤ k) : Below B w W' :=
  ⟨h'.os.trans h.os, h'.tape.trans h.tape, h'.output.trans h.output, Nat.le_trans h.size h'.size, fun k hk => (h'.block k (by have := h.size; omega) (fun hm => by have := hown k hm; omega)).trans (h.block k hk)⟩

set_option maxHeartbeats 400000 in
theorem variable_any (h : ArenaAt 48 27 w p g m cap most ns) (v : Int) :
    Calls Tryd.prog 12 #[.pointer (some ⟨p, 0, none⟩), .int .i64 v] w fun e w' => ∃ g' cap', e = .returned (.tuple #[.int .i64 (mkR most ns v 0 1).1, errV (mkR most ns v 0 1).2.1]) ∧ ArenaAt 48 27 w' p g' m cap' most (mkR most ns v 0 1).2.2 ∧ Kept [p, g, m] w w' ∧ (g' = g ∨ w.heap.size ≤ g') := by
  have hm := mk_any h v 0 1
  generalize mkR most ns v 0 1 = r at hm ⊢
  clear h
  go_enter Tryd.func12, Tryd.ntmps12
  go_wp2_with fail
  refine hm.mono ?_
  rintro e w1 ⟨g', cap', rfl, h1, h2, h3⟩
  go_wp2_with fail
  go_ret2
  exact ⟨g', cap', rfl, h1, h2, h3⟩
end

theorem enterAwake (args : Array Value) (W : World) : Sem.run Tryd.prog (callFunc 16 args) W = .ok (.enter 16 args) W := by kernel_rfl
set_option maxHeartbeats 400000 in
theorem awakeF_any (x : Int) (w : World) : Calls Tryd.prog 16 #[.int .i64 x] w fun e w' => e = .returned (.bool (x == 3)) ∧ w' = w := by
  go_enter Tryd.func16, Tryd.ntmps16
  go_wp2
  go_ret
  exact ⟨rfl, rfl⟩

def three : List Nd := [⟨1024, 0, 0⟩, ⟨1024, 1, 1⟩, ⟨3, 0, 1⟩]
theorem mk3a : mkR (clampN 9) first2 3 0 1 = (2, 0, three) := by rfl
theorem mk3b : mkR (clampN 9) three 3 0 1 = (2, 0, three) := by rfl
theorem mk3c : mkR (clampN 9) three 3 1 1 = (1, 0, three) := by rfl
theorem ev3 : evalP three (fun x => x == 3) 2 = true := by decide

/-- What is below B stays, and the arena's blocks stay from B on. -/
theorem next {B : Nat} {w W W' : World} {p g m g' : Nat} (b : Below B w W) (hB : B ≤ w.heap.size) (hp : B ≤ p) (hg : B ≤ g) (hm : B ≤ m) (k : Kept [p, g, m] W W') (e : g' = g ∨ W.heap.size ≤ g') : Below B w W' ∧ B ≤ g' := by
  have := b.size
  refine ⟨Below.kept b k hB (fun x hx => by simp at hx; omega), ?_⟩
  omega

set_option maxHeartbeats 400000 in
theorem awake_any (w : World) :
    Calls Tryd.prog 6 #[] w fun e w' => e = .returned (.bool true) ∧ Below w.heap.size w w' := by
  have hnil := errV_zero
  go_enter Tryd.func6, Tryd.ntmps6
  go_wp2_with fail
  refine (of_any 9 w).mono ?_
  rintro e w1 ⟨rfl, a1, b1, s1⟩
  obtain ⟨p, hp, hp'⟩ : ∃ p, w.heap.size ≤ p ∧ p = w.heap.size + 2 := ⟨_, by omega, rfl⟩
  obtain ⟨m, hm, hm'⟩ : ∃ m, w.heap.size ≤ m ∧ m = w.heap.size + 1 := ⟨_, by omega, rfl⟩
  rw [← hp', ← hm'] at a1
  rw [← hp']
  clear hp' hm' s1
  have v1 := variable_any a1 3
  rw [mk3a] at v1
  go_wp2_with fail
  refine v1.mono ?_
  rintro e w2 ⟨g2, c2, rfl, a2, k2, e2⟩
  obtain ⟨b2, hg2⟩ := next b1 (Nat.le_refl _) hp (Nat.le_refl _) hm k2 e2
  clear v1 a1 b1 k2 e2
  have v2 := variable_any a2 3
  rw [mk3b] at v2
  go_wp2_with fail
  refine v2.mono ?_
  rintro e w3 ⟨g3, c3, rfl, a3, k3, e3⟩
  obtain ⟨b3, hg3⟩ := next b2 (Nat.le_refl _) hp hg2 hm k3 e3
  clear v2 a2 b2 k3 e3
  have v3 := mk_any a3 3 1 1
  rw [mk3c] at v3
  go_wp2_with fail
  refine v3.mono ?_
  rintro e w4 ⟨g4, c4, rfl, a4, k4, e4⟩
  obtain ⟨b4, hg4⟩ := next b3 (Nat.le_refl _) hp hg3 hm k4 e4
  clear v3 a3 b3 k4 e4
  have hl := len_any a4
  have he := eval_any a4 2 16 #[] (fun x => x == 3) enterAwake (fun x W _ => (awakeF_any x W).mono fun e W' h => ⟨h.1, h.2 ▸ Below.refl _ _⟩)
  rw [ev3] at he
  have e3 : ((three.length : Nat) : Int) = 3 := rfl
  rw [e3] at hl
  clear e3 a4
  go_wp2_with fail
  refine hl.mono ?_
  rintro e _ ⟨rfl, rfl⟩
  go_wp2_with fail
  refine he.mono ?_
  rintro e w5 ⟨rfl, b5⟩
  go_wp2_with fail
  go_ret
  exact ⟨rfl, Below.up b4 b5 (Nat.le_refl _)⟩
end Go.Proofs.YthlbelpooplgeaaDoor
