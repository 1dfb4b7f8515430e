/- The law's own examples of clauses. -/
import Derived.Test.YthhonljejkjicaaFF
namespace Go.Proofs.Ythhonljejkjicaa
open Go.RowKit Go.Lib

def exC : ClD := ⟨true, 0, 0, 1, 0, false, 4, 0, 2, 0⟩
theorem exC_ok : ∀ c ∈ [exC], c.ok := fun c hc => by
  obtain rfl := List.mem_singleton.1 hc
  refine ⟨?_, ?_, ?_, ?_, ?_, ?_, ?_, ?_, ?_⟩ <;> decide
theorem ex_do : doP [exC] 0 0 ⟨true, 100, 0, 3⟩ = ⟨true, 100, 2, 7⟩ := by
  unfold doP doR
  rw [if_pos rfl, if_pos (by decide)]
  unfold oneP
  rw [if_neg (by decide)]
  rw [at_eq]
  refine ⟨rfl, rfl, ?_, by decide⟩
  show sumI 0 2 = 2
  exact sum_small (by decide) (by decide) (by decide) (by decide)
/-- One clause in a block of its own. -/
theorem one_cl {X : World} {b : Nat} {c : ClD} (h : X.heap[b]? = some (clB c)) : SliceAt X.heap.size 10 (ClAt X) (.slice (some ⟨b, 0, none⟩) 1 1) [c] := by
  refine ⟨some ⟨b, 0, none⟩, 1, rfl, by simp, fun i x hx => ⟨b, 0, rfl, (Array.getElem?_eq_some_iff.1 h).1, ?_⟩⟩
  match i, hx with
  | 0, hx =>
    obtain rfl : c = x := by simpa using hx
    exact cl_cell h
  | i + 1, hx => simp at hx
set_option maxHeartbeats 4000000 in
set_option maxRecDepth 20000 in
theorem awake11_any (w : World) : Calls Try.prog 9 #[] w fun e w' => e = .returned (.bool true) ∧ Below w.heap.size w w' := by
  have hd := fun (X : World) (h : X.heap[w.heap.size]? = some (clB exC)) => do_any exC_ok 0 0 (by decide) ⟨true, 100, 0, 3⟩ (by decide) X (one_cl h)
  rw [ex_do] at hd
  have HB : Hid ((w.alloc (clB exC)).heap[w.heap.size]? = some (clB exC) ∧ Below w.heap.size w (w.alloc (clB exC))) := ⟨pf_new _ _ _ rfl, bel_alloc (Below.refl _ _) _⟩
  unfold atV pfV at hd
  dsimp only at hd
  unfold clB exC at HB hd
  go_enter Try.func9, Try.ntmps9
  go_wp2_with (go_at_call 12; refine (hd _ HB.out.1).mono ?_; rintro e W1 ⟨rfl, q1⟩)
  go_ret
  exact ⟨rfl, bel_up HB.out.2 q1 HB.out.2.size⟩
end Go.Proofs.Ythhonljejkjicaa
