/- The law's own examples of clauses. -/
import Derived.Test.YtphhfjfdanlhiaaFF
namespace Go.Proofs.Ytphhfjfdanlhiaa
open Go.RowKit Go.Lib

def exC : ClD := ⟨true, 0, 0, 1, 0, false, 4, 0, 2, 0⟩
theorem exC_ok : ∀ c ∈ [exC], c.ok := fun c hc => by
  obtain rfl := List.mem_singleton.1 hc
  refine ⟨?_, ?_, ?_, ?_, ?_, ?_, ?_, ?_, ?_⟩ <;> decide
theorem ex_do : doP [exC] 0 0 ⟨true, 100, 0, 3⟩ = ⟨true, 100, 2, 7⟩ := by
  unfold doP doR
  rw [if_pos rfl, if_pos (by decide)]
  unfold oneP
  rw [if_neg (by decide)]
  rw [at_eq]
  refine ⟨rfl, rfl, ?_, by decide⟩
  show sumI 0 2 = 2
  exact sum_small (by decide) (by decide) (by decide) (by decide)
/-- One clause in a block of its own. -/
theorem one_cl {X : World} {b : Nat} {c : ClD} (h : X.heap[b]? = some (clB c)) : SliceAt X.heap.size 10 (ClAt X) (.slice (some ⟨b, 0, none⟩) 1 1) [c] := by
  refine ⟨some ⟨b, 0, none⟩, 1, rfl, by simp, fun i x hx => ⟨b, 0, rfl, (Array.getElem?_eq_some_iff.1 h).1, ?_⟩⟩
  match i, hx with
  | 0, hx =>
    obtain rfl : c = x := by simpa using hx
    exact cl_cell h
  | i + 1, hx => simp at hx
end Go.Proofs.Ytphhfjfdanlhiaa
