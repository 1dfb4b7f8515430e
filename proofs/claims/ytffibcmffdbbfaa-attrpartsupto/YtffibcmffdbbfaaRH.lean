/- Routes that came in, and slices of them. -/
import Derived.Test.YtffibcmffdbbfaaSR
import Derived.Test.YtffibcmffdbbfaaRE
namespace Go.Proofs.Ytffibcmffdbbfaa
open Go.ChangeShapes Go.WideShapes Go.RowKit

section
variable {H : Type} {enc : TypeId × Value → H} {w : World} {n : Nat} {cs : List Value} {x : DataW H × List MemPlace}
theorem cells_At : Try.prog.cellsOf 23 = 4 := by kernel_rfl
theorem rd_at (h : DataW.trod enc Try.prog w 0 (fun _ => true) true n 23 cs = some x) : ∃ a : At, cs = atL a := by
  obtain ⟨xs, m, _, _, hl, hlen, hf⟩ := DataW.trod_struct Try.underlying23 h
  rw [cells_At] at hl
  obtain ⟨c0, c1, c2, c3, rfl⟩ := four_of hl
  obtain ⟨y0, y1, y2, y3, rfl⟩ := four_of hlen
  have h0 := hf 0 _ rfl
  have h1 := hf 1 _ rfl
  have h2 := hf 2 _ rfl
  have h3 := hf 3 _ rfl
  simp [cells_U8, cells_I, cells_B] at h0 h1 h2 h3
  obtain ⟨a, rfl⟩ := rd_bool h0
  obtain ⟨b, rfl, _⟩ := rd_i64 h1
  obtain ⟨c, rfl, _⟩ := rd_i64 h2
  obtain ⟨d, rfl, _⟩ := rd_u8 h3
  exact ⟨⟨a, b, c, d⟩, rfl⟩
theorem open_at {b0 : Nat} {r : Reach} {v : Value} {d : DataW H} {p : List MemPlace} (hv : Value.okWide Try.prog w r b0 23 v) (h : DataW.Trod enc Try.prog w 0 (fun _ => true) true 23 v d p) : ∃ a : At, v = atV a := by
  obtain ⟨vs, rfl, _⟩ := okWide_struct Try.underlying23 hv
  obtain ⟨m, hm⟩ := h
  obtain ⟨a, e⟩ := rd_at hm
  refine ⟨a, ?_⟩
  have e' : vs.toList = atL a := by simpa [Value.cells] using e
  unfold atV
  rw [show vs = (atL a).toArray by rw [← e']]
  rfl
theorem open_ats {b0 : Nat} {r : Reach} {v : Value} {d : DataW H} {p : List MemPlace} (hv : Value.okWide Try.prog w r b0 27 v) (h : DataW.Trod enc Try.prog w 0 (fun _ => true) true 27 v d p) : ∃ l : List At, SliceAt w.heap.size 4 (AtAt w) v l := by
  obtain ⟨ad, len, cap, rfl⟩ := okWide_slice Try.underlying27 hv
  obtain ⟨m, hm⟩ := h
  obtain ⟨v, l, e, _, hs⟩ := rd_row (fun _ : At => True) (fun cs a => cs = atL a) (el := AtAt w) Try.underlying27 cells_At (by decide) (fun m cs y hy => by obtain ⟨a, ha⟩ := rd_at hy; exact ⟨a, trivial, ha⟩) (fun b o cs a _ _ hc hj => by subst hc; exact atL_at hj) hm
  refine ⟨l, ?_⟩
  simp [Value.cells] at e
  rw [e]
  exact hs
end
end Go.Proofs.Ytffibcmffdbbfaa
