/- Routes that came in, and slices of them. -/
import Derived.Test.YtphhfjfdanlhiaaSR
import Derived.Test.YtphhfjfdanlhiaaRO
namespace Go.Proofs.Ytphhfjfdanlhiaa
open Go.ChangeShapes Go.WideShapes Go.RowKit

section
variable {H : Type} {enc : TypeId × Value → H} {w : World} {n : Nat} {cs : List Value} {x : DataW H × List MemPlace}
theorem cells_At : Try.prog.cellsOf 29 = 4 := by kernel_rfl
theorem rd_at (h : DataW.trod enc Try.prog w 0 (fun _ => true) true n 29 cs = some x) : ∃ a : At, (0 ≤ a.tags ∧ a.tags < 256) ∧ (-9223372036854775808 ≤ a.cost ∧ a.cost ≤ 9223372036854775807) ∧ cs = atL a := by
  obtain ⟨xs, m, _, _, hl, hlen, hf⟩ := DataW.trod_struct Try.underlying29 h
  rw [cells_At] at hl
  obtain ⟨c0, c1, c2, c3, rfl⟩ := four_of hl
  obtain ⟨y0, y1, y2, y3, rfl⟩ := four_of hlen
  have h0 := hf 0 _ rfl
  have h1 := hf 1 _ rfl
  have h2 := hf 2 _ rfl
  have h3 := hf 3 _ rfl
  simp [cells_U8, cells_I, cells_B] at h0 h1 h2 h3
  obtain ⟨a, rfl⟩ := rd_bool h0
  obtain ⟨b, rfl, _⟩ := rd_i64 h1
  obtain ⟨c, rfl, hc⟩ := rd_i64 h2
  obtain ⟨d, rfl, hd⟩ := rd_u8 h3
  exact ⟨⟨a, b, c, d⟩, ⟨by show (0 : Int) ≤ (d : Nat); omega, by show ((d : Nat) : Int) < 256; omega⟩, hc, rfl⟩
theorem open_atT {b0 : Nat} {r : Reach} {v : Value} {d : DataW H} {p : List MemPlace} (hv : Value.okWide Try.prog w r b0 29 v) (h : DataW.Trod enc Try.prog w 0 (fun _ => true) true 29 v d p) : ∃ a : At, (0 ≤ a.tags ∧ a.tags < 256) ∧ (-9223372036854775808 ≤ a.cost ∧ a.cost ≤ 9223372036854775807) ∧ v = atV a := by
  obtain ⟨vs, rfl, _⟩ := okWide_struct Try.underlying29 hv
  obtain ⟨m, hm⟩ := h
  obtain ⟨a, ht, hc, e⟩ := rd_at hm
  refine ⟨a, ht, hc, ?_⟩
  have e' : vs.toList = atL a := by simpa [Value.cells] using e
  unfold atV
  rw [show vs = (atL a).toArray by rw [← e']]
  rfl
theorem open_at {b0 : Nat} {r : Reach} {v : Value} {d : DataW H} {p : List MemPlace} (hv : Value.okWide Try.prog w r b0 29 v) (h : DataW.Trod enc Try.prog w 0 (fun _ => true) true 29 v d p) : ∃ a : At, v = atV a := by
  obtain ⟨a, _, _, e⟩ := open_atT hv h
  exact ⟨a, e⟩
end
end Go.Proofs.Ytphhfjfdanlhiaa
