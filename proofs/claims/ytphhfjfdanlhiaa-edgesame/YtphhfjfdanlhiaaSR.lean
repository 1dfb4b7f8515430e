/- What is read of what came in: numbers, bools, slices. -/
import Derived.Test.YtphhfjfdanlhiaaHBd
import Derived.Test.YtphhfjfdanlhiaaSL
namespace Go.Proofs.Ytphhfjfdanlhiaa
open Go.ChangeShapes Go.WideShapes Go.RowKit

theorem laidOut : laidOutB Try.prog = true := by kernel_rfl
theorem bounds_i64' {n : Int} (h : (Lit.int .i64 n).wf = true) : -9223372036854775808 ≤ n ∧ n ≤ 9223372036854775807 := by
  have := bounds_i64 h
  omega
section
variable {H : Type} {enc : TypeId × Value → H} {w : World} {n : Nat} {cs : List Value} {x : DataW H × List MemPlace}
theorem rd_u8 {c : Value} {y : DataW H × List MemPlace} (h : DataW.trod enc Try.prog w 0 (fun _ => true) true n 5 [c] = some y) : ∃ k : Nat, c = .int .u8 k ∧ k < 256 := by
  obtain ⟨m, e, _, hw⟩ := DataW.trod_int Try.underlying5 h
  obtain ⟨k, rfl, hk⟩ := bounds_u8' hw
  exact ⟨k, by simpa using e, hk⟩
theorem rd_u32 {c : Value} {y : DataW H × List MemPlace} (h : DataW.trod enc Try.prog w 0 (fun _ => true) true n 48 [c] = some y) : ∃ k : Nat, c = .int .u32 k ∧ k < 4294967296 := by
  obtain ⟨m, e, _, hw⟩ := DataW.trod_int Try.underlying48 h
  obtain ⟨k, rfl, hk⟩ := bounds_u32' hw
  exact ⟨k, by simpa using e, hk⟩
theorem rd_i64 {c : Value} {y : DataW H × List MemPlace} (h : DataW.trod enc Try.prog w 0 (fun _ => true) true n 3 [c] = some y) : ∃ k : Int, c = .int .i64 k ∧ -9223372036854775808 ≤ k ∧ k ≤ 9223372036854775807 := by
  obtain ⟨m, e, _, hw⟩ := DataW.trod_int Try.underlying3 h
  exact ⟨m, by simpa using e, bounds_i64' hw⟩
theorem rd_bool {c : Value} {y : DataW H × List MemPlace} (h : DataW.trod enc Try.prog w 0 (fun _ => true) true n 4 [c] = some y) : ∃ k : Bool, c = .bool k := by
  obtain ⟨m, e, _⟩ := DataW.trod_bool Try.underlying4 h
  exact ⟨m, by simpa using e⟩
theorem cells_U8 : Try.prog.cellsOf 5 = 1 := by kernel_rfl
theorem cells_U32 : Try.prog.cellsOf 48 = 1 := by kernel_rfl
theorem cells_I : Try.prog.cellsOf 3 = 1 := by kernel_rfl
theorem cells_B : Try.prog.cellsOf 4 = 1 := by kernel_rfl
theorem rd_row {α : Type} {t e z : Nat} (ok : α → Prop) (R : List Value → α → Prop) {el : Nat → Nat → α → Prop} (ht : Try.prog.underlying t = some (.slice e)) (hz : Try.prog.cellsOf e = z) (hz0 : 0 < z)
    (rd : ∀ m cs y, DataW.trod enc Try.prog w 0 (fun _ => true) true m e cs = some y → ∃ a, ok a ∧ R cs a)
    (hel : ∀ b o cs a, b < w.heap.size → cs.length = z → R cs a → (∀ j u, cs[j]? = some u → w.cell? ⟨b, o + j, none⟩ = some u) → el b o a)
    (h : DataW.trod enc Try.prog w 0 (fun _ => true) true n t cs = some x) : ∃ v l, cs = [v] ∧ (∀ a ∈ l, ok a) ∧ SliceAt w.heap.size z el v l := by
  rcases DataW.trod_slice ht h with ⟨rfl, _⟩ | ⟨a, len, cap, elems, rest, m, _, rfl, _, hb, hl, hm, hlen, hi, _, _⟩
  · exact ⟨_, [], rfl, by simp, slice_nil _ _ _⟩
  · rw [hz] at hi
    have key : ∀ i, i < len → ∃ cs y, w.cells? 0 (a.add (i * z)) z = some cs ∧ DataW.trod enc Try.prog w 0 (fun _ => true) true m e cs = some y := by
      intro i hlt
      have h1 := hi i hlt
      rw [List.getElem?_eq_getElem (by omega)] at h1
      obtain ⟨c, h2, h3⟩ := Option.bind_eq_some_iff.1 h1
      exact ⟨c, _, h2, h3⟩
    have hsp : 0 < len → a.spot = none := by
      intro h0
      obtain ⟨c, y, h1, _⟩ := key 0 h0
      obtain ⟨_, h2, h3⟩ := World.cells?_some h1
      have h4 := h3 0 hz0
      rw [List.getElem?_eq_getElem (by omega)] at h4
      have := World.cell?_spot h4
      simpa [Addr.add] using this
    obtain ⟨l, hll, hp⟩ := list_of (P := fun i x => ok x ∧ ∃ b off, some a = some ⟨b, off, none⟩ ∧ b < w.heap.size ∧ el b (off + i * z) x) len fun i hlt => by
      obtain ⟨c, y, h1, h2⟩ := key i hlt
      obtain ⟨v, hv, hR⟩ := rd m c y h2
      obtain ⟨b, off, spot⟩ := a
      obtain rfl : spot = none := hsp (by omega)
      have hbl := World.cells?_block h1 hz0
      obtain ⟨_, h3, h4⟩ := World.cells?_some h1
      rw [WideShapes.add_plain] at hbl h4
      refine ⟨v, hv, b, off, rfl, hbl, hel b _ c v hbl h3 hR fun j u hj => ?_⟩
      have hjl := (List.getElem?_eq_some_iff.1 hj).1
      have := h4 j (by omega)
      rw [WideShapes.add_plain, hj] at this
      exact this
    refine ⟨_, l, rfl, fun v hv => ?_, ⟨some a, cap, by rw [hll], by unfold maxLen at hm; omega, fun i v hv => (hp i v hv).2⟩⟩
    obtain ⟨i, hi2⟩ := List.getElem?_of_mem hv
    exact (hp i v hi2).1
end
end Go.Proofs.Ytphhfjfdanlhiaa
