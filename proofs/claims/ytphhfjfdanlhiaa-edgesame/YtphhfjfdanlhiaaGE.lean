/- Edges and wires that came in. -/
import Derived.Test.YtphhfjfdanlhiaaFB
import Derived.Test.YtphhfjfdanlhiaaGA
namespace Go.Proofs.Ytphhfjfdanlhiaa
open Go.ChangeShapes Go.WideShapes Go.RowKit Go.Lib

def wiV (fr co : Nat) (ve vi : Value) : Value := .agg #[.int .u8 fr, .int .u8 co, ve, vi]
/-- A wire's rules lie there. -/
structure WiS (W : World) (ve vi : Value) (ex im : List RlD) : Prop where
  e : SliceAt W.heap.size 6 (RlAt W) ve ex
  i : SliceAt W.heap.size 6 (RlAt W) vi im
  eo : ∀ c ∈ ex, c.ok
  io : ∀ c ∈ im, c.ok
theorem rls_up {W W' : World} {v : Value} {l : List RlD} (h : SliceAt W.heap.size 6 (RlAt W) v l) (k : Below W.heap.size W W') : SliceAt W'.heap.size 6 (RlAt W') v l :=
  h.mono k.size fun _ _ _ hb h => h.keep hb (cells_below k (Nat.le_refl _))
theorem WiS.keep {W W' : World} {ve vi : Value} {ex im : List RlD} (h : WiS W ve vi ex im) (k : Below W.heap.size W W') : WiS W' ve vi ex im := ⟨rls_up h.e k, rls_up h.i k, h.eo, h.io⟩
theorem WiS.form {W : World} {ve vi : Value} {ex im : List RlD} (h : WiS W ve vi ex im) : ∃ ae ce ai ci, ve = .slice ae ex.length ce ∧ vi = .slice ai im.length ci := by
  obtain ⟨ae, ce, h1, _⟩ := h.e
  obtain ⟨ai, ci, h2, _⟩ := h.i
  exact ⟨ae, ce, ai, ci, h1, h2⟩
theorem cells_SCl : Try.prog.cellsOf 25 = 1 := by kernel_rfl
theorem cells_Ed : Try.prog.cellsOf 27 = 4 := by kernel_rfl
theorem cells_SRl : Try.prog.cellsOf 22 = 1 := by kernel_rfl
theorem cells_Wi : Try.prog.cellsOf 24 = 4 := by kernel_rfl
section
variable {H : Type} {enc : TypeId × Value → H} {w : World} {n : Nat} {cs : List Value} {x : DataW H × List MemPlace}
theorem rd_cls (h : DataW.trod enc Try.prog w 0 (fun _ => true) true n 25 cs = some x) : ∃ v l, cs = [v] ∧ (∀ c ∈ l, ClD.ok c) ∧ SliceAt w.heap.size 10 (ClAt w) v l :=
  rd_row ClD.ok (fun cs c => cs = clL c) (el := ClAt w) Try.underlying25 cells_Cl (by decide) (fun m cs y hy => rd_cl hy) (fun b o cs a _ _ hc hj => by subst hc; exact clW_at hj) h
theorem rd_ed (h : DataW.trod enc Try.prog w 0 (fun _ => true) true n 27 cs = some x) : ∃ (fr cost : Int) (ve vi : Value) (ex im : List ClD), cs = [.int .i64 fr, .int .i64 cost, ve, vi] ∧ EdS w ve vi ex im := by
  obtain ⟨xs, m, _, _, hl, hlen, hf⟩ := DataW.trod_struct Try.underlying27 h
  rw [cells_Ed] at hl
  obtain ⟨c0, c1, c2, c3, rfl⟩ := four_of hl
  obtain ⟨y0, y1, y2, y3, rfl⟩ := four_of hlen
  have h0 := hf 0 _ rfl
  have h1 := hf 1 _ rfl
  have h2 := hf 2 _ rfl
  have h3 := hf 3 _ rfl
  simp [cells_I, cells_SCl] at h0 h1 h2 h3
  obtain ⟨fr, rfl, _⟩ := rd_i64 h0
  obtain ⟨cost, rfl, _⟩ := rd_i64 h1
  obtain ⟨ve, ex, e2, he, se⟩ := rd_cls h2
  obtain ⟨vi, im, e3, hi, si⟩ := rd_cls h3
  simp only [List.cons.injEq, and_true] at e2 e3
  subst e2
  subst e3
  exact ⟨fr, cost, c2, c3, ex, im, rfl, se, si, he, hi⟩
theorem open_ed {b0 : Nat} {r : Reach} {v : Value} {d : DataW H} {p : List MemPlace} (hv : Value.okWide Try.prog w r b0 27 v) (h : DataW.Trod enc Try.prog w 0 (fun _ => true) true 27 v d p) : ∃ (fr cost : Int) (ve vi : Value) (ex im : List ClD), v = edV fr cost ve vi ∧ EdS w ve vi ex im := by
  obtain ⟨vs, rfl, _⟩ := okWide_struct Try.underlying27 hv
  obtain ⟨m, hm⟩ := h
  obtain ⟨fr, cost, ve, vi, ex, im, e, hs⟩ := rd_ed hm
  refine ⟨fr, cost, ve, vi, ex, im, ?_, hs⟩
  have e' : vs.toList = [.int .i64 fr, .int .i64 cost, ve, vi] := by simpa [Value.cells] using e
  unfold edV
  rw [show vs = #[.int .i64 fr, .int .i64 cost, ve, vi] by rw [← Array.toList_inj, e']]
theorem rd_rls (h : DataW.trod enc Try.prog w 0 (fun _ => true) true n 22 cs = some x) : ∃ v l, cs = [v] ∧ (∀ c ∈ l, RlD.ok c) ∧ SliceAt w.heap.size 6 (RlAt w) v l :=
  rd_row RlD.ok (fun cs c => cs = rlL c) (el := RlAt w) Try.underlying22 cells_Rl (by decide) (fun m cs y hy => rd_rl hy) (fun b o cs a _ _ hc hj => by subst hc; exact rlL_at hj) h
theorem open_wi {b0 : Nat} {r : Reach} {v : Value} {d : DataW H} {p : List MemPlace} (hv : Value.okWide Try.prog w r b0 24 v) (h : DataW.Trod enc Try.prog w 0 (fun _ => true) true 24 v d p) : ∃ (fr co : Nat) (ve vi : Value) (ex im : List RlD), (fr < 256 ∧ co < 256) ∧ v = wiV fr co ve vi ∧ WiS w ve vi ex im := by
  obtain ⟨vs, rfl, _⟩ := okWide_struct Try.underlying24 hv
  obtain ⟨m, hm⟩ := h
  obtain ⟨xs, m, _, _, hl, hlen, hf⟩ := DataW.trod_struct Try.underlying24 hm
  rw [cells_Wi] at hl
  obtain ⟨c0, c1, c2, c3, hcs⟩ := four_of hl
  obtain ⟨y0, y1, y2, y3, rfl⟩ := four_of hlen
  rw [hcs] at hf
  have h0 := hf 0 _ rfl
  have h1 := hf 1 _ rfl
  have h2 := hf 2 _ rfl
  have h3 := hf 3 _ rfl
  simp [cells_U8, cells_SRl] at h0 h1 h2 h3
  obtain ⟨fr, rfl, hfr⟩ := rd_u8 h0
  obtain ⟨co, rfl, hco⟩ := rd_u8 h1
  obtain ⟨ve, ex, e2, he, se⟩ := rd_rls h2
  obtain ⟨vi, im, e3, hi, si⟩ := rd_rls h3
  simp only [List.cons.injEq, and_true] at e2 e3
  subst e2
  subst e3
  refine ⟨fr, co, c2, c3, ex, im, ⟨hfr, hco⟩, ?_, se, si, he, hi⟩
  have e' : vs.toList = [.int .u8 fr, .int .u8 co, c2, c3] := by simpa [Value.cells] using hcs
  unfold wiV
  rw [show vs = #[.int .u8 fr, .int .u8 co, c2, c3] by rw [← Array.toList_inj, e']]
end
end Go.Proofs.Ytphhfjfdanlhiaa
