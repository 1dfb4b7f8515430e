/- Prefixes, slices of clauses and of rules that came in. -/
import Derived.Test.YtphhfjfdanlhiaaUM
import Derived.Test.YtphhfjfdanlhiaaHC
import Derived.SizedLaws
namespace Go.Proofs.Ytphhfjfdanlhiaa
open Go.ChangeShapes Go.WideShapes Go.RowKit Go.Lib

theorem rlL_at {W : World} {b o : Nat} {r : RlD} (h : ∀ j u, (rlL r)[j]? = some u → W.cell? ⟨b, o + j, none⟩ = some u) : RlAt W b o r := ⟨h 0 _ rfl, h 1 _ rfl, h 2 _ rfl, h 3 _ rfl, h 4 _ rfl, h 5 _ rfl⟩
section
variable {H : Type} {enc : TypeId × Value → H} {w : World}
theorem open_pf {b0 : Nat} {r : Reach} {v : Value} {d : DataW H} {p : List MemPlace} (hv : Value.okWide Try.prog w r b0 50 v) (h : DataW.Trod enc Try.prog w 0 (fun _ => true) true 50 v d p) : ∃ (a : Nat) (b : Int), a < 4294967296 ∧ v = pfV a b := by
  obtain ⟨vs, rfl, _⟩ := okWide_struct Try.underlying50 hv
  obtain ⟨m, hm⟩ := h
  obtain ⟨a, b, ha, e⟩ := rd_pf hm
  refine ⟨a, b, ha, ?_⟩
  have e' : vs.toList = [.int .u32 a, .int .i64 b] := by simpa [Value.cells] using e
  unfold pfV
  rw [show vs = #[.int .u32 a, .int .i64 b] by rw [← Array.toList_inj, e']]
theorem open_cls {b0 : Nat} {r : Reach} {v : Value} {d : DataW H} {p : List MemPlace} (hv : Value.okWide Try.prog w r b0 25 v) (h : DataW.Trod enc Try.prog w 0 (fun _ => true) true 25 v d p) : ∃ l : List ClD, (∀ c ∈ l, c.ok) ∧ SliceAt w.heap.size 10 (ClAt w) v l := by
  obtain ⟨ad, len, cap, rfl⟩ := okWide_slice Try.underlying25 hv
  obtain ⟨m, hm⟩ := h
  obtain ⟨v, l, e, hl, hs⟩ := rd_row ClD.ok (fun cs c => cs = clL c) (el := ClAt w) Try.underlying25 cells_Cl (by decide) (fun m cs y hy => rd_cl hy) (fun b o cs a _ _ hc hj => by subst hc; exact clW_at hj) hm
  refine ⟨l, hl, ?_⟩
  simp [Value.cells] at e
  rw [e]
  exact hs
theorem open_rls {b0 : Nat} {r : Reach} {v : Value} {d : DataW H} {p : List MemPlace} (hv : Value.okWide Try.prog w r b0 22 v) (h : DataW.Trod enc Try.prog w 0 (fun _ => true) true 22 v d p) : ∃ l : List RlD, (∀ c ∈ l, c.ok) ∧ SliceAt w.heap.size 6 (RlAt w) v l := by
  obtain ⟨ad, len, cap, rfl⟩ := okWide_slice Try.underlying22 hv
  obtain ⟨m, hm⟩ := h
  obtain ⟨v, l, e, hl, hs⟩ := rd_row RlD.ok (fun cs c => cs = rlL c) (el := RlAt w) Try.underlying22 cells_Rl (by decide) (fun m cs y hy => rd_rl hy) (fun b o cs a _ _ hc hj => by subst hc; exact rlL_at hj) hm
  refine ⟨l, hl, ?_⟩
  simp [Value.cells] at e
  rw [e]
  exact hs
/-- A slice of clauses that came in, and how long the statement lets it be. -/
theorem open_clsW {b0 : Nat} {r : Reach} {v : Value} {d : DataW H} {p : List MemPlace} (hv : Value.okWide Try.prog w r b0 25 v) (h : DataW.Trod enc Try.prog w 0 (fun _ => true) true 25 v d p) (hw : ∀ k ∈ d.weights Try.prog 25, k ≤ reachBytes) :
    ∃ l : List ClD, (∀ c ∈ l, c.ok) ∧ l.length * 48 ≤ 140737488355328 ∧ SliceAt w.heap.size 10 (ClAt w) v l := by
  obtain ⟨l, hl, hs⟩ := open_cls hv h
  refine ⟨l, hl, ?_, hs⟩
  obtain ⟨ad, len, cap, rfl⟩ := okWide_slice Try.underlying25 hv
  have hln := slice_len hs
  obtain ⟨m, hm⟩ := h
  rcases DataW.trod_slice Try.underlying25 hm with ⟨e, _⟩ | ⟨a, len', cap', elems, rest, m', _, e, e2, _, _, _, hlen, _⟩
  · simp [Value.cells] at e
    omega
  · simp [Value.cells] at e
    obtain ⟨rfl, _⟩ := Prod.mk.inj e2
    have hb : Try.prog.bytesOf 53 = 48 := by kernel_rfl
    have h1 := hw _ (by simp only [DataW.weights, Try.underlying25]; exact List.mem_cons_self ..)
    rw [hb, List.length_map] at h1
    have h2 := reachBytes_lt
    have h3 : (elems.length + rest.length) * 48 ≤ reachBytes := by simpa using h1
    omega
end
end Go.Proofs.Ytphhfjfdanlhiaa
