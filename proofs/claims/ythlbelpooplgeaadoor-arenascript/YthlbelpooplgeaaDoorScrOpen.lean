/- A slice of acts, opened. -/
import Derived.Test.YthlbelpooplgeaaDoorS0
import Derived.Deep.Slices
import Derived.ChangeSame
import Derived.OpenShut
namespace Go.Proofs.YthlbelpooplgeaaDoor
open Go.ChangeShapes Go.WideShapes Go.RowKit Go.Deep

theorem cellsAct : Tryd.prog.cellsOf 31 = 3 := by kernel_rfl
theorem cellsI8 : Tryd.prog.cellsOf 29 = 1 := by kernel_rfl
theorem actFields : ∃ f0 f1 f2 : Field, Tryd.prog.underlying 31 = some (.struct #[f0, f1, f2]) ∧ f0.type = 29 ∧ f1.type = 29 ∧ f2.type = 29 ∧ f0.offset = 0 ∧ f1.offset = 1 ∧ f2.offset = 2 := by
  exact ⟨_, _, _, Tryd.underlying31, rfl, rfl, rfl, rfl, rfl, rfl⟩

theorem came_acts {H : Type} {enc : TypeId × Value → H} {W : World} {a : Option Addr} {len cap : Nat} {d : DataW H} {ps : List MemPlace} (h : DataW.Trod enc Tryd.prog W 0 (fun _ => true) true 22 (.slice a len cap) d ps) :
    len ≤ maxLen ∧ ∃ x, CameA W a len x := by
  obtain ⟨fuel, hf⟩ := h
  rcases open_slice Tryd.underlying22 hf with ⟨hcs, _⟩ | ⟨ad, l, c, m, n, D, Pl, hcs, _, hl, hm, hmm, _, hx⟩
  · simp [Value.cells] at hcs
    obtain ⟨rfl, rfl, rfl⟩ := hcs
    exact ⟨by unfold maxLen; omega, fun _ => ⟨0, 0, 0⟩, ⟨fun h => by omega, fun i h => by omega⟩⟩
  · simp [Value.cells] at hcs
    obtain ⟨rfl, rfl, rfl⟩ := hcs
    simp only [if_true] at hmm
    subst hmm
    refine ⟨by omega, ?_⟩
    have key : ∀ i, i < len → ∃ y : Nat → Int, W.cell? (ad.add (i * 3)) = some (.int .i8 (y 0)) ∧ W.cell? (ad.add (i * 3 + 1)) = some (.int .i8 (y 1)) ∧ W.cell? (ad.add (i * 3 + 2)) = some (.int .i8 (y 2)) ∧
        (Lit.int .i8 (y 0)).wf = true ∧ (Lit.int .i8 (y 1)).wf = true ∧ (Lit.int .i8 (y 2)).wf = true := by
      intro i hi
      obtain ⟨cs, h1, h2⟩ := hx i (by omega)
      rw [cellsAct] at h1
      obtain ⟨_, hlen, hget⟩ := World.cells?_some h1
      obtain ⟨f0, f1, f2, hu, t0, t1, t2, o0, o1, o2⟩ := actFields
      obtain ⟨xs, k, _, _, hcl, hxl, hfs⟩ := DataW.trod_struct hu h2
      match cs, hlen, hxl with
      | [c0, c1, c2], _, hxl =>
        match xs, hxl with
        | [x0, x1, x2], _ =>
          have q0 := hfs 0 f0 rfl
          have q1 := hfs 1 f1 rfl
          have q2 := hfs 2 f2 rfl
          rw [t0, o0, cellsI8] at q0
          rw [t1, o1, cellsI8] at q1
          rw [t2, o2, cellsI8] at q2
          obtain ⟨y0, e0, _, w0⟩ := DataW.trod_int Tryd.underlying29 q0
          obtain ⟨y1, e1, _, w1⟩ := DataW.trod_int Tryd.underlying29 q1
          obtain ⟨y2, e2, _, w2⟩ := DataW.trod_int Tryd.underlying29 q2
          simp at e0 e1 e2
          subst e0 e1 e2
          refine ⟨fun j => if j = 0 then y0 else if j = 1 then y1 else y2, ?_, ?_, ?_, by simpa using w0, by simpa using w1, by simpa using w2⟩
          · have := hget 0 (by omega)
            rw [add_add] at this
            simpa using this
          · have := hget 1 (by omega)
            rw [add_add] at this
            simpa using this
          · have := hget 2 (by omega)
            rw [add_add] at this
            simpa using this
    obtain ⟨y, hy⟩ := choose_lt (α := Nat → Int) key
    refine ⟨fun i => ⟨y i 0, y i 1, y i 2⟩, ⟨fun h => ?_, fun i hi => ?_⟩⟩
    · obtain ⟨b, off, spot⟩ := ad
      have hspot : spot = none := by simpa [Addr.add] using World.cell?_spot (hy 0 h).1
      subst hspot
      refine ⟨b, off, rfl, fun i hi => ?_⟩
      obtain ⟨h1, h2, h3, _⟩ := hy i hi
      rw [add_plain] at h1 h2 h3
      exact ⟨h1, by rw [Nat.add_assoc]; exact h2, by rw [Nat.add_assoc]; exact h3⟩
    · obtain ⟨_, _, _, h4, h5, h6⟩ := hy i hi
      have b4 := bounds_i8 h4
      have b5 := bounds_i8 h5
      have b6 := bounds_i8 h6
      exact ⟨b4.1, b4.2, b5.1, b5.2, b6.1, b6.2⟩
end Go.Proofs.YthlbelpooplgeaaDoor
