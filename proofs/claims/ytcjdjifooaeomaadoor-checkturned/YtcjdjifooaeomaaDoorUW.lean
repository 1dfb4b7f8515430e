/- A configuration by numbers that came in. -/
import Derived.Test.YtcjdjifooaeomaaDoorUM
import Derived.Test.YtcjdjifooaeomaaDoorUO
namespace Go.Proofs.YtcjdjifooaeomaaDoor
open Go.ChangeShapes Go.WideShapes Go.RowKit Go.Lib

theorem list_of {α : Type} {P : Nat → α → Prop} : ∀ n, (∀ i, i < n → ∃ a, P i a) → ∃ l : List α, l.length = n ∧ ∀ i a, l[i]? = some a → P i a
  | 0, _ => ⟨[], rfl, fun i a h => by simp at h⟩
  | n + 1, h => by
    obtain ⟨l, hl, hp⟩ := list_of n fun i hi => h i (by omega)
    obtain ⟨a, ha⟩ := h n (by omega)
    refine ⟨l ++ [a], by simp [hl], fun i b hb => ?_⟩
    rw [List.getElem?_append] at hb
    split at hb
    · exact hp i b hb
    · rename_i hi
      have : i = n := by
        have := (List.getElem?_eq_some_iff.1 hb).1
        simp at this
        omega
      subst this
      rw [hl, Nat.sub_self] at hb
      obtain rfl : a = b := by simpa using hb
      exact ha
section
variable {H : Type} {enc : TypeId × Value → H} {w : World} {n : Nat} {cs : List Value} {x : DataW H × List MemPlace}
theorem rd_row {α : Type} {t e z : Nat} (ok : α → Prop) (R : List Value → α → Prop) {el : Nat → Nat → α → Prop} (ht : Tryd.prog.underlying t = some (.slice e)) (hz : Tryd.prog.cellsOf e = z) (hz0 : 0 < z)
    (rd : ∀ m cs y, DataW.trod enc Tryd.prog w 0 (fun _ => true) true m e cs = some y → ∃ a, ok a ∧ R cs a)
    (hel : ∀ b o cs a, b < w.heap.size → cs.length = z → R cs a → (∀ j u, cs[j]? = some u → w.cell? ⟨b, o + j, none⟩ = some u) → el b o a)
    (h : DataW.trod enc Tryd.prog w 0 (fun _ => true) true n t cs = some x) : ∃ v l, cs = [v] ∧ (∀ a ∈ l, ok a) ∧ SliceAt w.heap.size z el v l := by
  rcases DataW.trod_slice ht h with ⟨rfl, _⟩ | ⟨a, len, cap, elems, rest, m, _, rfl, _, hb, hl, hm, hlen, hi, _, _⟩
  · exact ⟨_, [], rfl, by simp, slice_nil _ _ _⟩
  · rw [hz] at hi
    have key : ∀ i, i < len → ∃ cs y, w.cells? 0 (a.add (i * z)) z = some cs ∧ DataW.trod enc Tryd.prog w 0 (fun _ => true) true m e cs = some y := by
      intro i hlt
      have h1 := hi i hlt
      rw [List.getElem?_eq_getElem (by omega)] at h1
      obtain ⟨c, h2, h3⟩ := Option.bind_eq_some_iff.1 h1
      exact ⟨c, _, h2, h3⟩
    have hsp : 0 < len → a.spot = none := by
      intro h0
      obtain ⟨c, y, h1, _⟩ := key 0 h0
      obtain ⟨_, h2, h3⟩ := World.cells?_some h1
      have h4 := h3 0 hz0
      rw [List.getElem?_eq_getElem (by omega)] at h4
      have := World.cell?_spot h4
      simpa [Addr.add] using this
    obtain ⟨l, hll, hp⟩ := list_of (P := fun i x => ok x ∧ ∃ b off, some a = some ⟨b, off, none⟩ ∧ b < w.heap.size ∧ el b (off + i * z) x) len fun i hlt => by
      obtain ⟨c, y, h1, h2⟩ := key i hlt
      obtain ⟨v, hv, hR⟩ := rd m c y h2
      obtain ⟨b, off, spot⟩ := a
      obtain rfl : spot = none := hsp (by omega)
      have hbl := World.cells?_block h1 hz0
      obtain ⟨_, h3, h4⟩ := World.cells?_some h1
      rw [WideShapes.add_plain] at hbl h4
      refine ⟨v, hv, b, off, rfl, hbl, hel b _ c v hbl h3 hR fun j u hj => ?_⟩
      have hjl := (List.getElem?_eq_some_iff.1 hj).1
      have := h4 j (by omega)
      rw [WideShapes.add_plain, hj] at this
      exact this
    refine ⟨_, l, rfl, fun v hv => ?_, ⟨some a, cap, by rw [hll], by unfold maxLen at hm; omega, fun i v hv => (hp i v hv).2⟩⟩
    obtain ⟨i, hi2⟩ := List.getElem?_of_mem hv
    exact (hp i v hi2).1
theorem rd_bytes (h : DataW.trod enc Tryd.prog w 0 (fun _ => true) true n 22 cs = some x) : ∃ v l, cs = [v] ∧ (∀ a ∈ l, a < 256) ∧ SliceAt w.heap.size 1 (ByAt w) v l := by
  refine rd_row (fun a : Nat => a < 256) (fun cs a => cs = [.int .u8 a]) Tryd.underlying22 cells_U8 (by omega) (fun m cs y hh => ?_) (fun b o cs a _ _ hR hc => ?_) h
  · obtain ⟨v, l, hl⟩ : ∃ v l, cs = v :: l := by
      cases cs with
      | nil => cases m <;> simp [DataW.trod, Tryd.underlying5] at hh
      | cons v l => exact ⟨v, l, rfl⟩
    cases l with
    | nil =>
      subst hl
      obtain ⟨k, rfl, hk⟩ := rd_u8 hh
      exact ⟨k, hk, rfl⟩
    | cons u l =>
      subst hl
      cases m <;> simp [DataW.trod, Tryd.underlying5] at hh
  · subst hR
    exact hc 0 _ rfl
theorem rd_rules (h : DataW.trod enc Tryd.prog w 0 (fun _ => true) true n 69 cs = some x) : ∃ v l, cs = [v] ∧ (∀ a ∈ l, RlD.ok a) ∧ SliceAt w.heap.size 6 (RlAt w) v l := by
  refine rd_row RlD.ok (fun cs a => cs = rlL a) Tryd.underlying69 cells_Rl (by omega) (fun m cs y hh => rd_rl hh) (fun b o cs a _ _ hR hc => ?_) h
  subst hR
  exact ⟨hc 0 _ rfl, hc 1 _ rfl, hc 2 _ rfl, hc 3 _ rfl, hc 4 _ rfl, hc 5 _ rfl⟩
theorem cells_SRl : Tryd.prog.cellsOf 69 = 1 := by kernel_rfl
theorem cells_SMR : Tryd.prog.cellsOf 23 = 1 := by kernel_rfl
theorem cells_By : Tryd.prog.cellsOf 22 = 1 := by kernel_rfl
theorem cells_Sh : Tryd.prog.cellsOf 25 = 6 := by kernel_rfl
theorem rd_maps (h : DataW.trod enc Tryd.prog w 0 (fun _ => true) true n 23 cs = some x) : ∃ v l, cs = [v] ∧ (∀ rs ∈ l, ∀ r ∈ rs, RlD.ok r) ∧ SliceAt w.heap.size 1 (RsAt w w.heap.size) v l := by
  refine rd_row (fun rs : List RlD => ∀ r ∈ rs, r.ok) (fun cs rs => ∃ rv, cs = [rv] ∧ SliceAt w.heap.size 6 (RlAt w) rv rs) Tryd.underlying23 cells_SRl (by omega) (fun m cs y hh => ?_) (fun b o cs a _ _ hR hc => ?_) h
  · obtain ⟨v, l, h1, h2, h3⟩ := rd_rules hh
    exact ⟨l, h2, v, h1, h3⟩
  · obtain ⟨rv, rfl, h2⟩ := hR
    exact ⟨rv, hc 0 _ rfl, h2⟩
theorem rd_sh (h : DataW.trod enc Tryd.prog w 0 (fun _ => true) true n 25 cs = some x) : ∃ s v, s.ok ∧ ShAt w w.heap.size (.agg cs.toArray) s ∧ v = (Value.agg cs.toArray) := by
  obtain ⟨xs, m, _, _, hl, hlen, hf⟩ := DataW.trod_struct Tryd.underlying25 h
  rw [cells_Sh] at hl
  obtain ⟨c0, c1, c2, c3, c4, c5, rfl⟩ := six_of hl
  obtain ⟨y0, y1, y2, y3, y4, y5, rfl⟩ := six_of hlen
  have h0 := hf 0 _ rfl
  have h1 := hf 1 _ rfl
  have h2 := hf 2 _ rfl
  have h3 := hf 3 _ rfl
  have h4 := hf 4 _ rfl
  have h5 := hf 5 _ rfl
  simp [cells_U8, cells_By, cells_SMR] at h0 h1 h2 h3 h4 h5
  obtain ⟨k, rfl, hk⟩ := rd_u8 h0
  obtain ⟨v1, l1, e1, o1, s1⟩ := rd_bytes h1
  obtain ⟨v2, l2, e2, o2, s2⟩ := rd_maps h2
  obtain ⟨v3, l3, e3, o3, s3⟩ := rd_bytes h3
  obtain ⟨v4, l4, e4, o4, s4⟩ := rd_bytes h4
  obtain ⟨v5, l5, e5, o5, s5⟩ := rd_bytes h5
  simp only [List.cons.injEq, and_true] at e1 e2 e3 e4 e5
  subst e1 e2 e3 e4 e5
  exact ⟨⟨k, l1, l2, l3, l4, l5⟩, _, ⟨hk, o1, o2, o3, o4, o5⟩, ⟨_, _, _, _, _, rfl, s1, s2, s3, s4, s5⟩, rfl⟩
set_option maxRecDepth 100000 in
/-- A configuration by numbers. -/
theorem open_sh {b0 : Nat} {r : Reach} {v : Value} {d : DataW H} {p : List MemPlace} (hv : Value.okWide Tryd.prog w r b0 25 v) (h : DataW.Trod enc Tryd.prog w 0 (fun _ => true) true 25 v d p) : ∃ s : ShD, s.ok ∧ ShAt w w.heap.size v s := by
  obtain ⟨vs, rfl, _⟩ := okWide_struct Tryd.underlying25 hv
  obtain ⟨m, hm⟩ := h
  obtain ⟨s, _, hs, hat, _⟩ := rd_sh hm
  refine ⟨s, hs, ?_⟩
  simpa [Value.cells] using hat
end
end Go.Proofs.YtcjdjifooaeomaaDoor
