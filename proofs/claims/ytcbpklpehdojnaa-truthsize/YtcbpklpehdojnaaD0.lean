/- Mk, where a node is new. -/
import Derived.Test.YtcbpklpehdojnaaC
import Derived.Deep.RegionLaw
namespace Go.Proofs.Ytcbpklpehdojnaa
open Go.RowKit Go.Maps

theorem heap_set_at {w : World} {p i : Nat} {c : Array Value} {e : TypeId} {fr : Nat × Nat} (h : w.heap[p]? = some (.cells c e fr)) (x : Value) : (w.setCell ⟨p, i, none⟩ x).heap[p]? = some (.cells (c.setIfInBounds i x) e fr) := by
  simp [World.setCell, Array.getElem?_modify, h]

theorem ndAt_left {ns : List Nd} {n : Nd} {i : Nat} (h : i < ns.length) : ndAt (ns ++ [n]) i = ndAt ns i := by
  simp [ndAt, List.getD, List.getElem?_append_left h]
theorem ndAt_last {ns : List Nd} {n : Nd} : ndAt (ns ++ [n]) ns.length = n := by
  simp [ndAt, List.getD]
theorem ndAt_mem {ns : List Nd} {i : Nat} (h : i < ns.length) : ndAt ns i ∈ ns := by
  simp [ndAt, List.getD, List.getElem?_eq_getElem h]
theorem ndAt_of_mem {ns : List Nd} {n : Nd} (h : n ∈ ns) : ∃ i, i < ns.length ∧ ndAt ns i = n := by
  obtain ⟨i, hi, rfl⟩ := List.getElem_of_mem h
  exact ⟨i, hi, by simp [ndAt, List.getD, List.getElem?_eq_getElem hi]⟩

theorem entries_put {ns : List Nd} (h : 2 ≤ ns.length) (n : Nd) : entries (ns ++ [n]) = entries ns ++ [(ndV n, .int .i64 ns.length)] := by
  obtain ⟨k, hk⟩ : ∃ k, ns.length = k + 2 := ⟨ns.length - 2, by omega⟩
  have e1 : (ns ++ [n]).length - 2 = k + 1 := by simp; omega
  have e2 : ns.length - 2 = k := by omega
  unfold entries
  rw [e1, e2, List.range_succ, List.map_append, List.map_singleton]
  congr 1
  · refine List.map_congr_left fun i hi => ?_
    simp only [List.mem_range] at hi
    simp only [entry]
    rw [ndAt_left (by omega)]
  · simp only [entry]
    rw [← hk, ndAt_last]

theorem good_put {most : Int} {ns : List Nd} (h : Good most ns) {v lo hi : Int} (hb : okB ns v lo hi = true) (hne : lo ≠ hi) (hroom : (ns.length : Int) < most) (hnew : ∀ n ∈ ns, n ≠ ⟨v, lo, hi⟩) : Good most (ns ++ [⟨v, lo, hi⟩]) := by
  simp only [okB, Bool.and_eq_true, decide_eq_true_eq] at hb
  obtain ⟨⟨⟨h1, h2⟩, h3⟩, h4⟩ := hb
  obtain ⟨a, rfl, ha, hva⟩ := behB_elim h3
  obtain ⟨b, rfl, hb, hvb⟩ := behB_elim h4
  refine ⟨?_, by simp; omega, h.most, ?_, ?_⟩
  · obtain ⟨l, rfl⟩ := h.two
    exact ⟨l ++ [⟨v, a, b⟩], rfl⟩
  · intro i hi hl
    simp only [List.length_append, List.length_singleton] at hl
    by_cases e : i < ns.length
    · obtain ⟨q1, q2, ⟨x, qx1, qx2, qx3⟩, ⟨y, qy1, qy2, qy3⟩, q5⟩ := h.nodes i hi e
      rw [ndAt_left e]
      exact ⟨q1, q2, ⟨x, qx1, qx2, by rw [ndAt_left (by omega)]; exact qx3⟩, ⟨y, qy1, qy2, by rw [ndAt_left (by omega)]; exact qy3⟩, q5⟩
    · obtain rfl : i = ns.length := by omega
      rw [ndAt_last]
      exact ⟨h1, h2, ⟨a, rfl, ha, by rw [ndAt_left ha]; exact hva⟩, ⟨b, rfl, hb, by rw [ndAt_left hb]; exact hvb⟩, hne⟩
  · rw [List.nodup_append]
    refine ⟨h.once, by simp, ?_⟩
    intro x hx y hy
    simp only [List.mem_singleton] at hy
    subst hy
    exact hnew x hx

theorem wf_i64 {x : Int} (h : -9223372036854775808 ≤ x) (h' : x ≤ 9223372036854775807) : (Lit.int .i64 x).wf = true := WalkArith.wf_i64 ⟨h, h'⟩

theorem good_wf {most : Int} {ns : List Nd} (h : Good most ns) {i : Nat} (h2 : 2 ≤ i) (hi : i < ns.length) : ∃ l, keyOf Try.prog 47 (ndV (ndAt ns i)) = some l := by
  obtain ⟨q1, q2, ⟨x, qx1, qx2, _⟩, ⟨y, qy1, qy2, _⟩, _⟩ := h.nodes i h2 hi
  have := h.room
  have := h.most
  refine keyN (ndAt ns i).v (ndAt ns i).lo (ndAt ns i).hi (wf_i64 ?_ ?_) (wf_i64 ?_ ?_) (wf_i64 ?_ ?_) <;> omega
theorem good_keys {most : Int} {ns : List Nd} (h : Good most ns) : ∀ x ∈ entries ns, ∃ l, keyOf Try.prog 47 x.1 = some l := by
  intro x hx
  obtain ⟨i, hi, rfl⟩ := List.mem_map.1 hx
  simp only [List.mem_range] at hi
  exact good_wf h (by omega) (by omega)
theorem ok_key {most : Int} {ns : List Nd} (h : Good most ns) {v lo hi : Int} (hb : okB ns v lo hi = true) : ∃ l, keyOf Try.prog 47 (ndV ⟨v, lo, hi⟩) = some l := by
  simp only [okB, Bool.and_eq_true, decide_eq_true_eq] at hb
  obtain ⟨⟨⟨h1, h2⟩, h3⟩, h4⟩ := hb
  obtain ⟨a, rfl, ha, hva⟩ := behB_elim h3
  obtain ⟨b, rfl, hb, hvb⟩ := behB_elim h4
  have := h.room
  have := h.most
  refine keyN _ _ _ (wf_i64 ?_ ?_) (wf_i64 ?_ ?_) (wf_i64 ?_ ?_) <;> omega

theorem put_world {w W w1 : World} {p g m cap gg cap1 : Nat} {most : Int} {ns : List Nd} {v lo hi : Int} {X : Obj} (h : ArenaAt 51 47 w p g m cap most ns) (hb : okB ns v lo hi = true) (hne : lo ≠ hi) (hroom : (ns.length : Int) < most) (hnew : ∀ n ∈ ns, n ≠ ⟨v, lo, hi⟩)
    (hbel : Below w.heap.size w W) (hsz : W.heap.size = w.heap.size + 1) (hB : W.heap[w.heap.size]? = some (.cells #[.int .i64 v, .int .i64 lo, .int .i64 hi] 47))
    (hown1 : w1.ownsRow 0 47 3 (.slice (some ⟨gg, 0, none⟩) (ns.length + 1) cap1) (ns.length + 1) (ns.flatMap ndL ++ [.int .i64 v, .int .i64 lo, .int .i64 hi]))
    (hgrow : (W.alloc X).drew.grownBy w1 (some g)) (hat : some g = some gg ∨ gg = w.heap.size + 2) :
    (w1.setCell ⟨p, 1, none⟩ (.slice (some ⟨gg, 0, none⟩) (ns.length + 1) cap1)).cell? ⟨p, 2, none⟩ = some (.map (some m)) ∧
    (w1.setCell ⟨p, 1, none⟩ (.slice (some ⟨gg, 0, none⟩) (ns.length + 1) cap1)).cell? ⟨w.heap.size, 0, none⟩ = some (.int .i64 v) ∧
    (w1.setCell ⟨p, 1, none⟩ (.slice (some ⟨gg, 0, none⟩) (ns.length + 1) cap1)).cell? ⟨w.heap.size, 1, none⟩ = some (.int .i64 lo) ∧
    (w1.setCell ⟨p, 1, none⟩ (.slice (some ⟨gg, 0, none⟩) (ns.length + 1) cap1)).cell? ⟨w.heap.size, 2, none⟩ = some (.int .i64 hi) ∧
    ∃ w2, Sem.run Try.prog (Instr.mapUpdate 49 (.map (some m)) (.agg #[.int .i64 v, .int .i64 lo, .int .i64 hi]) (.int .i64 ns.length)) (w1.setCell ⟨p, 1, none⟩ (.slice (some ⟨gg, 0, none⟩) (ns.length + 1) cap1)).drew = .ok () w2 ∧
      ArenaAt 51 47 w2 p gg m cap1 most (ns ++ [⟨v, lo, hi⟩]) ∧ Kept [p, g, m] w w2 ∧ (gg = g ∨ w.heap.size ≤ gg) := by
  have hp := h.ltp
  have hg := h.ltg
  have hm := h.ltm
  have pg := h.pg
  have pm := h.pm
  have gm := h.gm
  have hs : (W.alloc X).drew.heap.size = w.heap.size + 2 := by simp [hsz]
  have k1 : ∀ k, k < w.heap.size + 1 → k ≠ g → w1.heap[k]? = W.heap[k]? := fun k hk hne => by
    rw [hgrow.block k (by omega) (by simpa using hne)]
    exact Below.heap_alloc _ _ _ (by omega)
  have k2 : ∀ k, k < w.heap.size → k ≠ g → w1.heap[k]? = w.heap[k]? := fun k hk hne => by
    rw [k1 k (by omega) hne, hbel.block k hk]
  have gp : gg ≠ p := by
    rcases hat with e | e
    · simp at e; omega
    · omega
  generalize hW2 : w1.setCell ⟨p, 1, none⟩ (.slice (some ⟨gg, 0, none⟩) (ns.length + 1) cap1) = W2
  have k3 : ∀ k, k ≠ p → W2.heap[k]? = w1.heap[k]? := fun k hk => by rw [← hW2]; exact Below.heap_setCell _ _ _ _ hk
  have kp : W2.heap[p]? = some (.cells #[.int .i64 most, .slice (some ⟨gg, 0, none⟩) (ns.length + 1) cap1, .map (some m)] 51 (0, 0)) := by
    rw [← hW2]
    have := heap_set_at (i := 1) ((k2 p hp pg).trans h.here) (.slice (some ⟨gg, 0, none⟩) (ns.length + 1) cap1)
    simpa using this
  have kB : W2.heap[w.heap.size]? = some (.cells #[.int .i64 v, .int .i64 lo, .int .i64 hi] 47) := by
    rw [k3 _ (by omega), k1 _ (by omega) (by omega)]
    exact hB
  obtain ⟨es, c, hes, hmap⟩ := h.map
  have km : mapIs W2.drew m (entries ns) := ⟨es, c, by show W2.heap[m]? = _; rw [k3 m (Ne.symm pm), k2 m hm (Ne.symm gm)]; exact hes, hmap⟩
  obtain ⟨l, hl⟩ := ok_key h.good hb
  have hnk : ∀ x ∈ entries ns, x.1 ≠ ndV ⟨v, lo, hi⟩ := by
    intro x hx e
    obtain ⟨i, hi, rfl⟩ := List.mem_map.1 hx
    simp only [List.mem_range] at hi
    exact hnew _ (ndAt_mem (by omega)) (ndV_inj e)
  obtain ⟨w2, hrun, hm2, hg2⟩ := mapIs.store (val := .int .i64 ns.length) lawN Try.underlying49 km (good_keys h.good) hl hnk
  have j : ∀ k, k < W2.heap.size → k ≠ m → w2.heap[k]? = W2.heap[k]? := fun k hk hne => hg2.block k hk (by simpa using hne)
  have sz2 : w1.heap.size = W2.heap.size := by rw [← hW2]; simp
  have sz1 := hgrow.size
  rw [hs] at sz1
  obtain ⟨hl1, hl2⟩ := hown1
  refine ⟨by simp [World.cell?, kp], by simp [World.cell?, kB], by simp [World.cell?, kB], by simp [World.cell?, kB], w2, hrun, ?_, ?_, ?_⟩
  · rcases hl2 with ⟨q, _⟩ | ⟨g', cap', cur, q1, q2, q3, q4⟩
    · cases q
    cases q1
    have hgg : gg < w1.heap.size := (Array.getElem?_eq_some_iff.1 q3).1
    have gm' : gg ≠ m := by
      rintro rfl
      rw [k2 _ hm (Ne.symm gm), hes] at q3
      cases q3
    refine ⟨?_, ⟨?_, .inr ⟨gg, cap1, cur, ?_, Nat.zero_le _, ?_, ?_⟩⟩, ?_, Ne.symm gp, good_put h.good hb hne hroom hnew⟩
    · rw [j p (by omega) pm, kp]; simp
    · simp [ndL] at hl1 ⊢; omega
    · simp
    · rw [j gg (by omega) gm', k3 gg gp]; exact q3
    · refine ⟨by simpa using q4.1, q4.2.1, q4.2.2.1, ?_⟩
      have := q4.2.2.2
      simpa [ndL] using this
    · rw [entries_put h.good.len]; exact hm2
  · refine ⟨?_, ?_, ?_, ?_, ?_⟩
    · rw [hg2.os]; show W2.os = _; rw [← hW2]; show w1.os = _; rw [hgrow.os]; exact hbel.os
    · rw [hg2.tape]; show W2.tape = _; rw [← hW2]; show w1.tape = _; rw [hgrow.tape]; exact hbel.tape
    · rw [hg2.output]; show W2.output = _; rw [← hW2]; show w1.output = _; rw [hgrow.output]; exact hbel.output
    · have := hg2.size
      simp at this
      omega
    · intro k hk hno
      simp at hno
      rw [j k (by omega) hno.2.2, k3 k hno.1, k2 k hk hno.2.1]
  · rcases hat with e | e
    · simp at e; exact .inl e.symm
    · exact .inr (by omega)

end Go.Proofs.Ytcbpklpehdojnaa
