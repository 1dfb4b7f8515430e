/- Mk, whole. -/
import Derived.Test.YtcbpklpehdojnaaD
namespace Go.Proofs.Ytcbpklpehdojnaa
open Go.RowKit Go.Maps
section
variable {w : World} {p g m cap : Nat} {most : Int} {ns : List Nd}

theorem Kept.of_below {w w' : World} (h : Below w.heap.size w w') (own : List Nat) : Kept own w w' := ⟨h.os, h.tape, h.output, h.size, fun k hk _ => h.block k hk⟩
theorem Kept.refl (own : List Nat) (w : World) : Kept own w w := ⟨rfl, rfl, rfl, Nat.le_refl _, fun _ _ _ => rfl⟩

theorem two_not {most : Int} {ns : List Nd} (h : Good most ns) {v lo hi : Int} (hv : v < 1024) {i : Nat} (hl : i < ns.length) (e : ndAt ns i = ⟨v, lo, hi⟩) : 2 ≤ i := by
  obtain ⟨l, rfl⟩ := h.two
  match i with
  | 0 => simp [ndAt] at e; omega
  | 1 => simp [ndAt] at e; omega
  | i + 2 => omega

theorem findN_none {ns : List Nd} {n : Nd} : findN ns n = none ↔ ∀ x ∈ ns, x ≠ n := by
  unfold findN
  rw [List.findIdx?_eq_none_iff]
  constructor
  · intro h x hx e
    have := h x hx
    rw [sameN_iff.2 e.symm] at this
    cases this
  · intro h x hx
    cases hs : sameN n x
    · rfl
    · exact absurd (sameN_iff.1 hs).symm (h x hx)
theorem findN_some {ns : List Nd} {n : Nd} {i : Nat} (h : findN ns n = some i) : i < ns.length ∧ ndAt ns i = n := by
  unfold findN at h
  rw [List.findIdx?_eq_some_iff_getElem] at h
  obtain ⟨hi, h1, _⟩ := h
  refine ⟨hi, ?_⟩
  simp [ndAt, List.getD, List.getElem?_eq_getElem hi]
  exact (sameN_iff.1 h1).symm
theorem ndAt_inj {ns : List Nd} (h : ns.Nodup) {i j : Nat} (hi : i < ns.length) (hj : j < ns.length) (e : ndAt ns i = ndAt ns j) : i = j := by
  simp [ndAt, List.getD, List.getElem?_eq_getElem hi, List.getElem?_eq_getElem hj] at e
  have hp := List.pairwise_iff_getElem.1 h
  rcases Nat.lt_trichotomy i j with hlt | heq | hlt
  · exact absurd e (hp i j hi hj hlt)
  · exact heq
  · exact absurd e.symm (hp j i hj hi hlt)

/-- What the look-up finds, in whatever world in which the map is as it was. -/
theorem look_any (h : ArenaAt 51 47 w p g m cap most ns) {v lo hi : Int} (hb : okB ns v lo hi = true) {W : World} (hW : W.heap[m]? = w.heap[m]?) :
    Sem.run Try.prog (Instr.lookup 49 (.map (some m)) (.agg #[.int .i64 v, .int .i64 lo, .int .i64 hi]) true) W = .ok (match findN ns ⟨v, lo, hi⟩ with | some i => .tuple #[.int .i64 i, .bool true] | none => .tuple #[.int .i64 0, .bool false]) W := by
  obtain ⟨l, hl⟩ := ok_key h.good hb
  obtain ⟨es, c, hes, hmap⟩ := h.map
  have km : mapIs W m (entries ns) := ⟨es, c, hW.trans hes, hmap⟩
  have hv : v < 1024 := by
    simp only [okB, Bool.and_eq_true, decide_eq_true_eq] at hb
    exact hb.1.1.2
  rcases mapIs.look lawN Try.underlying49 (zeroI W) km (good_keys h.good) hl with ⟨h1, h2⟩ | ⟨x, hx, h1, h2⟩
  · have : findN ns ⟨v, lo, hi⟩ = none := by
      rw [findN_none]
      intro x hx e
      obtain ⟨i, hl, rfl⟩ := ndAt_of_mem hx
      have h2i := two_not h.good hv hl e
      refine h2 (entry ns (i - 2)) (List.mem_map.2 ⟨i - 2, by simp; omega, rfl⟩) ?_
      simp only [entry]
      rw [show i - 2 + 2 = i by omega, e]
    rw [this]
    exact h1
  · obtain ⟨i, hir, rfl⟩ := List.mem_map.1 hx
    simp only [List.mem_range] at hir
    have e := ndV_inj h1
    cases hf : findN ns ⟨v, lo, hi⟩ with
    | none => exact absurd e (findN_none.1 hf _ (ndAt_mem (by omega)))
    | some j =>
      obtain ⟨hj, ej⟩ := findN_some hf
      have : j = i + 2 := ndAt_inj h.good.once hj (by omega) (ej.trans e.symm)
      subst this
      exact h2

theorem mk_any (h : ArenaAt 51 47 w p g m cap most ns) (v lo hi : Int) :
    Calls Try.prog 20 #[.pointer (some ⟨p, 0, none⟩), .int .i64 v, .int .i64 lo, .int .i64 hi] w fun e w' => ∃ g' cap', e = .returned (.tuple #[.int .i64 (mkR most ns v lo hi).1, errV (mkR most ns v lo hi).2.1]) ∧ ArenaAt 51 47 w' p g' m cap' most (mkR most ns v lo hi).2.2 ∧ Kept [p, g, m] w w' ∧ (g' = g ∨ w.heap.size ≤ g') := by
  cases hb : okB ns v lo hi with
  | false =>
    have e : mkR most ns v lo hi = (0, 10, ns) := by simp [mkR, hb]
    rw [e]
    refine (mk_bad h v lo hi hb).mono ?_
    rintro _ _ ⟨rfl, rfl⟩
    exact ⟨g, cap, rfl, h, Kept.refl _ _, .inl rfl⟩
  | true =>
    by_cases hne : lo = hi
    · have e : mkR most ns v lo hi = (lo, 0, ns) := by rw [mkR, if_pos hb, if_pos hne]
      rw [e]
      refine (mk_same h v lo hi hb (by simp [hne])).mono ?_
      rintro _ _ ⟨rfl, rfl⟩
      exact ⟨g, cap, rfl, h, Kept.refl _ _, .inl rfl⟩
    · have hne' : (lo == hi) = false := by simpa using hne
      have hl : ∀ nq, _ := fun nq => look_any h hb (W := (w.alloc (.cells #[.int .i64 v, .int .i64 lo, .int .i64 hi] 47)).drewN nq) (Below.heap_alloc _ _ _ h.ltm)
      cases hf : findN ns ⟨v, lo, hi⟩ with
      | some i =>
        have e : mkR most ns v lo hi = ((i : Int), 0, ns) := by simp [mkR, hb, hne, hf]
        rw [e]
        rw [hf] at hl
        refine (mk_found h v lo hi i hb hne' hl).mono ?_
        rintro _ _ ⟨rfl, hbel⟩
        exact ⟨g, cap, rfl, h.below hbel, Kept.of_below hbel _, .inl rfl⟩
      | none =>
        rw [hf] at hl
        by_cases hm : most ≤ ns.length
        · have e : mkR most ns v lo hi = (0, 8, ns) := by simp [mkR, hb, hne, hf, hm]
          rw [e]
          refine (mk_full h v lo hi hb hne' hm hl).mono ?_
          rintro _ _ ⟨rfl, hbel⟩
          exact ⟨g, cap, rfl, h.below hbel, Kept.of_below hbel _, .inl rfl⟩
        · have e : mkR most ns v lo hi = ((ns.length : Int), 0, ns ++ [⟨v, lo, hi⟩]) := by simp [mkR, hb, hne, hf, hm]
          rw [e]
          refine (mk_new h v lo hi hb hne' (by omega) (findN_none.1 hf) hl).mono ?_
          rintro _ _ ⟨g', cap', rfl, h1, h2, h3⟩
          exact ⟨g', cap', rfl, h1, h2, h3⟩
end
end Go.Proofs.Ytcbpklpehdojnaa
