/- Mk, where a node is new. -/
import Derived.Test.YtcbpklpehdojnaaD0
namespace Go.Proofs.Ytcbpklpehdojnaa
open Go.RowKit Go.Maps
section
variable {w : World} {p g m cap : Nat} {most : Int} {ns : List Nd}

set_option maxHeartbeats 400000 in
set_option maxRecDepth 20000 in
theorem mk_new (h : ArenaAt 51 47 w p g m cap most ns) (v lo hi : Int) (hb : okB ns v lo hi = true) (hne : (lo == hi) = false) (hm : (ns.length : Int) < most) (hnew : ∀ n ∈ ns, n ≠ ⟨v, lo, hi⟩)
    (hlook : ∀ nq, Sem.run Try.prog (Instr.lookup 49 (.map (some m)) (.agg #[.int .i64 v, .int .i64 lo, .int .i64 hi]) true) ((w.alloc (.cells #[.int .i64 v, .int .i64 lo, .int .i64 hi] 47)).drewN nq) = .ok (.tuple #[.int .i64 0, .bool false]) ((w.alloc (.cells #[.int .i64 v, .int .i64 lo, .int .i64 hi] 47)).drewN nq)) :
    Calls Try.prog 20 #[.pointer (some ⟨p, 0, none⟩), .int .i64 v, .int .i64 lo, .int .i64 hi] w fun e w' => ∃ g' cap', e = .returned (.tuple #[.int .i64 ns.length, .nilIface]) ∧ ArenaAt 51 47 w' p g' m cap' most (ns ++ [⟨v, lo, hi⟩]) ∧ Kept [p, g, m] w w' ∧ (g' = g ∨ w.heap.size ≤ g') := by
  have b1 := behind_any h lo v
  have b2 := behind_any h hi v
  have c0 := h.c0
  have c1 := h.c1
  have c2 := h.c2
  have f1 := h.f1
  have hp := h.ltp
  have hm' : ¬ (most ≤ (ns.length : Int)) := by omega
  have HP : Hid (lo ≠ hi ∧ okB ns v lo hi = true) := ⟨by simpa using hne, hb⟩
  simp only [okB, Bool.and_eq_true, decide_eq_true_eq] at hb
  obtain ⟨⟨⟨h1, h2⟩, h3⟩, h4⟩ := hb
  rw [h3] at b1
  rw [h4] at b2
  clear h3 h4
  obtain ⟨i0, hi0, hz0, hz1, hz2⟩ := info_parts infoN
  have ltg := h.ltg
  have pg := h.pg
  have hlen : ns.length ≤ 131072 := by have := h.good.room; have := h.good.most; omega
  have hrow := h.row
  go_enter Try.func20, Try.ntmps20
  go_wp2_with fail
  refine b1.mono ?_
  rintro e w' ⟨rfl, rfl⟩
  go_wp2_with fail
  refine b2.mono ?_
  rintro e w' ⟨rfl, rfl⟩
  go_wp2
  clear b1 b2
  go_quiet (fail)
  rename Nat => n1
  go_wp2
  go_quiet (fail)
  go_wp2
  clear hlook
  obtain ⟨W, hW⟩ : ∃ W, W = (w'.alloc (.cells #[.int .i64 v, .int .i64 lo, .int .i64 hi] 47)).drewN (n1 + nq) := ⟨_, rfl⟩
  rw [← hW]
  have A1 : W.heap.size = w'.heap.size + 1 := by rw [hW]; simp
  have A2 : Below w'.heap.size w' W := by rw [hW]; exact below_drewN ((Below.refl _ _).alloc (Nat.le_refl _) _) _
  have A3 : W.cell? ⟨p, 1, none⟩ = some (.slice (some ⟨g, 0, none⟩) ns.length cap) := by rw [A2.cell hp]; exact c1
  have A4 : W.heap[w'.heap.size]? = some (.cells #[.int .i64 v, .int .i64 lo, .int .i64 hi] 47) := by rw [hW]; exact heap_new_at _ _ _ rfl
  have A5 : W.cell? ⟨w'.heap.size, 0, none⟩ = some (.int .i64 v) := by simp [World.cell?, A4]
  have A6 : W.cell? ⟨w'.heap.size, 1, none⟩ = some (.int .i64 lo) := by simp [World.cell?, A4]
  have A7 : W.cell? ⟨w'.heap.size, 2, none⟩ = some (.int .i64 hi) := by simp [World.cell?, A4]
  have A8 : W.ownsRow 0 47 3 (.slice (some ⟨g, 0, none⟩) ns.length cap) ns.length (ns.flatMap ndL) := (h.below A2).row
  have A9 : W.frozen? ⟨p, 1, none⟩ = false := (h.below A2).f1
  have A10 : W.cell? ⟨p, 2, none⟩ = some (.map (some m)) := (h.below A2).c2
  have A11 := (h.below A2).map
  clear hW c0 c1 c2 f1 hrow
  obtain ⟨B, hB⟩ : ∃ B, B = w'.heap.size := ⟨_, rfl⟩
  rw [← hB] at A1 A2 A4 A5 A6 A7 hp ltg ⊢
  have HB : Hid (B = w'.heap.size) := hB
  clear hB
  go_region_law
    ((refine step_append_lies _ (by rfl) _ _ _ (by rfl) 0 47 i0 _ 3 24 Try.underlying48 hi0 hz0 hz1 hz2 rfl (by omega) (.slice (some ⟨g, 0, none⟩) ns.length cap) ns.length (ns.flatMap ndL) (by rfl) ((A8.alloc _).drew)
        ⟨B + 1, 0, none⟩ 1 1 [.int .i64 v, .int .i64 lo, .int .i64 hi] (by rfl) (by rfl) (World.news_of_block (cs := #[.int .i64 v, .int .i64 lo, .int .i64 hi]) (t := 47) (fr := (0, 0)) (heap_new_at W _ (B + 1) A1.symm)) (by simp [Value.oneCell'])
        (by omega) (by unfold maxLen; omega) (by omega) (by simp) (B + 2) (by simp [A1]) ?_; intro gg cap1 w1 hown1 hgrow hat hlt; have hf1 : w1.frozen? ⟨p, 1, none⟩ = false := (hgrow.frozen_far (a := ⟨p, 1, none⟩) (by simp [A1]; omega) (by simp [Value.ownBlock]; omega)).trans (by simp [World.frozen?_alloc_past, A1, A9, show p < B + 1 by omega]); have hc1 : w1.cell? ⟨p, 1, none⟩ = some (.slice (some ⟨g, 0, none⟩) ns.length cap) := (hgrow.cell_far ⟨p, 1, none⟩ (by simp [A1]; omega) (by simp [Value.ownBlock]; omega)).trans (by simp [World.cell?_alloc_past, A1, A3, show p < B + 1 by omega])))
  all_goals
    have HE := put_world h HP.out.2 HP.out.1 hm hnew (HB.out ▸ A2) (HB.out ▸ A1) (HB.out ▸ A4) hown1 hgrow (HB.out ▸ hat)
    rw [← HB.out] at HE
    obtain ⟨E1, E2, E3, E4, w2, E5, E6, E7, E8⟩ := HE
    clear A1 A2 A3 A4 A5 A6 A7 A8 A9 A10 A11 hown1 hgrow hat hlt hf1 hc1
    go_wp2
    generalize w1.setCell ⟨p, 1, none⟩ (.slice (some ⟨gg, 0, none⟩) (ns.length + 1) cap1) = W2 at *
    go_region
    all_goals
      go_wp2
      go_ret2
      exact ⟨gg, cap1, rfl, E6, E7, HB.out ▸ E8⟩
end
end Go.Proofs.Ytcbpklpehdojnaa
