/- EdgeBare: the walk. -/
import Derived.Test.YtphhfjfdanlhiaaGF
import Derived.Test.YtphhfjfdanlhiaaGG
import Derived.Test.YtphhfjfdanlhiaaGC
namespace Go.Proofs.Ytphhfjfdanlhiaa
open Go.RowKit Go.Lib

set_option maxHeartbeats 8000000 in
set_option maxRecDepth 20000 in
theorem legbare_walk (cost : Int) (_ : -9223372036854775808 ≤ cost ∧ cost ≤ 9223372036854775807) (x : At) (ht : 0 ≤ x.tags ∧ x.tags < 256) (_ : -9223372036854775808 ≤ x.cost ∧ x.cost ≤ 9223372036854775807) (w : World) :
    Calls Try.prog 8 #[.int .i64 cost, atV x] w fun e w' => e = .returned (.bool true) ∧ Below w.heap.size w w' := by
  have hwk := awake12_any
  have htk := fun X : World => take_any 0 cost x ht X (EdS.none X)
  have hlk := fun X : World => likes_any 0 cost X (EdS.none X)
  rw [take_bare] at htk
  rw [likes_bare] at hlk
  obtain ⟨xo, xp, xc, xt⟩ := x
  unfold atV edV at htk
  unfold edV at hlk
  unfold atV
  dsimp only at htk ⊢
  clear ht
  go_enter Try.func8, Try.ntmps8
  go_wp2_with fail
  obtain ⟨b3, hb3⟩ : ∃ n, n = w.heap.size := ⟨_, rfl⟩
  obtain ⟨U, hU⟩ : ∃ U, U = w.alloc (atB ⟨xo, xp, xc, xt⟩) := ⟨_, rfl⟩
  have hwU : Below w.heap.size w U := by rw [hU]; exact bel_alloc (Below.refl _ _) _
  have h3 : U.heap[b3]? = some (atB ⟨xo, xp, xc, xt⟩) := by rw [hU]; exact pf_new _ _ _ hb3
  unfold atB at hU
  dsimp only at hU
  rw [← hU, ← hb3]
  clear hU hb3
  refine (hwk _).mono ?_
  rintro e W ⟨rfl, q1⟩
  replace h3 := pf_block q1 h3
  have hwW := bel_up hwU q1 hwU.size
  obtain ⟨x0, x1, x2, x3⟩ := at_cell h3
  clear hwU q1 U hwk
  cases xo
  · have hk := htk W
    clear htk hlk
    rw [if_neg (by decide)] at hk
    unfold At.zero at hk
    go_wp2_with fail
    refine hk.mono ?_
    rintro e X ⟨rfl, q2⟩
    replace h3 := pf_block q2 h3
    have hwX := bel_up hwW q2 hwW.size
    clear hk q2 x0 x1 x2 x3
    go_upto_region 4 with fail
    obtain ⟨b5, hb5⟩ : ∃ b, b = X.heap.size := ⟨_, rfl⟩
    obtain ⟨Y, hY⟩ : ∃ V, V = X.alloc (atB ⟨false, 0, 0, 0⟩) := ⟨_, rfl⟩
    have h5 : Y.heap[b5]? = some (atB ⟨false, 0, 0, 0⟩) := by rw [hY]; exact pf_new _ _ _ hb5
    replace h3 : Y.heap[b3]? = some (atB ⟨false, xp, xc, xt⟩) := by rw [hY]; exact pf_block (bel_alloc (Below.refl _ _) _) h3
    have hwY : Below w.heap.size w Y := by rw [hY]; exact bel_alloc hwX _
    unfold atB at hY
    dsimp only at hY
    rw [← hY, ← hb5]
    clear hY hb5 hwX
    obtain ⟨x0, x1, x2, x3⟩ := at_cell h3
    obtain ⟨y0, y1, y2, y3⟩ := at_cell h5
    go_wp2_with fail
    go_ret
    exact ⟨rfl, hwY⟩
  · have hk := htk W
    clear htk
    rw [if_pos rfl] at hk
    rcases cost_cases cost with ⟨d1, hk1⟩ | ⟨d1, d2, hk1⟩ | ⟨d1, d2, hk1⟩
    · rw [hk1, ← wrap_sum] at hk
      clear hk1
      go_wp2_with fail
      refine hk.mono ?_
      rintro e X ⟨rfl, q2⟩
      replace h3 := pf_block q2 h3
      have hwX := bel_up hwW q2 hwW.size
      clear hk q2 x0 x1 x2 x3
      go_upto_region 4 with fail
      obtain ⟨b5, hb5⟩ : ∃ b, b = X.heap.size := ⟨_, rfl⟩
      obtain ⟨Y, hY⟩ : ∃ V, V = X.alloc (atB ⟨true, 100, wrap64 (xc + 1), xt⟩) := ⟨_, rfl⟩
      have h5 : Y.heap[b5]? = some (atB ⟨true, 100, wrap64 (xc + 1), xt⟩) := by rw [hY]; exact pf_new _ _ _ hb5
      replace h3 : Y.heap[b3]? = some (atB ⟨true, xp, xc, xt⟩) := by rw [hY]; exact pf_block (bel_alloc (Below.refl _ _) _) h3
      have hwY : Below w.heap.size w Y := by rw [hY]; exact bel_alloc hwX _
      unfold atB at hY
      dsimp only at hY
      rw [← hY, ← hb5]
      clear hY hb5 hwX
      obtain ⟨x0, x1, x2, x3⟩ := at_cell h3
      obtain ⟨y0, y1, y2, y3⟩ := at_cell h5
      have hl := hlk Y
      have c1 : cost < 1 := of_decide_eq_true d1
      go_wp2_with fail
      refine hl.mono ?_
      rintro e Z ⟨rfl, q3⟩
      have hwZ := bel_up hwY q3 hwY.size
      clear hl q3 x0 x1 x2 x3 y0 y1 y2 y3
      go_wp2_with fail
      go_ret
      exact ⟨rfl, hwZ⟩
    · rw [hk1, ← wrap_sum] at hk
      clear hk1
      go_wp2_with fail
      refine hk.mono ?_
      rintro e X ⟨rfl, q2⟩
      replace h3 := pf_block q2 h3
      have hwX := bel_up hwW q2 hwW.size
      clear hk q2 x0 x1 x2 x3
      go_upto_region 4 with fail
      obtain ⟨b5, hb5⟩ : ∃ b, b = X.heap.size := ⟨_, rfl⟩
      obtain ⟨Y, hY⟩ : ∃ V, V = X.alloc (atB ⟨true, 100, wrap64 (xc + cost), xt⟩) := ⟨_, rfl⟩
      have h5 : Y.heap[b5]? = some (atB ⟨true, 100, wrap64 (xc + cost), xt⟩) := by rw [hY]; exact pf_new _ _ _ hb5
      replace h3 : Y.heap[b3]? = some (atB ⟨true, xp, xc, xt⟩) := by rw [hY]; exact pf_block (bel_alloc (Below.refl _ _) _) h3
      have hwY : Below w.heap.size w Y := by rw [hY]; exact bel_alloc hwX _
      unfold atB at hY
      dsimp only at hY
      rw [← hY, ← hb5]
      clear hY hb5 hwX
      obtain ⟨x0, x1, x2, x3⟩ := at_cell h3
      obtain ⟨y0, y1, y2, y3⟩ := at_cell h5
      have hl := hlk Y
      have c1 : ¬ cost < 1 := of_decide_eq_false d1
      have c2 : ¬ 1000 < cost := of_decide_eq_false d2
      go_wp2_with fail
      all_goals first
        | exact absurd (by rw [show cost = 1 by omega]) ‹¬ wrap64 (xc + cost) = wrap64 (xc + 1)›
        | (refine hl.mono ?_
           rintro e Z ⟨rfl, q3⟩
           have hwZ := bel_up hwY q3 hwY.size
           clear hl q3 x0 x1 x2 x3 y0 y1 y2 y3
           go_wp2_with fail
           all_goals
             go_ret
             exact ⟨rfl, hwZ⟩)
    · rw [hk1, ← wrap_sum] at hk
      clear hk1
      go_wp2_with fail
      refine hk.mono ?_
      rintro e X ⟨rfl, q2⟩
      replace h3 := pf_block q2 h3
      have hwX := bel_up hwW q2 hwW.size
      clear hk q2 x0 x1 x2 x3
      go_upto_region 4 with fail
      obtain ⟨b5, hb5⟩ : ∃ b, b = X.heap.size := ⟨_, rfl⟩
      obtain ⟨Y, hY⟩ : ∃ V, V = X.alloc (atB ⟨true, 100, wrap64 (xc + 1000), xt⟩) := ⟨_, rfl⟩
      have h5 : Y.heap[b5]? = some (atB ⟨true, 100, wrap64 (xc + 1000), xt⟩) := by rw [hY]; exact pf_new _ _ _ hb5
      replace h3 : Y.heap[b3]? = some (atB ⟨true, xp, xc, xt⟩) := by rw [hY]; exact pf_block (bel_alloc (Below.refl _ _) _) h3
      have hwY : Below w.heap.size w Y := by rw [hY]; exact bel_alloc hwX _
      unfold atB at hY
      dsimp only at hY
      rw [← hY, ← hb5]
      clear hY hb5 hwX
      obtain ⟨x0, x1, x2, x3⟩ := at_cell h3
      obtain ⟨y0, y1, y2, y3⟩ := at_cell h5
      have hl := hlk Y
      have c2 : 1000 < cost := of_decide_eq_true d2
      go_wp2_with fail
      refine hl.mono ?_
      rintro e Z ⟨rfl, q3⟩
      have hwZ := bel_up hwY q3 hwY.size
      clear hl q3 x0 x1 x2 x3 y0 y1 y2 y3
      go_wp2_with fail
      go_ret
      exact ⟨rfl, hwZ⟩
end Go.Proofs.Ytphhfjfdanlhiaa
