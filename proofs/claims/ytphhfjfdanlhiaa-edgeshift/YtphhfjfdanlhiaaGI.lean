/- EdgeShift: the walk. -/
import Derived.Test.YtphhfjfdanlhiaaGF
import Derived.Test.YtphhfjfdanlhiaaGD
namespace Go.Proofs.Ytphhfjfdanlhiaa
open Go.RowKit Go.Lib

/-- A row, and what is learned of a route of these tags: nothing of both, or the same but for what it costs. -/
theorem shift_two (ex im : List ClD) (c : Int) (t k q : Nat) (hk : k < 65536) :
    (rowP ex im c (t % 16) = ⟨false, 0, 0, 0⟩ ∧ takeP ex im c ⟨true, q, k, (t : Int) % 16⟩ = ⟨false, 0, 0, 0⟩) ∨
    ∃ m p s : Int, 1 ≤ m ∧ m ≤ 1030 ∧ rowP ex im c (t % 16) = ⟨true, p, m, s⟩ ∧ takeP ex im c ⟨true, q, k, (t : Int) % 16⟩ = ⟨true, p, m + k, s⟩ := by
  have e : ((t % 16 % 16 : Nat) : Int) = (t : Int) % 16 := by omega
  unfold rowP
  rw [e]
  rcases take_shift ex im c ((t : Int) % 16) with h | ⟨m, p, s, h1, h2, h⟩
  · exact .inl ⟨h 100 0 (by decide) (by decide), h q k (by omega) (by omega)⟩
  · refine .inr ⟨m, p, s, h1, h2, ?_, ?_⟩
    · rw [h 100 0 (by decide) (by decide), Int.zero_add]
    · rw [h q k (by omega) (by omega), Int.add_comm]
set_option maxHeartbeats 8000000 in
set_option maxRecDepth 20000 in
theorem legshift_walk {ve vi : Value} {ex im : List ClD} (fr cost : Int) (k : Nat) (hk : k < 65536) (q : Nat) (hq : q < 256) (t : Nat) (ht : t < 256) (w : World) (h : EdS w ve vi ex im) :
    Calls Try.prog 7 #[edV fr cost ve vi, .int .u16 k, .int .u8 q, .int .u8 t] w fun e w' => e = .returned (.bool true) ∧ Below w.heap.size w w' := by
  have hwk := awake12_any
  have htb : 0 ≤ (t : Int) % 16 ∧ (t : Int) % 16 < 256 := by omega
  have hrw := fun (X : World) (b : Below w.heap.size w X) => row_any fr cost (t % 16) (by omega) X (h.keep b)
  have htk := fun (X : World) (b : Below w.heap.size w X) => take_any fr cost ⟨true, q, k, (t : Int) % 16⟩ htb X (h.keep b)
  have hsh := shift_two ex im cost t k q hk
  rw [show ((t % 16 : Nat) : Int) = (t : Int) % 16 by omega] at hrw
  obtain ⟨y, hy⟩ : ∃ y, y = rowP ex im cost (t % 16) := ⟨_, rfl⟩
  obtain ⟨z, hz⟩ : ∃ z, z = takeP ex im cost ⟨true, q, k, (t : Int) % 16⟩ := ⟨_, rfl⟩
  rw [← hy] at hrw hsh
  rw [← hz] at htk hsh
  have HSH : Hid _ := hsh
  obtain ⟨ae, ce, ai, ci, rfl, rfl⟩ := h.form
  have k0 : (0 : Int) ≤ k := by omega
  have k1 : (k : Int) < 65536 := by omega
  have q0 : (0 : Int) ≤ q := by omega
  have q1 : (q : Int) < 256 := by omega
  have t0 : (0 : Int) ≤ t := by omega
  have t1 : (t : Int) < 256 := by omega
  clear h hsh hy hz htb hk hq ht
  unfold atV edV at hrw htk
  unfold edV
  dsimp only at htk
  go_enter Try.func7, Try.ntmps7
  go_wp2_with fail
  obtain ⟨b4, hb4⟩ : ∃ n, n = w.heap.size := ⟨_, rfl⟩
  obtain ⟨U, hU⟩ : ∃ U, U = w.alloc (edB fr cost (.slice ae ex.length ce) (.slice ai im.length ci)) := ⟨_, rfl⟩
  have hwU : Below w.heap.size w U := by rw [hU]; exact bel_alloc (Below.refl _ _) _
  have h4 : U.heap[b4]? = some (edB fr cost (.slice ae ex.length ce) (.slice ai im.length ci)) := by rw [hU]; exact pf_new _ _ _ hb4
  unfold edB at hU
  rw [← hU, ← hb4]
  clear hU hb4
  refine (hwk _).mono ?_
  rintro e W ⟨rfl, qW⟩
  replace h4 := pf_block qW h4
  have hwW := bel_up hwU qW hwU.size
  obtain ⟨e0, e1, e2, e3⟩ := ed_cells h4
  have hr := hrw W hwW
  clear hwU qW U hwk hrw
  go_wp2_with fail
  refine hr.mono ?_
  rintro e X ⟨rfl, qX⟩
  replace h4 := pf_block qX h4
  have hwX := bel_up hwW qX hwW.size
  clear e0 e1 e2 e3 hr qX hwW
  go_upto_region 4 with fail
  obtain ⟨b9, hb9⟩ : ∃ n, n = X.heap.size := ⟨_, rfl⟩
  obtain ⟨Y, hY⟩ : ∃ V, V = X.alloc (atB y) := ⟨_, rfl⟩
  have h9 : Y.heap[b9]? = some (atB y) := by rw [hY]; exact pf_new _ _ _ hb9
  replace h4 : Y.heap[b4]? = some (edB fr cost (.slice ae ex.length ce) (.slice ai im.length ci)) := by rw [hY]; exact pf_block (bel_alloc (Below.refl _ _) _) h4
  have hwY : Below w.heap.size w Y := by rw [hY]; exact bel_alloc hwX _
  have HUP : Hid (w.heap.size ≤ b9) := by rw [hb9]; exact hwX.size
  unfold atB at hY
  rw [← hY, ← hb9]
  obtain ⟨e0, e1, e2, e3⟩ := ed_cells h4
  have hk := htk Y hwY
  clear hY hb9 hwX htk
  go_wp2_with fail
  refine hk.mono ?_
  rintro e Z ⟨rfl, qZ⟩
  replace h9 := pf_block qZ h9
  have hwZ := bel_up hwY qZ hwY.size
  clear e0 e1 e2 e3 hk qZ hwY h4
  go_upto_region 5 with fail
  obtain ⟨b11, hb11⟩ : ∃ n, n = Z.heap.size := ⟨_, rfl⟩
  have hne : b9 ≠ b11 := by have := (Array.getElem?_eq_some_iff.1 h9).1; omega
  have hnr : b11 ≠ b9 := hne.symm
  obtain ⟨V, hV⟩ : ∃ V, V = Z.alloc (atB z) := ⟨_, rfl⟩
  have h11 : V.heap[b11]? = some (atB z) := by rw [hV]; exact pf_new _ _ _ hb11
  replace h9 : V.heap[b9]? = some (atB y) := by rw [hV]; exact pf_block (bel_alloc (Below.refl _ _) _) h9
  have hwV : Below w.heap.size w V := by rw [hV]; exact bel_alloc hwZ _
  unfold atB at hV
  rw [← hV, ← hb11]
  clear hV hb11 hwZ
  rcases HSH.out with ⟨rfl, rfl⟩ | ⟨m, p, s, m0, m1, rfl, rfl⟩
  · obtain ⟨y0, y1, y2, y3⟩ := at_cell h9
    obtain ⟨z0, z1, z2, z3⟩ := at_cell h11
    go_wp2_with fail
    go_ret
    exact ⟨rfl, hwV⟩
  · obtain ⟨y0, y1, y2, y3⟩ := at_cell h9
    obtain ⟨z0, z1, z2, z3⟩ := at_cell h11
    obtain ⟨f0, f1, f2, f3⟩ := at_free h9
    dsimp only at y0 y1 y2 y3 z0 z1 z2 z3
    go_upto_region 8 with fail
    have a9 : (V.setCell ⟨b9, 2, none⟩ (.int .i64 (m + k))).heap[b9]? = some (atB ⟨true, p, m + k, s⟩) := set_at (i := 2) h9 _
    have a11 : (V.setCell ⟨b9, 2, none⟩ (.int .i64 (m + k))).heap[b11]? = some (atB ⟨true, p, m + k, s⟩) := set_off h11 hnr _
    have hS : Below w.heap.size w (V.setCell ⟨b9, 2, none⟩ (.int .i64 (m + k))) := hwV.setCell HUP.out _
    obtain ⟨S, hSS⟩ : ∃ S, S = V.setCell ⟨b9, 2, none⟩ (.int .i64 (m + k)) := ⟨_, rfl⟩
    rw [← hSS] at a9 a11 hS ⊢
    have d1 : decide ((k : Int) < m + k) = true := decide_eq_true (by omega)
    have d2 : decide (m + (k : Int) ≤ (k : Int) + 1030) = true := decide_eq_true (by omega)
    have n0 : 0 ≤ m + (k : Int) := by omega
    have n1 : m + (k : Int) < 100000 := by omega
    obtain ⟨N, hN⟩ : ∃ N, N = m + (k : Int) := ⟨_, rfl⟩
    rw [← hN] at a9 a11 d1 d2 n0 n1 ⊢
    clear hN hSS y0 y1 y2 y3 z0 z1 z2 z3 f0 f1 f2 f3 h9 h11 hwV m0 m1
    obtain ⟨y0, y1, y2, y3⟩ := at_cell a9
    obtain ⟨z0, z1, z2, z3⟩ := at_cell a11
    dsimp only at y0 y1 y2 y3 z0 z1 z2 z3
    clear a9 a11
    go_wp2_with fail
    go_ret
    exact ⟨rfl, hS⟩
end Go.Proofs.Ytphhfjfdanlhiaa
