/- TokenCut's walk. -/
import Derived.Test.YtbegdnagegonjaaDoorKH
import Derived.Test.YtbegdnagegonjaaDoorK2
namespace Go.Proofs.YtbegdnagegonjaaDoor
open Go.RowKit Go.Lib

set_option maxHeartbeats 4000000 in
set_option maxRecDepth 20000 in
theorem same_any (ts : List Tk) (N g1 c1 g2 c2 B1 B2 : Nat) (w : World) (hN : N = ts.length)
    (h1 : w.ownsRow B1 42 6 (.slice (some ⟨g1, 0, none⟩) N c1) N (ts.flatMap tkL)) (h2 : w.ownsRow B2 42 6 (.slice (some ⟨g2, 0, none⟩) N c2) N (ts.flatMap tkL)) :
    Calls Tryd.prog 12 #[.slice (some ⟨g1, 0, none⟩) N c1, .slice (some ⟨g2, 0, none⟩) N c2] w fun e w' => e = .returned (.bool true) ∧ Below w.heap.size w w' := by
  have hNl := own_len h1
  have HN : Hid (N = ts.length) := hN
  have HO1 : Hid (w.ownsRow B1 42 6 (.slice (some ⟨g1, 0, none⟩) N c1) N (ts.flatMap tkL)) := h1
  have HO2 : Hid (w.ownsRow B2 42 6 (.slice (some ⟨g2, 0, none⟩) N c2) N (ts.flatMap tkL)) := h2
  clear h1 h2 hN
  go_enter Tryd.func12, Tryd.ntmps12
  go_wp2_with fail
  go_loopw [13] (fun i wr => ∃ k : Nat, k ≤ N ∧ i = .int .i64 k ∧ Below w.heap.size w wr) (fun i _ => N - (RowKit.intOf i).toNat)
  case atStart => exact ⟨0, Nat.zero_le _, rfl, Below.refl _ _⟩
  case round =>
    obtain ⟨k, hk, rfl, hb⟩ := hrel
    by_cases hlt : k < N
    · have hti : ts[k]? = some ts[k] := List.getElem?_eq_getElem (by rw [← HN.out]; exact hlt)
      obtain ⟨t, ht⟩ : ∃ t, t = ts[k] := ⟨_, rfl⟩
      rw [← ht] at hti
      have d4 : decide ((k : Int) < N) = true := decide_eq_true (by omega)
      have hC : ∀ p : BelOf wr, ((p.w.cell? ⟨g1, k * 6, none⟩ = some (.int .i64 t.kind) ∧ p.w.cell? ⟨g1, k * 6 + 1, none⟩ = some (.string ⟨t.text.toArray⟩) ∧ p.w.cell? ⟨g1, k * 6 + 2, none⟩ = some (.int .i64 t.val) ∧ p.w.cell? ⟨g1, k * 6 + 3, none⟩ = some (.int .u32 t.a) ∧ p.w.cell? ⟨g1, k * 6 + 4, none⟩ = some (.int .i64 t.b) ∧ p.w.cell? ⟨g1, k * 6 + 5, none⟩ = some (.int .i64 t.pl))
          ∧ (p.w.cell? ⟨g2, k * 6, none⟩ = some (.int .i64 t.kind) ∧ p.w.cell? ⟨g2, k * 6 + 1, none⟩ = some (.string ⟨t.text.toArray⟩) ∧ p.w.cell? ⟨g2, k * 6 + 2, none⟩ = some (.int .i64 t.val) ∧ p.w.cell? ⟨g2, k * 6 + 3, none⟩ = some (.int .u32 t.a) ∧ p.w.cell? ⟨g2, k * 6 + 4, none⟩ = some (.int .i64 t.b) ∧ p.w.cell? ⟨g2, k * 6 + 5, none⟩ = some (.int .i64 t.pl))) := by
        intro p
        have hp := bel_up hb p.h hb.size
        rw [Nat.mul_comm k 6]
        exact ⟨tok_cells (own_bel HO1.out hp) hti, tok_cells (own_bel HO2.out hp) hti⟩
      obtain ⟨kd, tx, vl, ta, tb, pl⟩ := t
      obtain ⟨X, hX⟩ : ∃ X : ByteArray, X = ⟨tx.toArray⟩ := ⟨_, rfl⟩
      simp only [← hX] at hC
      have A0 := fun p => (hC p).1.1
      have A1 := fun p => (hC p).1.2.1
      have A2 := fun p => (hC p).1.2.2.1
      have A3 := fun p => (hC p).1.2.2.2.1
      have A4 := fun p => (hC p).1.2.2.2.2.1
      have A5 := fun p => (hC p).1.2.2.2.2.2
      have B0 := fun p => (hC p).2.1
      have B1 := fun p => (hC p).2.2.1
      have B2 := fun p => (hC p).2.2.2.1
      have B3 := fun p => (hC p).2.2.2.2.1
      have B4 := fun p => (hC p).2.2.2.2.2.1
      have B5 := fun p => (hC p).2.2.2.2.2.2
      clear hC hX ht hti
      go_wp2_with fail
      have hne := bel_ne wr
      refine wp_region_bel (by kernel_rfl) (by kernel_rfl) ?_
      repeat (go_big_quiet_step (fail))
      refine wpQuiet_nil ?_
      rintro Y ⟨⟨Y', hW⟩, hY⟩
      change Y = Y' at hY
      subst hY
      have q9 := bel_up hb hW hb.size
      clear hne hW A0 A1 A2 A3 A4 A5 B0 B1 B2 B3 B4 B5
      go_wp2_with fail
      go_roundw
      case rel => exact ⟨k + 1, by omega, by go_num, q9⟩
      case measure => simp [RowKit.intOf]; omega
    · obtain rfl : N = k := by omega
      have d4 : decide ((N : Int) < N) = false := decide_eq_false (by omega)
      go_wp2_with fail
      go_ret
      exact ⟨rfl, hb⟩
set_option maxHeartbeats 4000000 in
set_option maxRecDepth 20000 in
theorem tokenCut_walk (s : ByteArray) (hs : s.size ≤ maxLen) (w : World) (hg : Laid w) :
    Calls Tryd.prog 3 #[.string s] w fun e w' => e = .returned (.bool true) ∧ Below w.heap.size w w' := by
  have h1 := awake6_any w
  have hs2 : s.size ≤ 9223372036854775807 := hs
  clear hs
  by_cases hlong : 4000 < s.size
  · have d0 : decide ((4000 : Int) < s.size) = true := decide_eq_true (by omega)
    go_enter Tryd.func3, Tryd.ntmps3
    go_wp2_with fail
    refine h1.mono ?_
    rintro e W ⟨rfl, q⟩
    go_wp2_with fail
    go_ret
    exact ⟨rfl, q⟩
  · have d0 : decide ((4000 : Int) < s.size) = false := decide_eq_false (by omega)
    have h2 := cut_any s (by omega)
    have h3 := lcut_any s (by omega)
    cases hto : toks s.data.toList 0 0 with
    | inl k =>
      rw [hto] at h2 h3
      replace h2 : ∀ w, Calls Tryd.prog 8 #[.string s] w (fun e w' => e = .returned (.tuple #[.slice none 0 0, .iface 52 (.agg #[.int .i64 1, .int .i64 k])]) ∧ Below w.heap.size w w') := h2
      replace h3 : ∀ w, Calls Tryd.prog 9 #[.string s] w (fun e w' => e = .returned (.tuple #[.slice none 0 0, .int .i64 k]) ∧ Below w.heap.size w w') := h3
      have d1 : decide ((0 : Int) ≤ k) = true := decide_eq_true (by omega)
      clear hto
      go_enter Tryd.func3, Tryd.ntmps3
      go_wp2_with fail
      refine h1.mono ?_
      rintro e W ⟨rfl, q⟩
      have hg0 := laid_bel hg q
      go_wp2_with fail
      refine (h2 _).mono ?_
      rintro e W1 ⟨rfl, q1⟩
      have hg1 := laid_bel hg0 q1
      have p1 := bel_up q q1 q.size
      go_wp2_with fail
      refine (h3 _).mono ?_
      rintro e W2 ⟨rfl, q2⟩
      have hg2 := laid_bel hg1 q2
      have p2 := bel_up p1 q2 p1.size
      go_wp2_with fail
      refine (number_fault 1 k _ hg2).mono ?_
      rintro e W3 ⟨rfl, q3⟩
      have hg3 := laid_bel hg2 q3
      have p3 := bel_up p2 q3 p2.size
      go_wp2_with fail
      refine (place_fault 1 k _ hg3).mono ?_
      rintro e W4 ⟨rfl, q4⟩
      have p4 := bel_up p3 q4 p3.size
      go_wp2_with fail
      go_ret
      exact ⟨rfl, p4⟩
    | inr ts =>
      rw [hto] at h2 h3
      obtain ⟨N, hN⟩ : ∃ N, N = ts.length := ⟨_, rfl⟩
      replace h2 : ∀ w, Calls Tryd.prog 8 #[.string s] w (fun e w' => ∃ g cap, e = .returned (.tuple #[.slice (some ⟨g, 0, none⟩) ts.length cap, .nilIface]) ∧ w'.ownsRow w.heap.size 42 6 (.slice (some ⟨g, 0, none⟩) ts.length cap) ts.length (ts.flatMap tkL) ∧ Below w.heap.size w w') := h2
      replace h3 : ∀ w, Calls Tryd.prog 9 #[.string s] w (fun e w' => ∃ g cap, e = .returned (.tuple #[.slice (some ⟨g, 0, none⟩) ts.length cap, .int .i64 (-1)]) ∧ w'.ownsRow w.heap.size 42 6 (.slice (some ⟨g, 0, none⟩) ts.length cap) ts.length (ts.flatMap tkL) ∧ Below w.heap.size w w') := h3
      rw [← hN] at h2 h3
      have HN : Hid (N = ts.length) := hN
      clear hto hN
      go_enter Tryd.func3, Tryd.ntmps3
      go_wp2_with fail
      refine h1.mono ?_
      rintro e W ⟨rfl, q⟩
      go_wp2_with fail
      refine (h2 _).mono ?_
      rintro e W1 ⟨g1, c1, rfl, o1, q1⟩
      have p1 := bel_up q q1 q.size
      go_wp2_with fail
      refine (h3 _).mono ?_
      rintro e W2 ⟨g2, c2, rfl, o2, q2⟩
      have p2 := bel_up p1 q2 p1.size
      have hsm := same_any ts N g1 c1 g2 c2 _ _ W2 HN.out (own_bel o1 q2) o2
      clear o1 o2 h1 h2 h3
      go_wp2_with fail
      refine hsm.mono ?_
      rintro e W3 ⟨rfl, q3⟩
      have p3 := bel_up p2 q3 p2.size
      go_wp2_with fail
      go_ret
      exact ⟨rfl, p3⟩
end Go.Proofs.YtbegdnagegonjaaDoor
