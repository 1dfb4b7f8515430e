/- TokenPlaces' walk. -/
import Derived.Test.YtbegdnagegonjaaDoorKS
import Derived.Test.YtbegdnagegonjaaDoorKF
import Derived.Test.YtbegdnagegonjaaDoorKP
import Derived.Test.YtbegdnagegonjaaDoorKR
import Derived.BigRegion
namespace Go.Proofs.YtbegdnagegonjaaDoor
open Go.RowKit Go.Lib

theorem laid_bel {w W : World} (h : Laid w) (q : Below w.heap.size w W) : Laid W := by
  have hlt : 0 < w.heap.size := by
    rcases Nat.eq_zero_or_pos w.heap.size with h0 | h1
    · simp [Laid, World.cell?, h0] at h
    · exact h1
  unfold Laid
  rw [q.cell (p := ⟨0, 0, none⟩) hlt]
  exact h
set_option maxHeartbeats 4000000 in
set_option maxRecDepth 20000 in
theorem tokenPlaces_walk (s : ByteArray) (hs : s.size ≤ maxLen) (w : World) (hg : Laid w) :
    Calls Tryd.prog 5 #[.string s] w fun e w' => e = .returned (.bool true) ∧ Below w.heap.size w w' := by
  have h1 := awake6_any w
  have hs2 : s.size ≤ 9223372036854775807 := hs
  have hsz : s.data.toList.length = s.size := (size_eq s).symm
  by_cases hlong : 65536 < s.size
  · have h2 := cut_long s hlong
    unfold faV at h2
    go_enter Tryd.func5, Tryd.ntmps5
    go_wp2_with fail
    refine h1.mono ?_
    rintro e W ⟨rfl, q⟩
    have hgW := laid_bel hg q
    go_wp2_with fail
    refine (h2 _).mono ?_
    rintro e W1 ⟨rfl, rfl⟩
    go_wp2_with fail
    refine (place_fault 7 0 _ hgW).mono ?_
    rintro e W2 ⟨rfl, q2⟩
    have hg2 := laid_bel hgW q2
    have q3 := bel_up q q2 q.size
    have d1 : decide ((0 : Int) ≤ s.size) = true := decide_eq_true (by omega)
    go_wp2_with fail
    refine (place_fault 7 0 _ hg2).mono ?_
    rintro e W3 ⟨rfl, q4⟩
    have q5 := bel_up q3 q4 q3.size
    go_wp2_with fail
    go_ret
    exact ⟨rfl, q5⟩
  · have h2 := cut_any s (by omega)
    have hp := toks_places s.data.toList
    obtain ⟨l, hl⟩ : ∃ l, l = s.data.toList := ⟨_, rfl⟩
    rw [← hl] at h2 hp hsz
    cases hto : toks l 0 0 with
    | inl k =>
      rw [hto] at h2 hp
      replace h2 : ∀ w, Calls Tryd.prog 8 #[.string s] w (fun e w' => e = .returned (.tuple #[.slice none 0 0, .iface 52 (.agg #[.int .i64 (1 : Nat), .int .i64 k])]) ∧ Below w.heap.size w w') := h2
      simp only [Int.cast_ofNat_Int] at h2
      replace hp : k ≤ l.length := hp
      have hk : k ≤ s.size := by omega
      clear hp hto hl hlong hs
      go_enter Tryd.func5, Tryd.ntmps5
      go_wp2_with fail
      refine h1.mono ?_
      rintro e W ⟨rfl, q⟩
      have hgW := laid_bel hg q
      go_wp2_with fail
      refine (h2 _).mono ?_
      rintro e W1 ⟨rfl, q1⟩
      have hg1 := laid_bel hgW q1
      have q2 := bel_up q q1 q.size
      have hpl := place_fault 1 k
      go_wp2_with fail
      refine (hpl _ hg1).mono ?_
      rintro e W2 ⟨rfl, q3⟩
      have hg2 := laid_bel hg1 q3
      have q4 := bel_up q2 q3 q2.size
      have d0 : decide ((0 : Int) ≤ k) = true := decide_eq_true (by omega)
      have d1 : decide ((k : Int) ≤ s.size) = true := decide_eq_true (by omega)
      go_wp2_with fail
      refine (hpl _ hg2).mono ?_
      rintro e W3 ⟨rfl, q5⟩
      have q6 := bel_up q4 q5 q4.size
      go_wp2_with fail
      go_ret
      exact ⟨rfl, q6⟩
    | inr ts =>
      rw [hto] at h2 hp
      replace h2 : ∀ w, Calls Tryd.prog 8 #[.string s] w (fun e w' => ∃ g cap, e = .returned (.tuple #[.slice (some ⟨g, 0, none⟩) ts.length cap, .nilIface]) ∧ w'.ownsRow w.heap.size 42 6 (.slice (some ⟨g, 0, none⟩) ts.length cap) ts.length (ts.flatMap tkL) ∧ Below w.heap.size w w') := h2
      replace hp : PlOk l 0 ts ∧ LastAt l.length ts := hp
      clear hto hs
      go_enter Tryd.func5, Tryd.ntmps5
      go_wp2_with fail
      refine h1.mono ?_
      rintro e W ⟨rfl, q⟩
      go_wp2_with fail
      refine (h2 _).mono ?_
      rintro e W1 ⟨g, cap, rfl, ho, q1⟩
      have q2 := bel_up q q1 q.size
      go_wp2_with fail
      obtain ⟨N, hN⟩ : ∃ N, N = ts.length := ⟨_, rfl⟩
      rw [← hN] at ho ⊢
      have HN : Hid (N = ts.length) := hN
      clear hN
      have hNl := own_len ho
      have HO : Hid (W1.ownsRow W.heap.size 42 6 (.slice (some ⟨g, 0, none⟩) N cap) N (ts.flatMap tkL)) := ho
      have HL : Hid (LastAt l.length ts) := hp.2
      have HP : Hid (PlOk l 0 ts) := hp.1
      have HS : Hid (l = s.data.toList) := hl
      clear ho hp hl h1 h2 q q1
      go_loopw [5, 34] (fun av i wr => ∃ k a : Nat, k ≤ N ∧ i = .int .i64 k ∧ av = .int .i64 a ∧ a ≤ s.size ∧ PlOk l a (ts.drop k) ∧ Below W1.heap.size W1 wr) (fun _ i _ => N - (RowKit.intOf i).toNat)
      case atStart => exact ⟨0, 0, Nat.zero_le _, rfl, rfl, Nat.zero_le _, HP.out, Below.refl _ _⟩
      case round =>
        obtain ⟨k, a, hk, rfl, rfl, ha, HJ, hb⟩ := hrel
        by_cases hlt : k < N
        · have hlt2 : k < ts.length := by rw [← HN.out]; exact hlt
          have hti : ts[k]? = some ts[k] := List.getElem?_eq_getElem hlt2
          rw [List.drop_eq_getElem_cons hlt2] at HJ
          obtain ⟨p1, p2, p3, HR⟩ := HJ
          obtain ⟨t, ht⟩ : ∃ t, t = ts[k] := ⟨_, rfl⟩
          rw [← ht] at hti p1 p2 p3 HR
          obtain ⟨C0, C1, C2, C3, C4, C5⟩ := tok_cells (own_bel HO.out hb) hti
          obtain ⟨kd, tx, vl, ta, tb, p⟩ := t
          have d4 : decide ((k : Int) < N) = true := decide_eq_true (by omega)
          simp only at C0 C1 C2 C3 C4 C5 p1 p2 p3
          obtain ⟨X, hX⟩ : ∃ X : ByteArray, X = ⟨tx.toArray⟩ := ⟨_, rfl⟩
          rw [← hX] at C1
          have hxs : X.size = tx.length := by rw [hX, str_size]
          have hex : s.extract p (p + X.size) = X := by
            rw [extract_eq, ← HS.out, hxs, show p + tx.length - p = tx.length by omega, p3, hX]
          rw [Nat.mul_comm 6 k] at C0 C1 C2 C3 C4 C5
          have e1 : decide ((p : Int) < a) = false := decide_eq_false (by omega)
          have e1' : decide (p < a) = false := decide_eq_false (by omega)
          have e2 : decide ((s.size : Int) < p + X.size) = false := decide_eq_false (by omega)
          have e3 : decide ((s.size : Nat) < p + X.size) = false := decide_eq_false (by omega)
          have b1 : (0 : Int) ≤ p := by omega
          have b2 : (p : Int) + X.size ≤ s.size := by omega
          have b3 : (p : Int) ≤ p + X.size := by omega
          have HXS : Hid (X.size = tx.length) := hxs
          have e9 : p + X.size ≤ s.size := by omega
          clear ht hti hlt2 p3 hX hxs p2
          obtain ⟨b, hbw⟩ : ∃ b, b = wr.heap.size := ⟨_, rfl⟩
          obtain ⟨U, hU⟩ : ∃ U, U = wr.alloc (.cells #[.int .i64 kd, .string X, .int .i64 vl, .int .u32 ta, .int .i64 tb, .int .i64 p] 42) := ⟨_, rfl⟩
          have hbU : Below W1.heap.size W1 U := by rw [hU]; exact bel_alloc hb _
          have hcU : U.heap[b]? = some (.cells #[.int .i64 kd, .string X, .int .i64 vl, .int .u32 ta, .int .i64 tb, .int .i64 p] 42 (0, 0)) := by rw [hU]; exact pf_new _ _ _ hbw
          have hbl : b < U.heap.size := (Array.getElem?_eq_some_iff.1 hcU).1
          obtain ⟨_, u1, _, _, _, u5⟩ := cells_six hcU
          have E1 : ∀ p : BelOf U, p.w.cell? ⟨b, 1, none⟩ = some (.string X) := bel_cell hbl u1
          have E5 : ∀ q : BelOf U, q.w.cell? ⟨b, 5, none⟩ = some (.int .i64 p) := bel_cell hbl u5
          clear u1 u5 hcU
          go_wp2_with fail
          rw [← hbw, ← hU]
          clear hU hbw C0 C1 C2 C3 C4 C5 hb
          have hne := bel_ne U
          refine wp_region_bel (by kernel_rfl) (by kernel_rfl) ?_
          repeat (go_big_quiet_step (fail))
          refine wpQuiet_nil ?_
          rintro Y ⟨⟨Y', hW⟩, hY⟩
          change Y = Y' at hY
          subst hY
          have q9 := bel_up hbU hW hbU.size
          have c1 : Y.cell? ⟨b, 1, none⟩ = some (.string X) := E1 ⟨Y, hW⟩
          have c5 : Y.cell? ⟨b, 5, none⟩ = some (.int .i64 p) := E5 ⟨Y, hW⟩
          clear E1 E5 hne hbU hW hbl
          go_wp2_with fail
          go_roundw
          case rel => exact ⟨k + 1, p + X.size, by omega, by go_num, by go_num, by omega, by rw [HXS.out]; exact HR, q9⟩
          case measure => simp [RowKit.intOf]; omega
        · obtain rfl : N = k := by omega
          have d4 : decide ((N : Int) < N) = false := decide_eq_false (by omega)
          obtain ⟨t, ht1, ht2⟩ := last_get HL.out
          have hpos := last_pos HL.out
          rw [← HN.out] at ht1 hpos
          rw [hsz] at ht2
          obtain ⟨m, hm⟩ : ∃ m : Nat, N - 1 = m := ⟨_, rfl⟩
          rw [hm] at ht1
          have hNm : (N : Int) - 1 = m := by omega
          have d5 : decide ((0 : Int) < N) = true := decide_eq_true (by omega)
          have d6 : decide (0 < N) = true := decide_eq_true (by omega)
          have m1 : m < N := by omega
          obtain ⟨_, _, _, _, _, C5⟩ := tok_cells (own_bel HO.out hb) ht1
          rw [ht2] at C5
          rw [Nat.mul_comm 6] at C5
          have q9 := bel_up q2 hb q2.size
          clear hm ht1 ht2
          go_wp2_with fail
          go_ret
          exact ⟨rfl, q9⟩
end Go.Proofs.YtbegdnagegonjaaDoor
