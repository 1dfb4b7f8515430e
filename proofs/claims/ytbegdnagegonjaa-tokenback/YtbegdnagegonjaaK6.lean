/- TokenBack's walk. -/
import Derived.Test.YtbegdnagegonjaaKY
import Derived.Test.YtbegdnagegonjaaKW
import Derived.BigRegion
namespace Go.Proofs.Ytbegdnagegonjaa
open Go.RowKit Go.Lib

theorem str_app3 (x y : List UInt8) : (⟨x.toArray⟩ : ByteArray) ++ ⟨y.toArray⟩ ++ ⟨#[32]⟩ = ⟨(x ++ (y ++ [32])).toArray⟩ := by
  apply ByteArray.ext
  simp
set_option maxHeartbeats 4000000 in
set_option maxRecDepth 20000 in
theorem tokenBack_walk (s : ByteArray) (hs : s.size ≤ maxLen) (w : World) :
    Calls Try.prog 4 #[.string s] w fun e w' => e = .returned (.bool true) ∧ Below w.heap.size w w' := by
  have h1 := awake6_any w
  have hs2 : s.size ≤ 9223372036854775807 := hs
  clear hs
  by_cases hlong : 2000 < s.size
  · have d0 : decide ((2000 : Int) < s.size) = true := decide_eq_true (by omega)
    go_enter Try.func4, Try.ntmps4
    go_wp2_with fail
    refine h1.mono ?_
    rintro e W ⟨rfl, q⟩
    go_wp2_with fail
    go_ret
    exact ⟨rfl, q⟩
  · have d0 : decide ((2000 : Int) < s.size) = false := decide_eq_false (by omega)
    have h2 := cut_any s (by omega)
    cases hto : toks s.data.toList 0 0 with
    | inl k =>
      rw [hto] at h2
      replace h2 : ∀ w, Calls Try.prog 8 #[.string s] w (fun e w' => e = .returned (.tuple #[.slice none 0 0, .iface 43 (.agg #[.int .i64 1, .int .i64 k])]) ∧ Below w.heap.size w w') := h2
      clear hto
      go_enter Try.func4, Try.ntmps4
      go_wp2_with fail
      refine h1.mono ?_
      rintro e W ⟨rfl, q⟩
      go_wp2_with fail
      refine (h2 _).mono ?_
      rintro e W1 ⟨rfl, q1⟩
      have p1 := bel_up q q1 q.size
      go_wp2_with fail
      go_ret
      exact ⟨rfl, p1⟩
    | inr ts =>
      rw [hto] at h2
      obtain ⟨us, hus, hrel0, hjl⟩ := toks_back hto
      obtain ⟨N, hN⟩ : ∃ N, N = ts.length := ⟨_, rfl⟩
      replace h2 : ∀ w, Calls Try.prog 8 #[.string s] w (fun e w' => ∃ g cap, e = .returned (.tuple #[.slice (some ⟨g, 0, none⟩) ts.length cap, .nilIface]) ∧ w'.ownsRow w.heap.size 34 6 (.slice (some ⟨g, 0, none⟩) ts.length cap) ts.length (ts.flatMap tkL) ∧ Below w.heap.size w w') := h2
      rw [← hN] at h2
      have hj4 : (jn ts).length ≤ 4001 := by
        have : s.data.toList.length = s.size := (size_eq s).symm
        omega
      have h3 := cut_any ⟨(jn ts).toArray⟩ (by rw [str_size]; omega)
      rw [show (⟨(jn ts).toArray⟩ : ByteArray).data.toList = jn ts from rfl, hus] at h3
      replace h3 : ∀ w, Calls Try.prog 8 #[.string ⟨(jn ts).toArray⟩] w (fun e w' => ∃ g cap, e = .returned (.tuple #[.slice (some ⟨g, 0, none⟩) us.length cap, .nilIface]) ∧ w'.ownsRow w.heap.size 34 6 (.slice (some ⟨g, 0, none⟩) us.length cap) us.length (us.flatMap tkL) ∧ Below w.heap.size w w') := h3
      rw [← rel_len hrel0, ← hN] at h3
      have HREL : Hid (RelL ts us) := hrel0
      have HN : Hid (N = ts.length) := hN
      have HJL : Hid ((jn ts).length ≤ 4001) := hj4
      clear hto hN hus hrel0 hjl hj4
      go_enter Try.func4, Try.ntmps4
      go_wp2_with fail
      refine h1.mono ?_
      rintro e W ⟨rfl, q⟩
      go_wp2_with fail
      refine (h2 _).mono ?_
      rintro e W1 ⟨g1, c1, rfl, o1, q1⟩
      have p1 := bel_up q q1 q.size
      have hNl := own_len o1
      have HO1 : Hid (W1.ownsRow W.heap.size 34 6 (.slice (some ⟨g1, 0, none⟩) N c1) N (ts.flatMap tkL)) := o1
      clear o1 h1 h2
      go_wp2_with fail
      go_loopw [5, 28] (fun tv i wr => ∃ k : Nat, k ≤ N ∧ i = .int .i64 k ∧ tv = .string ⟨(jn (ts.take k)).toArray⟩ ∧ Below W1.heap.size W1 wr) (fun _ i _ => N - (RowKit.intOf i).toNat)
      case atStart => exact ⟨0, Nat.zero_le _, rfl, rfl, Below.refl _ _⟩
      case round =>
        obtain ⟨k, hk, rfl, rfl, hb⟩ := hrel
        by_cases hlt : k < N
        · have hlt2 : k < ts.length := by rw [← HN.out]; exact hlt
          have hti : ts[k]? = some ts[k] := List.getElem?_eq_getElem hlt2
          have hjt := jn_take hlt2
          have hjl2 : (jn (ts.take (k + 1))).length ≤ 4001 := Nat.le_trans jn_le HJL.out
          obtain ⟨t, ht⟩ : ∃ t, t = ts[k] := ⟨_, rfl⟩
          rw [← ht] at hti hjt
          obtain ⟨C0, C1, C2, C3, C4, C5⟩ := tok_cells (own_bel HO1.out hb) hti
          obtain ⟨kd, tx, vl, ta, tb, p⟩ := t
          have d4 : decide ((k : Int) < N) = true := decide_eq_true (by omega)
          simp only at C0 C1 C2 C3 C4 C5 hjt
          rw [Nat.mul_comm 6 k] at C0 C1 C2 C3 C4 C5
          have HT : Hid ((⟨(jn (ts.take k)).toArray⟩ : ByteArray) ++ ⟨tx.toArray⟩ ++ ⟨#[32]⟩ = ⟨(jn (ts.take (k + 1))).toArray⟩) := by
            show (⟨(jn (ts.take k)).toArray⟩ : ByteArray) ++ ⟨tx.toArray⟩ ++ ⟨#[32]⟩ = _
            rw [str_app3, hjt]
          rw [hjt, List.length_append, List.length_append] at hjl2
          obtain ⟨X, hX⟩ : ∃ X : ByteArray, X = ⟨tx.toArray⟩ := ⟨_, rfl⟩
          have hxs : X.size = tx.length := by rw [hX, str_size]
          obtain ⟨T, hT⟩ : ∃ T : ByteArray, T = ⟨(jn (ts.take k)).toArray⟩ := ⟨_, rfl⟩
          have hts : T.size = (jn (ts.take k)).length := by rw [hT, str_size]
          rw [← hX] at C1 HT
          rw [← hT] at HT ⊢
          have hsum : T.size + X.size ≤ 4000 := by simp only [List.length_cons, List.length_nil] at hjl2; omega
          clear ht hti hlt2 hX hT hxs hts hjt hjl2
          go_wp2_with fail
          go_roundw
          case rel => exact ⟨k + 1, by omega, by go_num, by rw [← HT.out], bel_alloc hb _⟩
          case measure => simp [RowKit.intOf]; omega
        · obtain rfl : N = k := by omega
          have d4 : decide ((N : Int) < N) = false := decide_eq_false (by omega)
          have hT : (⟨(jn (ts.take N)).toArray⟩ : ByteArray) = ⟨(jn ts).toArray⟩ := by rw [HN.out, List.take_length]
          rw [hT]
          obtain ⟨T, hTT⟩ : ∃ T : ByteArray, T = ⟨(jn ts).toArray⟩ := ⟨_, rfl⟩
          rw [← hTT] at h3 ⊢
          have p2 := bel_up p1 hb p1.size
          have HB : Hid (Below W1.heap.size W1 wr) := hb
          clear hT hTT hb
          go_wp2_with fail
          refine (h3 _).mono ?_
          rintro e W2 ⟨g2, c2, rfl, o2, q2⟩
          have p3 := bel_up p2 q2 p2.size
          have HO3 : Hid (W2.ownsRow W.heap.size 34 6 (.slice (some ⟨g1, 0, none⟩) N c1) N (ts.flatMap tkL)) := own_bel (own_bel HO1.out HB.out) q2
          have HO2 : Hid (W2.ownsRow wr.heap.size 34 6 (.slice (some ⟨g2, 0, none⟩) N c2) N (us.flatMap tkL)) := o2
          clear o2 h3 q2
          go_wp2_with fail
          go_loopw [54] (fun i wq => ∃ k : Nat, k ≤ N ∧ i = .int .i64 k ∧ Below W2.heap.size W2 wq) (fun i _ => N - (RowKit.intOf i).toNat)
          case atStart => exact ⟨0, Nat.zero_le _, rfl, Below.refl _ _⟩
          case round =>
            obtain ⟨k, hk, rfl, hb⟩ := hrel
            rename World => wq
            by_cases hlt : k < N
            · have hlt2 : k < ts.length := by rw [← HN.out]; exact hlt
              have hlt3 : k < us.length := by rw [← rel_len HREL.out]; exact hlt2
              have hti : ts[k]? = some ts[k] := List.getElem?_eq_getElem hlt2
              have hui : us[k]? = some us[k] := List.getElem?_eq_getElem hlt3
              have hr := rel_get HREL.out hti hui
              obtain ⟨t, ht⟩ : ∃ t, t = ts[k] := ⟨_, rfl⟩
              obtain ⟨u, hu⟩ : ∃ u, u = us[k] := ⟨_, rfl⟩
              rw [← ht] at hti hr
              rw [← hu] at hui hr
              have d4 : decide ((k : Int) < N) = true := decide_eq_true (by omega)
              have hC : ∀ p : BelOf wq, ((p.w.cell? ⟨g1, k * 6, none⟩ = some (.int .i64 t.kind) ∧ p.w.cell? ⟨g1, k * 6 + 1, none⟩ = some (.string ⟨t.text.toArray⟩) ∧ p.w.cell? ⟨g1, k * 6 + 2, none⟩ = some (.int .i64 t.val) ∧ p.w.cell? ⟨g1, k * 6 + 3, none⟩ = some (.int .u32 t.a) ∧ p.w.cell? ⟨g1, k * 6 + 4, none⟩ = some (.int .i64 t.b) ∧ p.w.cell? ⟨g1, k * 6 + 5, none⟩ = some (.int .i64 t.pl))
                  ∧ (p.w.cell? ⟨g2, k * 6, none⟩ = some (.int .i64 u.kind) ∧ p.w.cell? ⟨g2, k * 6 + 1, none⟩ = some (.string ⟨u.text.toArray⟩) ∧ p.w.cell? ⟨g2, k * 6 + 2, none⟩ = some (.int .i64 u.val) ∧ p.w.cell? ⟨g2, k * 6 + 3, none⟩ = some (.int .u32 u.a) ∧ p.w.cell? ⟨g2, k * 6 + 4, none⟩ = some (.int .i64 u.b) ∧ p.w.cell? ⟨g2, k * 6 + 5, none⟩ = some (.int .i64 u.pl))) := by
                intro p
                have hp := bel_up hb p.h hb.size
                rw [Nat.mul_comm k 6]
                exact ⟨tok_cells (own_bel HO3.out hp) hti, tok_cells (own_bel HO2.out hp) hui⟩
              obtain ⟨r1, r2, r3, r4, r5⟩ := hr
              rw [← r1, ← r2, ← r3, ← r4, ← r5] at hC
              clear r1 r2 r3 r4 r5 ht hu hti hui hlt2 hlt3
              obtain ⟨kd, tx, vl, ta, tb, pl⟩ := t
              obtain ⟨X, hX⟩ : ∃ X : ByteArray, X = ⟨tx.toArray⟩ := ⟨_, rfl⟩
              simp only [← hX] at hC
              have A0 := fun p => (hC p).1.1
              have A1 := fun p => (hC p).1.2.1
              have A2 := fun p => (hC p).1.2.2.1
              have A3 := fun p => (hC p).1.2.2.2.1
              have A4 := fun p => (hC p).1.2.2.2.2.1
              have B0 := fun p => (hC p).2.1
              have B1 := fun p => (hC p).2.2.1
              have B2 := fun p => (hC p).2.2.2.1
              have B3 := fun p => (hC p).2.2.2.2.1
              have B4 := fun p => (hC p).2.2.2.2.2.1
              clear hC hX
              go_wp2_with fail
              have hne := bel_ne wq
              refine wp_region_bel (by kernel_rfl) (by kernel_rfl) ?_
              repeat (go_big_quiet_step (fail))
              refine wpQuiet_nil ?_
              rintro Y ⟨⟨Y', hW⟩, hY⟩
              change Y = Y' at hY
              subst hY
              have q9 := bel_up hb hW hb.size
              clear hne hW A0 A1 A2 A3 A4 B0 B1 B2 B3 B4
              go_wp2_with fail
              go_roundw
              case rel => exact ⟨k + 1, by omega, by go_num, q9⟩
              case measure => simp [RowKit.intOf]; omega
            · obtain rfl : N = k := by omega
              have d5 : decide ((N : Int) < N) = false := decide_eq_false (by omega)
              have p4 := bel_up p3 hb p3.size
              go_wp2_with fail
              go_ret
              exact ⟨rfl, p4⟩
end Go.Proofs.Ytbegdnagegonjaa
