/- ArenaOrder: the walk. -/
import Derived.Test.YthlbelpooplgeaaBu
import Derived.LoopTactic
import Derived.Deep.RegionHeld3
namespace Go.Proofs.Ythlbelpooplgeaa
open Go.RowKit

/-- What three builds do. -/
theorem ord_all (bits more : Nat) : ∃ n1 n2 k, bld 100 bits 4 0 0 first2 = (k, n1) ∧ ∃ k2, bld 100 more 4 0 0 n1 = (k2, n2) ∧ bld 100 bits 4 0 0 n2 = (k, n2) ∧ Good 100 n1 ∧ Good 100 n2 ∧ n2.length ≤ 32 ∧ On n1 n2 := by
  have g0 : Good 100 first2 := good2 100
  obtain ⟨a1, a2, a3, a4, a5, a6⟩ := bld_all 100 bits 4 0 0 first2 g0 (by decide) (by decide)
  have e1 : (first2.length : Int) = 2 := rfl
  have e2 : (2 : Int) ^ 4 = 16 := rfl
  rw [e1, e2] at a3
  generalize hA : bld 100 bits 4 0 0 first2 = A at a1 a2 a3 a6
  obtain ⟨b1, b2, b3, b4, b5, b6⟩ := bld_all 100 more 4 0 0 A.2 a1 (by decide) (by rw [e2]; omega)
  rw [e2] at b3
  generalize hB : bld 100 more 4 0 0 A.2 = B at b1 b2 b3
  exact ⟨A.2, B.2, A.1, rfl, B.1, hB, a6 _ b1 b2, a1, b1, by omega, b2⟩

theorem c100 : clampN 100 = 100 := rfl
theorem field0 (a b c : Int) (W : World) : Sem.run Try.prog (Instr.field 33 (.agg #[.int .i64 a, .int .i64 b, .int .i64 c]) 0) W = .ok (.int .i64 a) W := by kernel_rfl

set_option maxHeartbeats 1000000 in
theorem ord_any (bits more : Nat) (hb : bits < 65536) (hm : more < 65536) (w : World) :
    Calls Try.prog 4 #[.int .u16 bits, .int .u16 more] w fun e w' => e = .returned (.bool true) ∧ Below w.heap.size w w' := by
  obtain ⟨n1, n2, k, E1, k2, E2, E3, G1, G2, L2, O⟩ := ord_all bits more
  go_enter Try.func4, Try.ntmps4
  go_wp2_with fail
  refine (awake_any w).mono ?_
  rintro e w0 ⟨rfl, b0⟩
  go_wp2_with fail
  refine (of_any 100 w0).mono ?_
  rintro e w1 ⟨rfl, a1, b1, s1⟩
  have B1 := Below.up b0 b1 (Nat.le_refl _)
  have hs0 := b0.size
  obtain ⟨p, hp, hp'⟩ : ∃ p, w.heap.size ≤ p ∧ p = w0.heap.size + 2 := ⟨_, by omega, rfl⟩
  obtain ⟨g, hg, hg'⟩ : ∃ g, w.heap.size ≤ g ∧ g = w0.heap.size := ⟨_, by omega, rfl⟩
  obtain ⟨m, hmm, hm'⟩ : ∃ m, w.heap.size ≤ m ∧ m = w0.heap.size + 1 := ⟨_, by omega, rfl⟩
  rw [← hp', ← hm', ← hg', c100] at a1
  rw [← hp']
  clear hp' hm' hg' s1 b0 b1 hs0
  have m1 := build_any bits hb a1
  rw [E1] at m1
  go_wp2_with fail
  refine m1.mono ?_
  rintro e w2 ⟨g2, c2, rfl, a2, q2, e2⟩
  obtain ⟨b2, hg2⟩ := next B1 (Nat.le_refl _) hp hg hmm q2 e2
  clear m1 a1 B1 q2 e2 hg E1
  have m2 := build_any more hm a2
  rw [E2] at m2
  go_wp2_with fail
  refine m2.mono ?_
  rintro e w3 ⟨g3, c3, rfl, a3, q3, e3⟩
  obtain ⟨b3, hg3⟩ := next b2 (Nat.le_refl _) hp hg2 hmm q3 e3
  clear m2 a2 b2 q3 e3 hg2 E2
  have m3 := build_any bits hb a3
  rw [E3] at m3
  go_wp2_with fail
  refine m3.mono ?_
  rintro e w4 ⟨g4, c4, rfl, a4, q4, e4⟩
  obtain ⟨b4, hg4⟩ := next b3 (Nat.le_refl _) hp hg3 hmm q4 e4
  clear m3 a3 b3 q4 e4 hg3 E3
  simp only at a4 ⊢
  go_wp2_with fail
  go_loopw [8] (fun i wr => ∃ j : Nat, 2 ≤ j ∧ j ≤ n2.length ∧ i = .int .i64 j ∧ Below w4.heap.size w4 wr) (fun i _ => n2.length - (intOf i).toNat)
  case atStart => exact ⟨2, by omega, G2.len, rfl, Below.refl _ _⟩
  case round =>
    obtain ⟨j, hj2, hjl, rfl, hbel⟩ := hrel
    rename World => wr
    have hl := len_any (a4.below hbel)
    by_cases hlt : j < n2.length
    · obtain ⟨q1, q2, ⟨x, qx1, qx2, qx3⟩, ⟨y, qy1, qy2, qy3⟩, q5⟩ := G2.nodes j hj2 hlt
      have hg1 := get_any (a4.below hbel) j
      rw [getN_in hlt] at hg1
      go_wp2_with fail
      refine hl.mono ?_
      rintro e wq ⟨rfl, rfl⟩
      go_wp2_with fail
      refine hg1.mono ?_
      rintro e w5 ⟨rfl, b5, s5⟩
      unfold ndV
      have hv : (ndAt n2 j).v = (ndAt n2 j).v := rfl
      generalize (ndAt n2 j).v = v at q1 q2 qx3 qy3 ⊢
      have hloc : (x : Int) ≠ y := by rw [← qx1, ← qy1]; exact q5
      rw [qx1, qy1]
      clear hv q5 qx1 qy1 hg1 hl
      go_wp2_with fail
      obtain ⟨W, hW⟩ : ∃ W, W = w5.alloc (.cells #[.int .i64 v, .int .i64 x, .int .i64 y] 33) := ⟨_, rfl⟩
      rw [← hW]
      have hb45 : Below w4.heap.size w4 w5 := Below.up hbel b5 (Nat.le_refl _)
      have hbW : Below w4.heap.size w4 W := by rw [hW]; exact Below.up hb45 ((Below.refl _ _).alloc (Nat.le_refl _) _) (Nat.le_refl _)
      have hcW : W.heap[w5.heap.size]? = some (.cells #[.int .i64 v, .int .i64 x, .int .i64 y] 33) := by rw [hW]; exact heap_new_at _ _ _ rfl
      rw [s5] at hcW
      have hx' : x < n2.length := by omega
      have hy' : y < n2.length := by omega
      have GX : ∀ U, Below W.heap.size W U → Calls Try.prog 12 #[.pointer (some ⟨p, 0, none⟩), .int .i64 x] U fun e U' => e = .returned (ndV (ndAt n2 x)) ∧ Below U.heap.size U U' ∧ U'.heap.size = U.heap.size + 1 := fun U hU => by
        have := get_any ((a4.below hbW).below hU) x
        rwa [getN_in hx'] at this
      have GY : ∀ U, Below W.heap.size W U → Calls Try.prog 12 #[.pointer (some ⟨p, 0, none⟩), .int .i64 y] U fun e U' => e = .returned (ndV (ndAt n2 y)) ∧ Below U.heap.size U U' ∧ U'.heap.size = U.heap.size + 1 := fun U hU => by
        have := get_any ((a4.below hbW).below hU) y
        rwa [getN_in hy'] at this
      unfold ndV at GX GY
      generalize hnx : ndAt n2 x = nx at GX qx3
      generalize hny : ndAt n2 y = ny at GY qy3
      clear hnx hny hW
      obtain ⟨vx, lx, ux⟩ := nx
      obtain ⟨vy, ly, uy⟩ := ny
      simp only at GX GY qx3 qy3
      have d1 : decide (vx ≤ v) = false := by simp; omega
      have d2 : decide (vy ≤ v) = false := by simp; omega
      have d3 : ((x : Int) == (y : Int)) = false := by rw [beq_eq_false_iff_ne]; exact hloc
      have d4 : decide (j ≤ x) = false := by simp; omega
      have d5 : decide (j ≤ y) = false := by simp; omega
      have d4' : ¬ ((j : Int) ≤ (x : Int)) := by omega
      have d5' : ¬ ((j : Int) ≤ (y : Int)) := by omega
      obtain ⟨bx, hbx⟩ : ∃ bx, bx = wq.heap.size + 1 := ⟨_, rfl⟩
      rw [← hbx] at hcW ⊢
      have C0 : W.cell? ⟨bx, 0, none⟩ = some (.int .i64 v) := by simp [World.cell?, hcW]
      have C1 : W.cell? ⟨bx, 1, none⟩ = some (.int .i64 x) := by simp [World.cell?, hcW]
      have C2 : W.cell? ⟨bx, 2, none⟩ = some (.int .i64 y) := by simp [World.cell?, hcW]
      have hlt' : bx < W.heap.size := (Array.getElem?_eq_some_iff.1 hcW).1
      have HC : ∀ U, Below W.heap.size W U → U.cell? ⟨bx, 0, none⟩ = some (.int .i64 v) ∧ U.cell? ⟨bx, 1, none⟩ = some (.int .i64 x) ∧ U.cell? ⟨bx, 2, none⟩ = some (.int .i64 y) := fun U hU =>
        ⟨by rw [hU.cell hlt']; exact C0, by rw [hU.cell hlt']; exact C1, by rw [hU.cell hlt']; exact C2⟩
      clear hcW hbx s5 b5 hb45
      have hfl := field0
      go_region_held3 (fun U => U.cell? ⟨bx, 0, none⟩ = some (.int .i64 v) ∧ U.cell? ⟨bx, 1, none⟩ = some (.int .i64 x) ∧ U.cell? ⟨bx, 2, none⟩ = some (.int .i64 y) ∧ Below W.heap.size W U)
        (first
          | exact ⟨C0, C1, C2, (Below.refl _ _).drew⟩
          | (have hz := Below.up (by assumption) hbu (Nat.le_refl _); exact ⟨(HC _ hz).1, (HC _ hz).2.1, (HC _ hz).2.2, hz⟩))
        (first
          | (go_at_call_of 12 (Value.int .i64 (x : Int)); go_split_ands; refine (GX _ ?_).mono ?_; assumption; rintro e w' ⟨rfl, hbu, hsu⟩)
          | (go_at_call_of 12 (Value.int .i64 (y : Int)); go_split_ands; refine (GY _ ?_).mono ?_; assumption; rintro e w' ⟨rfl, hbu, hsu⟩))
      go_wp2_with fail
      clear GX GY HC hfl
      go_roundw
      case rel => exact ⟨j + 1, by omega, by omega, by go_num, Below.up (Below.up hbW (by assumption) (Nat.le_refl _)) hbu (Nat.le_refl _)⟩
      case measure => simp [intOf]; omega
    · obtain rfl : j = n2.length := by omega
      have hl2 := hl
      go_wp2_with fail
      refine hl.mono ?_
      rintro e _ ⟨rfl, rfl⟩
      go_wp2_with fail
      refine hl2.mono ?_
      rintro e _ ⟨rfl, rfl⟩
      go_wp2_with fail
      go_ret
      exact ⟨congrArg (fun x => Ending.returned (.bool x)) (by simp; omega), Below.up b4 hbel (Nat.le_refl _)⟩
end Go.Proofs.Ythlbelpooplgeaa
