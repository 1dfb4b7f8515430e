/- TruthFour: the walk. -/
import Derived.Test.YtcbpklpehdojnaaYM
import Derived.Test.YtcbpklpehdojnaaM1
namespace Go.Proofs.Ytcbpklpehdojnaa
open Go.RowKit

theorem c100 : clampN 100 = 100 := rfl
theorem len2 : (first2.length : Int) = 2 := rfl

set_option maxHeartbeats 1000000 in
set_option maxRecDepth 20000 in
theorem four_law (f : Nat) (hf : f < 65536) (w : World) :
    Calls Try.prog 4 #[.int .u16 f] w fun e w' => e = .returned (.bool true) ∧ Below w.heap.size w w' := by
  have h0 : (0 : Int) ≤ f := by omega
  have hf' : (f : Int) < 65536 := by omega
  go_enter Try.func4, Try.ntmps4
  go_wp2_with fail
  refine (awake4_any w).mono ?_
  rintro e w0 ⟨rfl, b0⟩
  go_wp2_with fail
  refine (of_any 100 w0).mono ?_
  rintro e w1 ⟨rfl, a1, b1, s1⟩
  have B1 := Below.up b0 b1 (Nat.le_refl _)
  have hs0 := b0.size
  obtain ⟨p, hp, hp'⟩ : ∃ p, w.heap.size ≤ p ∧ p = w0.heap.size + 2 := ⟨_, by omega, rfl⟩
  obtain ⟨gg, hgg, hg'⟩ : ∃ gg, w.heap.size ≤ gg ∧ gg = w0.heap.size := ⟨_, by omega, rfl⟩
  obtain ⟨m, hmm, hm'⟩ : ∃ m, w.heap.size ≤ m ∧ m = w0.heap.size + 1 := ⟨_, by omega, rfl⟩
  rw [← hp', ← hm', ← hg', c100] at a1
  rw [← hp']
  clear hp' hm' hg' s1 b0 b1 hs0
  have hmk := makeB 16 (by decide) w1
  rw [show ((16 : Nat) : Int) = 16 from rfl] at hmk
  go_wp2_with fail
  obtain ⟨W, hW⟩ : ∃ W, W = w1.alloc (.cells (rowsV 16 fun _ => false) 4) := ⟨_, rfl⟩
  obtain ⟨b, hb⟩ : ∃ b, b = w1.heap.size := ⟨_, rfl⟩
  rw [← hW, ← hb]
  have bW : Below w1.heap.size w1 W := by rw [hW]; exact (Below.refl _ _).alloc (Nat.le_refl _) _
  have rW : W.heap[b]? = some (.cells (rowsV 16 fun _ => false) 4) := by rw [hW, hb]; exact heap_new_at _ _ _ rfl
  have nb : b ∉ [p, gg, m] := by
    have := a1.ltp
    have := a1.ltg
    have := a1.ltm
    simp
    omega
  have lb : w.heap.size ≤ b := by have := B1.size; omega
  have aW := a1.below bW
  have BW := Below.up B1 bW (Nat.le_refl _)
  clear hmk hW hb bW a1 B1
  go_loopw [14] (fun i wr => ∃ j : Nat, j ≤ 16 ∧ i = .int .i64 j ∧ wr.heap[b]? = some (.cells (rowsV 16 fun k => decide (k < j) && f.testBit k) 4) ∧ ArenaAt 51 47 wr p gg m 2 100 first2 ∧ Below w.heap.size w wr) (fun i _ => 16 - (intOf i).toNat)
  case atStart => exact ⟨0, by omega, rfl, by rw [rW]; simp, aW, BW⟩
  case round =>
    obtain ⟨j, hj, rfl, rj, aj, bj⟩ := hrel
    clear rW aW BW
    rename World => wr
    by_cases hlt : j < 16
    · have h1 : (j : Int) < 16 := by omega
      have h2 : (0 : Int) ≤ (j : Int) := by omega
      have hbit := bit_is f j hf
      have Cj : wr.cell? ⟨b, j, none⟩ = some (.bool false) := by simp [World.cell?, rj, rowsV_get hlt]
      have Fj : wr.frozen? ⟨b, j, none⟩ = false := by simp [World.frozen?, rj]
      go_wp2_with fail
      go_roundw
      case rel =>
        refine ⟨j + 1, by omega, by go_num, ?_, ?_, ?_⟩
        · rw [heap_set_at rj, rowsV_set]
          congr 2
          refine rowsV_congr fun k _ => ?_
          by_cases e : k = j
          · subst e; simp
          · rw [if_neg e]
            congr 1
            rw [Bool.eq_iff_iff]
            simp
            omega
        · simp only [List.mem_cons, List.not_mem_nil, or_false, not_or] at nb
          exact aj.stays (Below.heap_setCell _ _ _ _ (fun e => nb.1 e.symm)) (Below.heap_setCell _ _ _ _ (fun e => nb.2.1 e.symm)) (Below.heap_setCell _ _ _ _ (fun e => nb.2.2 e.symm))
        · exact bj.setCell lb _
      case measure => simp [intOf]; omega
    · obtain rfl : j = 16 := by omega
      have hrow : RowsAt wr b 0 (2 ^ 4) (fun i => f.testBit i) := by
        intro i hi
        have hi' : i < 16 := hi
        simp [World.cell?, rj, rowsV_get hi', hi']
      have D1 := built f aj.good (upto_first 4) (by rw [len2]; decide)
      have v1 := trbuild_ok f 4 (by decide) aj (cap := 16) nb (by rw [len2]; decide) (by decide) hrow
      have a6 := (bld_all 100 f 4 0 0 first2 aj.good (by decide) (by rw [len2]; decide)).2.2.2.2.2
      generalize bld 100 f 4 0 0 first2 = R1 at v1 D1 a6
      clear rj hrow
      go_wp2_with fail
      refine v1.mono ?_
      rintro e w2 ⟨g2, c2, rfl, a2, k2, e2⟩
      obtain ⟨b2, hg2⟩ := next bj (Nat.le_refl _) hp hgg hmm k2 e2
      have m1 := build_any f hf a2
      rw [a6 R1.2 a2.good (On.refl _)] at m1
      clear v1 aj bj k2 e2 a6
      go_wp2_with fail
      refine m1.mono ?_
      rintro e w3 ⟨g3, c3, rfl, a3, q3, e3⟩
      obtain ⟨b3, hg3⟩ := next b2 (Nat.le_refl _) hp hg2 hmm q3 e3
      clear m1 a2 b2 q3 e3 hg2
      have t1 := table_any a3 R1.1
      have tq := table_is D1.is hf (fun _ => rfl)
      go_wp2_with fail
      refine t1.mono ?_
      rintro e w6 ⟨rfl, b6⟩
      have p1 := bits_any (fun i => evalP R1.2 (rowF i) R1.1) w6
      rw [tq] at p1
      clear t1 tq
      go_wp2_with fail
      refine p1.mono ?_
      rintro e w7 ⟨rfl, b7⟩
      go_wp2_with fail
      go_ret
      exact ⟨rfl, Below.up (Below.up b3 b6 (Nat.le_refl _)) b7 (Nat.le_refl _)⟩
end Go.Proofs.Ytcbpklpehdojnaa
