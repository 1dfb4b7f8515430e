/- TruthClamps: the walk. -/
import Derived.Test.YtcbpklpehdojnaaZ4
namespace Go.Proofs.Ytcbpklpehdojnaa
open Go.RowKit

/-- The row of four variables that row k of d variables is. -/
def rowD (d k : Nat) : Nat := if 4 < d then k / 2 ^ (d - 4) else k * 2 ^ (4 - d)
theorem rowD_lt {d k : Nat} (h : k < 2 ^ d) : rowD d k < 16 := by
  unfold rowD
  have e : (2 : Nat) ^ 4 = 16 := rfl
  split
  · have : 2 ^ d = 2 ^ (d - 4) * 2 ^ 4 := by rw [← Nat.pow_add]; congr 1; omega
    rw [this, e] at h
    exact Nat.div_lt_of_lt_mul h
  · have : 2 ^ d * 2 ^ (4 - d) = 2 ^ 4 := by rw [← Nat.pow_add]; congr 1; omega
    rw [e] at this
    rw [← this]
    exact Nat.mul_lt_mul_of_pos_right h (Nat.pow_pos (by decide))
theorem rowD_bits (d k x : Nat) (hx : x < 4) : (valF d 0 k x) = valF 4 0 (rowD d k) x := by
  have h4 : valF 4 0 (rowD d k) x = (rowD d k).testBit (3 - x) := by
    unfold valF
    have h1 : decide (((0 : Nat) : Int) ≤ (x : Int)) = true := by simp
    have h2 : decide ((x : Int) < ((0 : Nat) : Int) + (4 : Nat)) = true := by simp; omega
    have h3 : (((0 : Nat) : Int) + (4 : Nat) - 1 - x).toNat = 3 - x := by omega
    rw [h1, h2, h3]; rfl
  rw [h4]
  unfold valF rowD
  have h1 : decide (((0 : Nat) : Int) ≤ (x : Int)) = true := by simp
  rw [h1]
  by_cases hd : 4 < d
  · have h2 : decide ((x : Int) < ((0 : Nat) : Int) + d) = true := by simp; omega
    have h3 : (((0 : Nat) : Int) + d - 1 - x).toNat = (d - 4) + (3 - x) := by omega
    rw [h2, h3, if_pos hd, ← Nat.shiftRight_eq_div_pow, Nat.testBit_shiftRight]
    rfl
  · rw [if_neg hd, ← Nat.shiftLeft_eq, Nat.testBit_shiftLeft]
    by_cases hxd : x < d
    · have h2 : decide ((x : Int) < ((0 : Nat) : Int) + d) = true := by simp; omega
      have h3 : (((0 : Nat) : Int) + d - 1 - x).toNat = 3 - x - (4 - d) := by omega
      have h5 : decide (3 - x ≥ 4 - d) = true := by simp; omega
      rw [h2, h3, h5]
      rfl
    · have h2 : decide ((x : Int) < ((0 : Nat) : Int) + d) = false := by simp; omega
      have h5 : decide (3 - x ≥ 4 - d) = false := by simp; omega
      rw [h2, h5]; rfl
theorem tb_val (f d k : Nat) (h : k < 2 ^ d) : tb f (valF d 0 k) = f.testBit (rowD d k) := by
  rw [tb, rowOf_val _ 4 0 0 (rowD d k) (rowD_lt h) (fun x _ hx => rowD_bits d k x (by omega)), Nat.zero_add]

set_option maxHeartbeats 1000000 in
set_option maxRecDepth 20000 in
theorem clamps_law (vars : Int) (f : Nat) (hf : f < 65536) (w : World) :
    Calls Try.prog 7 #[.int .i64 vars, .int .u16 f] w fun e w' => e = .returned (.bool true) ∧ Below w.heap.size w w' := by
  have h0 : (0 : Int) ≤ f := by omega
  have hf' : (f : Int) < 65536 := by omega
  obtain ⟨x, hx⟩ : ∃ x, (if 10 < vars then 10 else vars) = x := ⟨_, rfl⟩
  obtain ⟨d, hd⟩ : ∃ d, clampV vars = d := ⟨_, rfl⟩
  have hd10 := clampV_le vars
  rw [hd] at hd10
  have hx2 : (if 0 < x then x else 0) = (d : Int) := by
    rw [← hd, ← hx]
    unfold clampV
    split <;> split <;> omega
  go_enter Try.func7, Try.ntmps7
  go_wp2_with fail
  refine (awake4_any w).mono ?_
  rintro e w0 ⟨rfl, b0⟩
  go_wp2_with fail
  refine (of_any 100 w0).mono ?_
  rintro e w1 ⟨rfl, a1, b1, s1⟩
  have B1 := Below.up b0 b1 (Nat.le_refl _)
  have hs0 := b0.size
  obtain ⟨p, hp, hp'⟩ : ∃ p, w.heap.size ≤ p ∧ p = w0.heap.size + 2 := ⟨_, by omega, rfl⟩
  obtain ⟨gg, hgg, hg'⟩ : ∃ gg, w.heap.size ≤ gg ∧ gg = w0.heap.size := ⟨_, by omega, rfl⟩
  obtain ⟨m, hmm, hm'⟩ : ∃ m, w.heap.size ≤ m ∧ m = w0.heap.size + 1 := ⟨_, by omega, rfl⟩
  rw [← hp', ← hm', ← hg', c100] at a1
  rw [← hp']
  clear hp' hm' hg' s1 b0 b1 hs0
  have m1 := build_any f hf a1
  have D1 := built f a1.good (upto_first 4) (by rw [len2]; decide)
  generalize bld 100 f 4 0 0 first2 = R1 at m1 D1
  go_wp2_with fail
  refine m1.mono ?_
  rintro e w2 ⟨g2, c2, rfl, a2, q2, e2⟩
  obtain ⟨b2, hg2⟩ := next B1 (Nat.le_refl _) hp hgg hmm q2 e2
  clear m1 a1 B1 q2 e2 hgg
  have v1 := trtable_any a2 R1.1 vars
  rw [hd] at v1
  have hR : ∀ k, k < 2 ^ d → tellR R1.2 d 0 R1.1 k = f.testBit (rowD d k) := fun k hk => by
    rw [tellR_is D1.good d 0 R1.1 k (by omega) (D1.is.1.from D1.good) hk, D1.is.2, tb_val f d k hk]
  generalize tellR R1.2 d 0 R1.1 = T at v1 hR
  go_wp2_with fail
  refine v1.mono ?_
  rintro e w3 ⟨b, rfl, lb, rb, b3⟩
  have B3 := Below.up b2 b3 (Nat.le_refl _)
  have hne : (((2 ^ d : Nat) : Int) != wrap64 (2 ^ d)) = false := by rw [wrap_two d hd10]; simp
  have hp2 : 2 ^ d ≤ 2 ^ 10 := Nat.pow_le_pow_right (by decide) hd10
  have e10 : (2 : Nat) ^ 10 = 1024 := rfl
  rw [e10] at hp2
  have q1 : (0 : Int) ≤ d := by omega
  have q2 : (d : Int) ≤ 10 := by omega
  obtain ⟨n, hn⟩ : ∃ n, n = 2 ^ d := ⟨_, rfl⟩
  have HN : Hid (n = 2 ^ d) := hn
  rw [← hn] at rb hne hp2 ⊢
  have HR : Hid (∀ k, k < 2 ^ d → T k = f.testBit (rowD d k)) := hR
  clear hR hn v1 a2 b2 b3 hx hx2 D1 e10
  go_wp2_with fail
  go_loopw [31] (fun i wr => ∃ j : Nat, j ≤ n ∧ i = .int .i64 j ∧ wr.heap[b]? = some (.cells (rowsV n T) 4) ∧ Below w.heap.size w wr) (fun i _ => n - (intOf i).toNat)
  case atStart => exact ⟨0, by omega, rfl, rb, B3⟩
  case round =>
    clear rb B3
    rename World => wr
    obtain ⟨j, hj, rfl, rb, B3⟩ := hrel
    by_cases hlt : j < n
    · have h1 : (j : Int) < n := by omega
      have h2 : (0 : Int) ≤ (j : Int) := by omega
      have h3 : (n : Int) ≤ 1024 := by omega
      have Cj : wr.cell? ⟨b, j, none⟩ = some (.bool (T j)) := by simp only [World.cell?, rb]; simp [rowsV_get hlt]
      obtain ⟨r, hr⟩ : ∃ r, rowD d j = r := ⟨_, rfl⟩
      have hr16 : r < 16 := by rw [← hr]; exact rowD_lt (by rw [← HN.out]; exact hlt)
      have hbit := bit_is f r hf
      rw [← hr, ← HR.out j (by rw [← HN.out]; exact hlt), hr] at hbit
      have q3 : (0 : Int) ≤ r := by omega
      have q4 : (r : Int) < 16 := by omega
      clear HR
      generalize T j = tj at Cj hbit
      by_cases hd4 : 4 < d
      · have h4 : (4 : Int) < d := by omega
        have er : (j : Int) / 2 ^ (d - 4) = r := by
          rw [← hr, rowD, if_pos hd4]
          simp
        clear hr
        go_wp2_with fail
        try rw [er]
        clear er
        go_quiet (fail)
        go_wp2_with fail
        go_roundw
        case rel => exact ⟨j + 1, by omega, by go_num, rb, below_drewN B3 _⟩
        case measure => simp [intOf]; omega
      · have h4 : ¬ (4 : Int) < d := by omega
        have er : (j : Int) * 16 / 2 ^ d = r := by
          rw [← hr, rowD, if_neg hd4]
          have e1 : (2 : Nat) ^ d * 2 ^ (4 - d) = 16 := by rw [← Nat.pow_add, show d + (4 - d) = 4 by omega]
          have e2 : (j : Int) * 16 / 2 ^ d = ((j * 16 / 2 ^ d : Nat) : Int) := by simp
          rw [e2, ← e1, Nat.mul_left_comm, Nat.mul_div_cancel_left _ (Nat.pow_pos (by decide))]
        clear hr
        go_wp2_with fail
        try rw [er]
        clear er
        go_quiet (fail)
        go_wp2_with fail
        go_roundw
        case rel => exact ⟨j + 1, by omega, by go_num, rb, below_drewN B3 _⟩
        case measure => simp [intOf]; omega
    · obtain rfl : j = n := by omega
      go_wp2_with fail
      go_returns
      exact ⟨rfl, B3⟩
end Go.Proofs.Ytcbpklpehdojnaa
