/- What the small functions do: first, May, bit, may, Less. -/
import Derived.Test.YtgofhgbffgmjhaaDoorHA
import Derived.Test.YtgofhgbffgmjhaaDoorHQ
import Derived.Test.YtgofhgbffgmjhaaDoorChecked
import Derived.WalkKit
import Derived.BigQuiet
import Derived.Laws.BitsAllLaws
import Derived.Laws.ShiftsVarLaws
namespace Go.Proofs.YtgofhgbffgmjhaaDoor
open Go.RowKit

/-- A prefix as a value. -/
def pfV (a : Nat) (b : Int) : Value := .agg #[.int .u32 a, .int .i64 b]

theorem nat_beq (x y : Nat) : ((x : Int) == (y : Int)) = decide (x = y) := by
  rw [Bool.eq_iff_iff]
  simp
  omega
theorem fst_int (a : Nat) (b : Int) (h0 : 0 ≤ b) (h1 : b ≤ 32) (ha : a < 4294967296) : ((a : Int) / 2 ^ (32 - b).toNat * 2 ^ (32 - b).toNat % 4294967296) = (fstP a b.toNat : Nat) := by
  have e : (32 - b).toNat = 32 - b.toNat := by omega
  have h2 := fst_lt a b.toNat ha
  unfold fstP at *
  rw [e]
  have e2 : ((a : Int) / 2 ^ (32 - b.toNat) * 2 ^ (32 - b.toNat)) = ((a / 2 ^ (32 - b.toNat) * 2 ^ (32 - b.toNat) : Nat) : Int) := by simp
  rw [e2]
  omega
theorem first_any (a : Nat) (b : Int) (h0 : 0 ≤ b) (h1 : b ≤ 32) (ha : a < 4294967296) (w : World) :
    Calls Tryd.prog 20 #[.int .u32 a, .int .i64 b] w fun e w' => e = .returned (.int .u32 (fstP a b.toNat : Nat)) ∧ w' = w := by
  go_enter Tryd.func20, Tryd.ntmps20
  go_wp2
  go_ret
  rw [← fst_int a b h0 h1 ha]
  exact ⟨rfl, rfl⟩
theorem bit_int (a i : Nat) (ha : a < 4294967296) : bits BinOp.and IntKind.u32 ((a : Int) / 2 ^ i) 1 = (a / 2 ^ i % 2 : Nat) := by
  have e : ((a : Int) / 2 ^ i) = ((a / 2 ^ i : Nat) : Int) := by simp
  have h := u32_and_nat (a / 2 ^ i) 1 (Nat.lt_of_le_of_lt (Nat.div_le_self _ _) ha) (by decide)
  rw [nat_mask1] at h
  rw [e]
  exact h
theorem bit_any (a : Nat) (k : Nat) (h1 : k < 32) (ha : a < 4294967296) (w : World) :
    Calls Tryd.prog 17 #[.int .u32 a, .int .i64 k] w fun e w' => e = .returned (.int .u32 (a / 2 ^ (31 - k) % 2 : Nat)) ∧ w' = w := by
  go_enter Tryd.func17, Tryd.ntmps17
  go_wp2
  go_ret
  rw [← bit_int a (31 - k) ha]
  exact ⟨rfl, rfl⟩
theorem may_any (a : Nat) (b : Int) (ha : a < 4294967296) (w : World) :
    Calls Tryd.prog 10 #[pfV a b] w fun e w' => e = .returned (.bool (mayP a b)) ∧ Below w.heap.size w w' := by
  unfold pfV
  by_cases h0 : 0 ≤ b
  · by_cases h1 : b ≤ 32
    · rw [may_first h0 h1]
      have hf : ∀ w, Calls Tryd.prog 20 #[.int .u32 a, .int .i64 b] w fun e w' => e = .returned (.int .u32 (fstP a b.toNat : Nat)) ∧ ∃ n, w' = w.drewN n := fun w => (first_any a b h0 h1 ha w).mono fun e w' h => ⟨h.1, 0, h.2⟩
      have d0 : decide (0 ≤ b) = true := decide_eq_true h0
      have d1 : decide (b ≤ 32) = true := decide_eq_true h1
      go_enter Tryd.func10, Tryd.ntmps10
      go_wp2_with fail
      go_quiet (first
        | exact Calls.quiet_of (hf _))
      go_wp2
      go_ret
      rw [← nat_beq]
      exact ⟨rfl, bel_drewN ((Below.refl _ _).alloc (Nat.le_refl _) _) _⟩
    · rw [may_not (by omega)]
      have d0 : decide (0 ≤ b) = true := decide_eq_true h0
      have d1 : decide (b ≤ 32) = false := decide_eq_false h1
      go_enter Tryd.func10, Tryd.ntmps10
      go_wp2_with fail
      go_quiet (fail)
      go_wp2
      go_ret
      exact ⟨rfl, bel_drewN ((Below.refl _ _).alloc (Nat.le_refl _) _) _⟩
  · rw [may_not (by omega)]
    have d0 : decide (0 ≤ b) = false := decide_eq_false h0
    go_enter Tryd.func10, Tryd.ntmps10
    go_wp2_with fail
    go_quiet (fail)
    go_wp2
    go_ret
    exact ⟨rfl, bel_drewN ((Below.refl _ _).alloc (Nat.le_refl _) _) _⟩
theorem bit_neq (a i : Nat) : (((a : Int) / 2 ^ i % 2) != 0) = true ↔ a / 2 ^ i % 2 ≠ 0 := by
  have e : ((a : Int) / 2 ^ i % 2) = ((a / 2 ^ i % 2 : Nat) : Int) := by simp
  rw [e]
  simp
  omega
set_option maxHeartbeats 1000000 in
set_option maxRecDepth 20000 in
theorem lmay_any (a : Nat) (b : Int) (ha : a < 4294967296) (w : World) :
    Calls Tryd.prog 11 #[pfV a b] w fun e w' => e = .returned (.bool (mayP a b)) ∧ Below w.heap.size w w' := by
  unfold pfV
  by_cases hb : 0 ≤ b ∧ b ≤ 32
  · have HM := may_bits (a := a) hb.1 hb.2
    obtain ⟨m, rfl⟩ : ∃ m : Nat, b = m := ⟨b.toNat, by omega⟩
    have d0 : decide ((m : Int) < 0) = false := decide_eq_false (by omega)
    have d1 : decide ((32 : Int) < m) = false := decide_eq_false (by omega)
    have HK : Hid (m ≤ 32) := by show m ≤ 32; omega
    have HMH : Hid (mayP a m = true ↔ ∀ k : Nat, m ≤ k → k < 32 → a / 2 ^ (31 - k) % 2 = 0) := by
      show mayP a m = true ↔ ∀ k : Nat, m ≤ k → k < 32 → a / 2 ^ (31 - k) % 2 = 0
      simpa using HM
    clear HM hb
    go_enter Tryd.func11, Tryd.ntmps11
    go_wp2_with fail
    go_loop [3] (fun i => ∃ k : Nat, k ≤ 32 ∧ i = .int .i64 k ∧ m ≤ k ∧ ∀ j, m ≤ j → j < k → a / 2 ^ (31 - j) % 2 = 0) (fun i => 32 - (intOf i).toNat)
    case atStart => exact ⟨m, HK, rfl, Nat.le_refl _, fun j h1 h2 => by omega⟩
    case round =>
      obtain ⟨k, hk, rfl, hm, HJ⟩ := hrel
      have HJ' : Hid (∀ j, m ≤ j → j < k → a / 2 ^ (31 - j) % 2 = 0) := HJ
      clear HJ
      have hbt := fun h => bit_any a k h ha
      go_wp2_with (refine (hbt (by omega) _).mono ?_; rintro e w' ⟨rfl, rfl⟩)
      · have hx : ((a : Int) / 2 ^ (31 - k) % 2 != 0) = true := by assumption
        have hk : k < 32 := by omega
        have hf : mayP a m = false := by
          have HM : mayP a m = true ↔ ∀ k : Nat, m ≤ k → k < 32 → a / 2 ^ (31 - k) % 2 = 0 := HMH
          cases hc : mayP a m with
          | false => rfl
          | true => exact absurd (HM.1 hc k hm hk) ((bit_neq a (31 - k)).1 hx)
        rw [hf]
        go_ret
        exact ⟨rfl, (Below.refl _ _).alloc (Nat.le_refl _) _⟩
      · have hx : ((a : Int) / 2 ^ (31 - k) % 2 != 0) = false := by assumption
        have hk : k < 32 := by omega
        have hx' : a / 2 ^ (31 - k) % 2 = 0 := by
          rcases Nat.eq_zero_or_pos (a / 2 ^ (31 - k) % 2) with h | h
          · exact h
          · rw [(bit_neq a (31 - k)).2 (by omega)] at hx
            cases hx
        have HJ : ∀ j, m ≤ j → j < k → a / 2 ^ (31 - j) % 2 = 0 := HJ'
        go_round
        case rel =>
          refine ⟨k + 1, by omega, by go_num, by omega, fun j h1 h2 => ?_⟩
          rcases Nat.lt_or_ge j k with h | h
          · exact HJ j h1 h
          · obtain rfl : j = k := by omega
            exact hx'
        case measure => simp [intOf]; omega
      · have hk : k = 32 := by omega
        have hf : mayP a m = true := by
          have HM : mayP a m = true ↔ ∀ k : Nat, m ≤ k → k < 32 → a / 2 ^ (31 - k) % 2 = 0 := HMH
          have HJ : ∀ j, m ≤ j → j < k → a / 2 ^ (31 - j) % 2 = 0 := HJ'
          exact HM.2 fun j h1 h2 => HJ j h1 (by omega)
        rw [hf]
        go_ret
        exact ⟨rfl, (Below.refl _ _).alloc (Nat.le_refl _) _⟩
  · have d0 : decide (b < 0) = true ∨ decide (b < 0) = false ∧ decide (32 < b) = true := by
      simp only [decide_eq_true_iff, decide_eq_false_iff_not]
      omega
    rw [may_not (by omega)]
    rcases d0 with d0 | ⟨d0, d1⟩
    · go_enter Tryd.func11, Tryd.ntmps11
      go_wp2
      go_ret
      exact ⟨rfl, (Below.refl _ _).alloc (Nat.le_refl _) _⟩
    · go_enter Tryd.func11, Tryd.ntmps11
      go_wp2
      go_ret
      exact ⟨rfl, (Below.refl _ _).alloc (Nat.le_refl _) _⟩
set_option maxHeartbeats 1000000 in
set_option maxRecDepth 20000 in
theorem less_any (a c : Nat) (b d : Int) (w : World) :
    Calls Tryd.prog 19 #[pfV a b, pfV c d] w fun e w' => e = .returned (.bool (decide (a < c) || (decide (a = c) && decide (b < d)))) ∧ Below w.heap.size w w' := by
  unfold pfV
  go_enter Tryd.func19, Tryd.ntmps19
  go_wp2
  all_goals go_ret
  all_goals refine ⟨?_, ((Below.refl _ _).alloc (Nat.le_refl _) _).alloc (by simp) _⟩
  all_goals simp
  · rename_i h1 h2
    have e : a = c := by omega
    simp [e]
  · rename_i h1 h2
    intro h
    exact absurd (by omega) h2
  · omega
end Go.Proofs.YtgofhgbffgmjhaaDoor
