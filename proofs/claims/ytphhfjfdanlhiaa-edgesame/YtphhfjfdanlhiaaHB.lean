/- What the small functions do: first, May, bit, may, Less. -/
import Derived.Test.YtphhfjfdanlhiaaHA
import Derived.Test.YtphhfjfdanlhiaaHQ
import Derived.Test.YtphhfjfdanlhiaaChecked
import Derived.WalkKit
import Derived.BigQuiet
import Derived.Laws.BitsAllLaws
import Derived.Laws.ShiftsVarLaws
namespace Go.Proofs.Ytphhfjfdanlhiaa
open Go.RowKit

/-- A prefix as a value. -/
def pfV (a : Nat) (b : Int) : Value := .agg #[.int .u32 a, .int .i64 b]

theorem nat_beq (x y : Nat) : ((x : Int) == (y : Int)) = decide (x = y) := by
  rw [Bool.eq_iff_iff]
  simp
  omega
theorem fst_int (a : Nat) (b : Int) (h0 : 0 ≤ b) (h1 : b ≤ 32) (ha : a < 4294967296) : ((a : Int) / 2 ^ (32 - b).toNat * 2 ^ (32 - b).toNat % 4294967296) = (fstP a b.toNat : Nat) := by
  have e : (32 - b).toNat = 32 - b.toNat := by omega
  have h2 := fst_lt a b.toNat ha
  unfold fstP at *
  rw [e]
  have e2 : ((a : Int) / 2 ^ (32 - b.toNat) * 2 ^ (32 - b.toNat)) = ((a / 2 ^ (32 - b.toNat) * 2 ^ (32 - b.toNat) : Nat) : Int) := by simp
  rw [e2]
  omega
theorem first_any (a : Nat) (b : Int) (h0 : 0 ≤ b) (h1 : b ≤ 32) (ha : a < 4294967296) (w : World) :
    Calls Try.prog 28 #[.int .u32 a, .int .i64 b] w fun e w' => e = .returned (.int .u32 (fstP a b.toNat : Nat)) ∧ w' = w := by
  go_enter Try.func28, Try.ntmps28
  go_wp2
  go_ret
  rw [← fst_int a b h0 h1 ha]
  exact ⟨rfl, rfl⟩
theorem bit_int (a i : Nat) (ha : a < 4294967296) : bits BinOp.and IntKind.u32 ((a : Int) / 2 ^ i) 1 = (a / 2 ^ i % 2 : Nat) := by
  have e : ((a : Int) / 2 ^ i) = ((a / 2 ^ i : Nat) : Int) := by simp
  have h := u32_and_nat (a / 2 ^ i) 1 (Nat.lt_of_le_of_lt (Nat.div_le_self _ _) ha) (by decide)
  rw [nat_mask1] at h
  rw [e]
  exact h
theorem may_any (a : Nat) (b : Int) (ha : a < 4294967296) (w : World) :
    Calls Try.prog 27 #[pfV a b] w fun e w' => e = .returned (.bool (mayP a b)) ∧ Below w.heap.size w w' := by
  unfold pfV
  by_cases h0 : 0 ≤ b
  · by_cases h1 : b ≤ 32
    · rw [may_first h0 h1]
      have hf : ∀ w, Calls Try.prog 28 #[.int .u32 a, .int .i64 b] w fun e w' => e = .returned (.int .u32 (fstP a b.toNat : Nat)) ∧ ∃ n, w' = w.drewN n := fun w => (first_any a b h0 h1 ha w).mono fun e w' h => ⟨h.1, 0, h.2⟩
      have d0 : decide (0 ≤ b) = true := decide_eq_true h0
      have d1 : decide (b ≤ 32) = true := decide_eq_true h1
      go_enter Try.func27, Try.ntmps27
      go_wp2_with fail
      go_quiet (first
        | exact Calls.quiet_of (hf _))
      go_wp2
      go_ret
      rw [← nat_beq]
      exact ⟨rfl, bel_drewN ((Below.refl _ _).alloc (Nat.le_refl _) _) _⟩
    · rw [may_not (by omega)]
      have d0 : decide (0 ≤ b) = true := decide_eq_true h0
      have d1 : decide (b ≤ 32) = false := decide_eq_false h1
      go_enter Try.func27, Try.ntmps27
      go_wp2_with fail
      go_quiet (fail)
      go_wp2
      go_ret
      exact ⟨rfl, bel_drewN ((Below.refl _ _).alloc (Nat.le_refl _) _) _⟩
  · rw [may_not (by omega)]
    have d0 : decide (0 ≤ b) = false := decide_eq_false h0
    go_enter Try.func27, Try.ntmps27
    go_wp2_with fail
    go_quiet (fail)
    go_wp2
    go_ret
    exact ⟨rfl, bel_drewN ((Below.refl _ _).alloc (Nat.le_refl _) _) _⟩
theorem bit_neq (a i : Nat) : (((a : Int) / 2 ^ i % 2) != 0) = true ↔ a / 2 ^ i % 2 ≠ 0 := by
  have e : ((a : Int) / 2 ^ i % 2) = ((a / 2 ^ i % 2 : Nat) : Int) := by simp
  rw [e]
  simp
  omega
end Go.Proofs.Ytphhfjfdanlhiaa
