/- What the small functions do: first, May, bit, may, Less. -/
import Derived.Test.YtcjdjifooaeomaaDoorHA
import Derived.Test.YtcjdjifooaeomaaDoorHQ
import Derived.Test.YtcjdjifooaeomaaDoorChecked
import Derived.WalkKit
import Derived.BigQuiet
import Derived.Laws.BitsAllLaws
import Derived.Laws.ShiftsVarLaws
namespace Go.Proofs.YtcjdjifooaeomaaDoor
open Go.RowKit

/-- A prefix as a value. -/
def pfV (a : Nat) (b : Int) : Value := .agg #[.int .u32 a, .int .i64 b]

theorem nat_beq (x y : Nat) : ((x : Int) == (y : Int)) = decide (x = y) := by
  rw [Bool.eq_iff_iff]
  simp
  omega
theorem fst_int (a : Nat) (b : Int) (h0 : 0 ≤ b) (h1 : b ≤ 32) (ha : a < 4294967296) : ((a : Int) / 2 ^ (32 - b).toNat * 2 ^ (32 - b).toNat % 4294967296) = (fstP a b.toNat : Nat) := by
  have e : (32 - b).toNat = 32 - b.toNat := by omega
  have h2 := fst_lt a b.toNat ha
  unfold fstP at *
  rw [e]
  have e2 : ((a : Int) / 2 ^ (32 - b.toNat) * 2 ^ (32 - b.toNat)) = ((a / 2 ^ (32 - b.toNat) * 2 ^ (32 - b.toNat) : Nat) : Int) := by simp
  rw [e2]
  omega
theorem bit_int (a i : Nat) (ha : a < 4294967296) : bits BinOp.and IntKind.u32 ((a : Int) / 2 ^ i) 1 = (a / 2 ^ i % 2 : Nat) := by
  have e : ((a : Int) / 2 ^ i) = ((a / 2 ^ i : Nat) : Int) := by simp
  have h := u32_and_nat (a / 2 ^ i) 1 (Nat.lt_of_le_of_lt (Nat.div_le_self _ _) ha) (by decide)
  rw [nat_mask1] at h
  rw [e]
  exact h
theorem bit_neq (a i : Nat) : (((a : Int) / 2 ^ i % 2) != 0) = true ↔ a / 2 ^ i % 2 ≠ 0 := by
  have e : ((a : Int) / 2 ^ i % 2) = ((a / 2 ^ i % 2 : Nat) : Int) := by simp
  rw [e]
  simp
  omega
end Go.Proofs.YtcjdjifooaeomaaDoor
