/- Numbers by their bits: plain mathematics. -/
import Derived.Test.YtcbpklpehdojnaaP
import Derived.Laws.BitsAllLaws
namespace Go.Proofs.Ytcbpklpehdojnaa
open Go.RowKit

/-- The number of the first k of some bools. -/
def numTo (b : Nat → Bool) : Nat → Nat
  | 0 => 0
  | k + 1 => numTo b k + (if b k = true then 2 ^ k else 0)
theorem numTo_lt (b : Nat → Bool) : ∀ k, numTo b k < 2 ^ k
  | 0 => by simp [numTo]
  | k + 1 => by
    have := numTo_lt b k
    rw [numTo, Nat.pow_succ]
    split <;> omega
theorem or_pow (n k : Nat) (h : n < 2 ^ k) : n ||| 2 ^ k = n + 2 ^ k := by
  have := Nat.two_pow_add_eq_or_of_lt h 1
  rw [Nat.mul_one] at this
  rw [Nat.or_comm, ← this]
  omega
theorem numTo_bits (bits : Nat) : ∀ k, numTo (fun i => bitN bits i == 1) k = bits % 2 ^ k
  | 0 => by simp [numTo]; omega
  | k + 1 => by
    rw [numTo, numTo_bits bits k, Nat.pow_succ, Nat.mod_mul]
    have : ((bitN bits k == 1) = true) ↔ bits / 2 ^ k % 2 = 1 := by
      rw [bitN, beq_iff_eq]
      generalize bits / 2 ^ k = q
      omega
    by_cases h : bits / 2 ^ k % 2 = 1
    · rw [if_pos (this.2 h), h]; omega
    · rw [if_neg (fun e => h (this.1 e))]
      have : bits / 2 ^ k % 2 = 0 := by omega
      rw [this]
      omega
theorem numTo_congr {b c : Nat → Bool} : ∀ k, (∀ i, i < k → b i = c i) → numTo b k = numTo c k
  | 0, _ => rfl
  | k + 1, h => by rw [numTo, numTo, numTo_congr k (fun i hi => h i (by omega)), h k (by omega)]
theorem bitN_test (bits i : Nat) : (bitN bits i == 1) = bits.testBit i := by
  rw [Nat.testBit_eq_decide_div_mod_eq, bitN]
  generalize bits / 2 ^ i = q
  rw [Bool.eq_iff_iff, beq_iff_eq, decide_eq_true_eq]
  omega
theorem test_div (bt r : Nat) : bt.testBit r = (bt / 2 ^ r % 2 == 1) := by rw [Nat.testBit_eq_decide_div_mod_eq, Bool.eq_iff_iff]; simp
theorem bit_and (bt r : Nat) (hb : bt < 65536) : bits BinOp.and IntKind.u16 ((bt : Int) / 2 ^ r) 1 = ((bt / 2 ^ r % 2 : Nat) : Int) := by
  have e : ((bt : Int) / 2 ^ r) = ((bt / 2 ^ r : Nat) : Int) := by simp
  have hlt : bt / 2 ^ r < 65536 := Nat.lt_of_le_of_lt (Nat.div_le_self _ _) hb
  rw [e, show (1 : Int) = ((1 : Nat) : Int) from rfl, u16_and_nat _ _ hlt (by omega), Nat.and_one_is_mod]
theorem numTo_test (b : Nat → Bool) : ∀ (k i : Nat), i < k → (numTo b k).testBit i = b i
  | 0, i, h => by omega
  | k + 1, i, h => by
    have hlt := numTo_lt b k
    rw [numTo]
    cases hb : b k with
    | true =>
      simp only [if_true]
      rw [← or_pow _ _ hlt, Nat.testBit_or]
      rcases Nat.lt_or_ge i k with h1 | h1
      · rw [numTo_test b k i h1, Nat.testBit_two_pow_of_ne (by omega)]
        simp
      · obtain rfl : i = k := by omega
        rw [hb, Nat.testBit_two_pow_self]
        simp
    | false =>
      simp only [Bool.false_eq_true, if_false, Nat.add_zero]
      rcases Nat.lt_or_ge i k with h1 | h1
      · exact numTo_test b k i h1
      · obtain rfl : i = k := by omega
        rw [hb, Nat.testBit_lt_two_pow hlt]
theorem bit_is (bt r : Nat) (hb : bt < 65536) : (bits BinOp.and IntKind.u16 ((bt : Int) / 2 ^ r) 1 == 1) = bt.testBit r := by
  rw [bit_and bt r hb, test_div]
  generalize bt / 2 ^ r % 2 = q
  rw [Bool.eq_iff_iff, beq_iff_eq, beq_iff_eq]
  omega
end Go.Proofs.Ytcbpklpehdojnaa
