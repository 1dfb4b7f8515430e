/- Rows of four variables, and values that are turned: plain mathematics. -/
import Derived.Test.YtcbpklpehdojnaaM1
namespace Go.Proofs.Ytcbpklpehdojnaa
open Go.RowKit

/-- A row where a variable is 1, or 0. -/
def rowI (v : Nat) (one : Bool) (k : Nat) : Nat := if one = true then k ||| 2 ^ (3 - v) else k - k / 2 ^ (3 - v) % 2 * 2 ^ (3 - v)
theorem pow_wrap (v : Nat) : wrap64 (2 ^ (3 - v)) = ((2 ^ (3 - v) : Nat) : Int) := by
  have h1 : 2 ^ (3 - v) ≤ 2 ^ 3 := Nat.pow_le_pow_right (by decide) (by omega)
  have e : ((2 : Int) ^ (3 - v)) = ((2 ^ (3 - v) : Nat) : Int) := by simp
  rw [e]
  generalize 2 ^ (3 - v) = a at *
  unfold wrap64
  omega
theorem tb_num (b : Nat → Bool) (φ : Int → Bool) : tb (numTo b 16) φ = b (rowOf φ 4 0 0) := numTo_test b 16 _ (rowOf_16 φ)
theorem num_lt (b : Nat → Bool) : numTo b 16 < 65536 := numTo_lt b 16
def row4 (a b c d : Bool) : Nat := (if a = true then 8 else 0) + (if b = true then 4 else 0) + (if c = true then 2 else 0) + (if d = true then 1 else 0)
theorem rowOf_4 (φ : Int → Bool) : rowOf φ 4 0 0 = row4 (φ 0) (φ 1) (φ 2) (φ 3) := by
  show (if φ 0 = true then (if φ 1 = true then (if φ 2 = true then (if φ 3 = true then 15 else 14) else (if φ 3 = true then 13 else 12)) else (if φ 2 = true then (if φ 3 = true then 11 else 10) else (if φ 3 = true then 9 else 8))) else (if φ 1 = true then (if φ 2 = true then (if φ 3 = true then 7 else 6) else (if φ 3 = true then 5 else 4)) else (if φ 2 = true then (if φ 3 = true then 3 else 2) else (if φ 3 = true then 1 else 0)))) = _
  cases φ 0 <;> cases φ 1 <;> cases φ 2 <;> cases φ 3 <;> rfl
theorem turn_nat (φ : Int → Bool) (v : Nat) (one : Bool) (x : Nat) : turn φ v one (x : Int) = if x = v then one else φ x := by
  unfold turn
  by_cases h : x = v
  · rw [if_pos h, if_pos (by omega)]
  · rw [if_neg h, if_neg (by omega)]
theorem rowOf_turn (φ : Int → Bool) (v : Nat) (hv : v < 4) (one : Bool) : rowOf (turn φ v one) 4 0 0 = rowI v one (rowOf φ 4 0 0) := by
  have key : ∀ v : Fin 4, ∀ one a b c d : Bool, row4 (if 0 = v.val then one else a) (if 1 = v.val then one else b) (if 2 = v.val then one else c) (if 3 = v.val then one else d) = rowI v.val one (row4 a b c d) := by decide
  rw [rowOf_4, rowOf_4]
  have e0 := turn_nat φ v one 0
  have e1 := turn_nat φ v one 1
  have e2 := turn_nat φ v one 2
  have e3 := turn_nat φ v one 3
  have := key ⟨v, hv⟩ one (φ 0) (φ 1) (φ 2) (φ 3)
  rw [← this]
  exact congr (congr (congr (congrArg row4 e0) e1) e2) e3
theorem rowOf_far (φ : Int → Bool) (v : Nat) (hv : 4 ≤ v) (one : Bool) : rowOf (turn φ v one) 4 0 0 = rowOf φ 4 0 0 := by
  have e : ∀ x : Int, x < 4 → turn φ v one x = φ x := fun x hx => by
    unfold turn
    rw [if_neg (by omega)]
  rw [rowOf_4, rowOf_4, e _ (by decide), e _ (by decide), e _ (by decide), e _ (by decide)]
theorem tb_far (bt v : Nat) (hv : 4 ≤ v) (one : Bool) (φ : Int → Bool) : tb bt (turn φ v one) = tb bt φ := by
  rw [tb, tb, rowOf_far φ v hv one]
end Go.Proofs.Ytcbpklpehdojnaa
