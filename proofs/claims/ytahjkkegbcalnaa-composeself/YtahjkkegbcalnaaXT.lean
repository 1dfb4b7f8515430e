/- Tables where a variable has a value; the table of a variable: the walks. -/
import Derived.Test.YtahjkkegbcalnaaM2
import Derived.LoopTactic
namespace Go.Proofs.Ytahjkkegbcalnaa
open Go.RowKit

/-- A row where a variable is 1, or 0. -/
def rowI (v : Nat) (one : Bool) (k : Nat) : Nat := if one = true then k ||| 2 ^ (3 - v) else k - k / 2 ^ (3 - v) % 2 * 2 ^ (3 - v)
/-- A table where a variable is 1, or 0. -/
def atN (bits v : Nat) (one : Bool) : Nat := numTo (fun k => bits.testBit (rowI v one k)) 16

theorem pow_wrap (v : Nat) : wrap64 (2 ^ (3 - v)) = ((2 ^ (3 - v) : Nat) : Int) := by
  have h1 : 2 ^ (3 - v) ≤ 2 ^ 3 := Nat.pow_le_pow_right (by decide) (by omega)
  have e : ((2 : Int) ^ (3 - v)) = ((2 ^ (3 - v) : Nat) : Int) := by simp
  rw [e]
  generalize 2 ^ (3 - v) = a at *
  unfold wrap64
  omega
theorem row_or : ∀ v : Nat, v < 4 → ∀ k : Nat, k < 16 → bits BinOp.or IntKind.i64 (k : Int) (wrap64 (2 ^ (3 - v))) = ((rowI v true k : Nat) : Int) ∧ rowI v true k < 16 := by
  have : ∀ v : Fin 4, ∀ k : Fin 16, bits BinOp.or IntKind.i64 ((k.val : Nat) : Int) ((2 ^ (3 - v.val) : Nat) : Int) = ((rowI v.val true k.val : Nat) : Int) ∧ rowI v.val true k.val < 16 := by decide
  exact fun v hv k hk => by rw [pow_wrap]; exact this ⟨v, hv⟩ ⟨k, hk⟩
theorem row_not : ∀ v : Nat, v < 4 → ∀ k : Nat, k < 16 → bits BinOp.andNot IntKind.i64 (k : Int) (wrap64 (2 ^ (3 - v))) = ((rowI v false k : Nat) : Int) ∧ rowI v false k < 16 := by
  have : ∀ v : Fin 4, ∀ k : Fin 16, bits BinOp.andNot IntKind.i64 ((k.val : Nat) : Int) ((2 ^ (3 - v.val) : Nat) : Int) = ((rowI v.val false k.val : Nat) : Int) ∧ rowI v.val false k.val < 16 := by decide
  exact fun v hv k hk => by rw [pow_wrap]; exact this ⟨v, hv⟩ ⟨k, hk⟩
theorem test_div (bt r : Nat) : bt.testBit r = (bt / 2 ^ r % 2 == 1) := by rw [Nat.testBit_eq_decide_div_mod_eq, Bool.eq_iff_iff]; simp
theorem bit_and (bt r : Nat) (hb : bt < 65536) : bits BinOp.and IntKind.u16 ((bt : Int) / 2 ^ r) 1 = ((bt / 2 ^ r % 2 : Nat) : Int) := by
  have e : ((bt : Int) / 2 ^ r) = ((bt / 2 ^ r : Nat) : Int) := by simp
  have hlt : bt / 2 ^ r < 65536 := Nat.lt_of_le_of_lt (Nat.div_le_self _ _) hb
  rw [e, show (1 : Int) = ((1 : Nat) : Int) from rfl, u16_and_nat _ _ hlt (by omega), Nat.and_one_is_mod]
theorem or_zero (b : Nat → Bool) (k : Nat) (hk : k < 16) (hb : b k = false) : bits BinOp.or IntKind.u16 (numTo b k : Int) (IntKind.u16.wrap (0 * 2 ^ k)) = (numTo b (k + 1) : Int) := by
  have h3 := numTo_lt b k
  have h1 : 2 ^ k ≤ 2 ^ 15 := Nat.pow_le_pow_right (by decide) (by omega)
  have h2 : (2 : Nat) ^ 15 = 32768 := rfl
  have e : IntKind.u16.wrap (0 * 2 ^ k) = ((0 : Nat) : Int) := by rw [Int.zero_mul, IntKind.wrap_u16]; rfl
  rw [e, u16_or_nat _ _ (by omega) (by omega), Nat.or_zero, numTo, hb]
  simp
theorem or_at (b : Nat → Bool) (k q : Nat) (hk : k < 16) (hq : q < 2) (hb : b k = (q == 1)) : bits BinOp.or IntKind.u16 (numTo b k : Int) (IntKind.u16.wrap ((q : Int) * 2 ^ k)) = (numTo b (k + 1) : Int) := by
  rcases (by omega : q = 0 ∨ q = 1) with rfl | rfl
  · exact or_zero b k hk (by simpa using hb)
  · rw [show (((1 : Nat) : Int) * 2 ^ k) = 2 ^ k by simp]
    exact or_val b k hk (by simpa using hb)

set_option maxHeartbeats 1000000 in
set_option maxRecDepth 20000 in
theorem at_any (bt v : Nat) (hb : bt < 65536) (hv : v < 4) (one : Bool) (w : World) :
    Calls Try.prog 12 #[.int .u16 bt, .int .i64 v, .bool one] w fun e w' => e = .returned (.int .u16 (atN bt v one)) ∧ Below w.heap.size w w' := by
  unfold atN
  obtain ⟨b, hbb⟩ : ∃ b : Nat → Bool, b = fun k => bt.testBit (rowI v one k) := ⟨_, rfl⟩
  rw [← hbb]
  have HB : Hid (b = fun k => bt.testBit (rowI v one k)) := hbb
  have h0 : (0 : Int) ≤ v := by omega
  have h4 : (v : Int) < 4 := by omega
  clear hbb
  go_enter Try.func12, Try.ntmps12
  go_wp2
  go_loop [7, 10] (fun o i => ∃ k : Nat, k ≤ 16 ∧ i = .int .i64 k ∧ o = .int .u16 (numTo b k)) (fun _ i => 16 - (intOf i).toNat)
  case atStart => exact ⟨0, by omega, rfl, rfl⟩
  case round =>
    obtain ⟨k, hk, rfl, rfl⟩ := hrel
    by_cases hlt : k < 16
    · have h1 : (k : Int) < 16 := by omega
      have hn := row_not v hv k hlt
      have ho := row_or v hv k hlt
      have hbk : b k = bt.testBit (rowI v one k) := by rw [HB.out]
      cases one with
      | true =>
        obtain ⟨r, hr⟩ : ∃ r, r = rowI v true k := ⟨_, rfl⟩
        rw [← hr] at ho hbk
        obtain ⟨ho, hr16⟩ := ho
        have hr16' : (r : Int) < 16 := by omega
        clear hn hr
        go_wp2
        go_round
        case rel => exact ⟨k + 1, by omega, by go_num, congrArg (Value.int .u16) (by rw [bit_and bt r hb]; exact or_at b k _ hlt (by omega) (by rw [hbk, test_div]))⟩
        case measure => simp [intOf]; omega
      | false =>
        obtain ⟨r, hr⟩ : ∃ r, r = rowI v false k := ⟨_, rfl⟩
        rw [← hr] at hn hbk
        obtain ⟨hn, hr16⟩ := hn
        have hr16' : (r : Int) < 16 := by omega
        clear ho hr
        go_wp2
        go_round
        case rel => exact ⟨k + 1, by omega, by go_num, congrArg (Value.int .u16) (by rw [bit_and bt r hb]; exact or_at b k _ hlt (by omega) (by rw [hbk, test_div]))⟩
        case measure => simp [intOf]; omega
    · obtain rfl : k = 16 := by omega
      go_wp2
      go_ret
      exact ⟨rfl, Below.refl _ _⟩

/-- The table of a variable. -/
def colN (v : Nat) : Nat := numTo (fun k => rowF k v) 16
theorem col_val (b : Nat → Bool) (k v : Nat) (hk : k < 16) (hv : v < 4) (hb : b k = rowF k v) : bits BinOp.or IntKind.u16 (numTo b k : Int) (IntKind.u16.wrap (IntKind.u16.wrap (bits BinOp.and IntKind.i64 ((k : Int) / 2 ^ (3 - v)) 1) * 2 ^ k)) = (numTo b (k + 1) : Int) := by
  have e : ((k : Int) / 2 ^ (3 - v)) = ((k / 2 ^ (3 - v) : Nat) : Int) := by simp
  have hlt : k / 2 ^ (3 - v) < 16 := Nat.lt_of_le_of_lt (Nat.div_le_self _ _) hk
  have ew : IntKind.u16.wrap ((k / 2 ^ (3 - v) % 2 : Nat) : Int) = ((k / 2 ^ (3 - v) % 2 : Nat) : Int) := by rw [IntKind.wrap_u16]; omega
  rw [e, and1 _ hlt, ew]
  refine or_at b k _ hk (by omega) ?_
  have ev : (3 - (v : Int)).toNat = 3 - v := by omega
  have hv' : (v : Int) < 4 := by omega
  rw [hb, rowF, ev]
  simp [hv']
set_option maxHeartbeats 1000000 in
set_option maxRecDepth 20000 in
theorem column_any (v : Nat) (hv : v < 4) (w : World) :
    Calls Try.prog 17 #[.int .i64 v] w fun e w' => e = .returned (.int .u16 (colN v)) ∧ Below w.heap.size w w' := by
  unfold colN
  obtain ⟨b, hbb⟩ : ∃ b : Nat → Bool, b = fun k => rowF k v := ⟨_, rfl⟩
  rw [← hbb]
  have HB : Hid (b = fun k => rowF k v) := hbb
  have h0 : (0 : Int) ≤ v := by omega
  have h4 : (v : Int) < 4 := by omega
  clear hbb
  go_enter Try.func17, Try.ntmps17
  go_wp2
  go_loop [3, 5] (fun o i => ∃ k : Nat, k ≤ 16 ∧ i = .int .i64 k ∧ o = .int .u16 (numTo b k)) (fun _ i => 16 - (intOf i).toNat)
  case atStart => exact ⟨0, by omega, rfl, rfl⟩
  case round =>
    obtain ⟨k, hk, rfl, rfl⟩ := hrel
    by_cases hlt : k < 16
    · have h1 : (k : Int) < 16 := by omega
      go_wp2
      go_round
      case rel => exact ⟨k + 1, by omega, by go_num, congrArg (Value.int .u16) (col_val b k v hlt hv (by rw [HB.out]))⟩
      case measure => simp [intOf]; omega
    · obtain rfl : k = 16 := by omega
      go_wp2
      go_ret
      exact ⟨rfl, Below.refl _ _⟩

/-! ### What these tables say -/
theorem numTo_test (b : Nat → Bool) : ∀ (k i : Nat), i < k → (numTo b k).testBit i = b i
  | 0, i, h => by omega
  | k + 1, i, h => by
    have hlt := numTo_lt b k
    rw [numTo]
    cases hb : b k with
    | true =>
      simp only [if_true]
      rw [← or_pow _ _ hlt, Nat.testBit_or]
      rcases Nat.lt_or_ge i k with h1 | h1
      · rw [numTo_test b k i h1, Nat.testBit_two_pow_of_ne (by omega)]
        simp
      · obtain rfl : i = k := by omega
        rw [hb, Nat.testBit_two_pow_self]
        simp
    | false =>
      simp only [Bool.false_eq_true, if_false, Nat.add_zero]
      rcases Nat.lt_or_ge i k with h1 | h1
      · exact numTo_test b k i h1
      · obtain rfl : i = k := by omega
        rw [hb, Nat.testBit_lt_two_pow hlt]
theorem tb_num (b : Nat → Bool) (φ : Int → Bool) : tb (numTo b 16) φ = b (rowOf φ 4 0 0) := numTo_test b 16 _ (rowOf_16 φ)
theorem num_lt (b : Nat → Bool) : numTo b 16 < 65536 := numTo_lt b 16
theorem atN_lt (bt v : Nat) (one : Bool) : atN bt v one < 65536 := num_lt _
theorem colN_lt (v : Nat) : colN v < 65536 := num_lt _
def row4 (a b c d : Bool) : Nat := (if a = true then 8 else 0) + (if b = true then 4 else 0) + (if c = true then 2 else 0) + (if d = true then 1 else 0)
theorem rowOf_4 (φ : Int → Bool) : rowOf φ 4 0 0 = row4 (φ 0) (φ 1) (φ 2) (φ 3) := by
  show (if φ 0 = true then (if φ 1 = true then (if φ 2 = true then (if φ 3 = true then 15 else 14) else (if φ 3 = true then 13 else 12)) else (if φ 2 = true then (if φ 3 = true then 11 else 10) else (if φ 3 = true then 9 else 8))) else (if φ 1 = true then (if φ 2 = true then (if φ 3 = true then 7 else 6) else (if φ 3 = true then 5 else 4)) else (if φ 2 = true then (if φ 3 = true then 3 else 2) else (if φ 3 = true then 1 else 0)))) = _
  cases φ 0 <;> cases φ 1 <;> cases φ 2 <;> cases φ 3 <;> rfl
theorem turn_nat (φ : Int → Bool) (v : Nat) (one : Bool) (x : Nat) : turn φ v one (x : Int) = if x = v then one else φ x := by
  unfold turn
  by_cases h : x = v
  · rw [if_pos h, if_pos (by omega)]
  · rw [if_neg h, if_neg (by omega)]
theorem rowOf_turn (φ : Int → Bool) (v : Nat) (hv : v < 4) (one : Bool) : rowOf (turn φ v one) 4 0 0 = rowI v one (rowOf φ 4 0 0) := by
  have key : ∀ v : Fin 4, ∀ one a b c d : Bool, row4 (if 0 = v.val then one else a) (if 1 = v.val then one else b) (if 2 = v.val then one else c) (if 3 = v.val then one else d) = rowI v.val one (row4 a b c d) := by decide
  rw [rowOf_4, rowOf_4]
  have e0 := turn_nat φ v one 0
  have e1 := turn_nat φ v one 1
  have e2 := turn_nat φ v one 2
  have e3 := turn_nat φ v one 3
  have := key ⟨v, hv⟩ one (φ 0) (φ 1) (φ 2) (φ 3)
  rw [← this]
  exact congr (congr (congr (congrArg row4 e0) e1) e2) e3
theorem rowOf_far (φ : Int → Bool) (v : Nat) (hv : 4 ≤ v) (one : Bool) : rowOf (turn φ v one) 4 0 0 = rowOf φ 4 0 0 := by
  have e : ∀ x : Int, x < 4 → turn φ v one x = φ x := fun x hx => by
    unfold turn
    rw [if_neg (by omega)]
  rw [rowOf_4, rowOf_4, e _ (by decide), e _ (by decide), e _ (by decide), e _ (by decide)]
theorem tb_at (bt v : Nat) (hv : v < 4) (one : Bool) (φ : Int → Bool) : tb (atN bt v one) φ = tb bt (turn φ v one) := by
  rw [atN, tb_num, tb, rowOf_turn φ v hv one]
theorem tb_far (bt v : Nat) (hv : 4 ≤ v) (one : Bool) (φ : Int → Bool) : tb bt (turn φ v one) = tb bt φ := by
  rw [tb, tb, rowOf_far φ v hv one]
theorem tb_col (v : Nat) (hv : v < 4) (φ : Int → Bool) : tb (colN v) φ = φ v := by
  have key : ∀ v : Fin 4, ∀ a b c d : Bool, rowF (row4 a b c d) (v.val : Int) = if v.val = 0 then a else if v.val = 1 then b else if v.val = 2 then c else d := by decide
  rw [colN, tb_num, rowOf_4]
  refine (key ⟨v, hv⟩ (φ 0) (φ 1) (φ 2) (φ 3)).trans ?_
  rcases (by omega : v = 0 ∨ v = 1 ∨ v = 2 ∨ v = 3) with rfl | rfl | rfl | rfl <;> rfl
end Go.Proofs.Ytahjkkegbcalnaa
