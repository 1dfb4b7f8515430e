/- Table and Bits: the walks. -/
import Derived.Test.YtcbpklpehdojnaaBu
import Derived.Test.YtcbpklpehdojnaaBt
import Derived.LoopTactic
import Derived.Deep.RegionHeld3
namespace Go.Proofs.Ytcbpklpehdojnaa
open Go.RowKit

/-- Sixteen bools. -/
def row16 (b : Nat → Bool) : Array Value := #[.bool (b 0), .bool (b 1), .bool (b 2), .bool (b 3), .bool (b 4), .bool (b 5), .bool (b 6), .bool (b 7), .bool (b 8), .bool (b 9), .bool (b 10), .bool (b 11), .bool (b 12), .bool (b 13), .bool (b 14), .bool (b 15)]

theorem or_val (b : Nat → Bool) (k : Nat) (hk : k < 16) (hb : b k = true) : bits BinOp.or IntKind.u16 (numTo b k : Int) (IntKind.u16.wrap (2 ^ k)) = (numTo b (k + 1) : Int) := by
  have h1 : 2 ^ k ≤ 2 ^ 15 := Nat.pow_le_pow_right (by decide) (by omega)
  have h2 : (2 : Nat) ^ 15 = 32768 := rfl
  have h3 := numTo_lt b k
  have e : ((2 : Int) ^ k) = ((2 ^ k : Nat) : Int) := by simp
  have e' : IntKind.u16.wrap (2 ^ k) = ((2 ^ k : Nat) : Int) := by
    rw [IntKind.wrap_u16, e]
    omega
  rw [e', u16_or_nat _ _ (by omega) (by omega), or_pow _ _ h3, numTo, if_pos hb]
theorem index16 (b : Nat → Bool) (W : World) : ∀ k : Nat, k < 16 → Sem.run Try.prog (Instr.index 36 (.agg (row16 b)) (.int .i64 k)) W = .ok (.bool (b k)) W
  | 0, _ => by kernel_rfl
  | 1, _ => by kernel_rfl
  | 2, _ => by kernel_rfl
  | 3, _ => by kernel_rfl
  | 4, _ => by kernel_rfl
  | 5, _ => by kernel_rfl
  | 6, _ => by kernel_rfl
  | 7, _ => by kernel_rfl
  | 8, _ => by kernel_rfl
  | 9, _ => by kernel_rfl
  | 10, _ => by kernel_rfl
  | 11, _ => by kernel_rfl
  | 12, _ => by kernel_rfl
  | 13, _ => by kernel_rfl
  | 14, _ => by kernel_rfl
  | 15, _ => by kernel_rfl
  | n + 16, h => by omega

set_option maxHeartbeats 400000 in
set_option maxRecDepth 20000 in
theorem bits_any (b : Nat → Bool) (w : World) :
    Calls Try.prog 14 #[.agg (row16 b)] w fun e w' => e = .returned (.int .u16 (numTo b 16)) ∧ Below w.heap.size w w' := by
  have hix := index16 b
  unfold row16 at hix ⊢
  go_enter Try.func14, Try.ntmps14
  go_wp2
  generalize hW : w.alloc _ = W
  have hb : Below w.heap.size w W := by rw [← hW]; exact (Below.refl _ _).alloc (Nat.le_refl _) _
  clear hW
  go_loop [3, 7] (fun o i => ∃ k : Nat, k ≤ 16 ∧ i = .int .i64 k ∧ o = .int .u16 (numTo b k)) (fun _ i => 16 - (intOf i).toNat)
  case atStart => exact ⟨0, by omega, rfl, rfl⟩
  case round =>
    obtain ⟨k, hk, rfl, rfl⟩ := hrel
    by_cases hlt : k < 16
    · have hi := hix W k hlt
      have h1 : (k : Int) < 16 := by omega
      clear hix
      cases hbk : b k with
      | true =>
        rw [hbk] at hi
        go_wp2
        go_round
        case rel => exact ⟨k + 1, by omega, by go_num, congrArg (Value.int .u16) (or_val b k hlt hbk)⟩
        case measure => simp [intOf]; omega
      | false =>
        rw [hbk] at hi
        have e : numTo b (k + 1) = numTo b k := by simp [numTo, hbk]
        have HE : Hid (numTo b (k + 1) = numTo b k) := e
        clear e
        go_wp2
        go_round
        case rel => exact ⟨k + 1, by omega, by go_num, by rw [HE.out]⟩
        case measure => simp [intOf]; omega
    · obtain rfl : k = 16 := by omega
      clear hix
      go_wp2
      go_ret
      exact ⟨rfl, hb⟩

theorem and1 (a : Nat) (h : a < 16) : bits .and .i64 (a : Int) 1 = ((a % 2 : Nat) : Int) := by
  have : ∀ a : Fin 16, bits .and .i64 ((a.val : Nat) : Int) 1 = ((a.val % 2 : Nat) : Int) := by decide
  exact this ⟨a, h⟩
/-- Row k's values. -/
def rowF (k : Nat) (x : Int) : Bool := decide (x < 4) && (k / 2 ^ (3 - x).toNat % 2 == 1)
theorem tab_val (k : Nat) (hk : k < 16) (x : Int) : (bits BinOp.and IntKind.i64 ((k : Int) / 2 ^ (3 - x).toNat) 1 == 1) = (k / 2 ^ (3 - x).toNat % 2 == 1) := by
  have e : ((k : Int) / 2 ^ (3 - x).toNat) = ((k / 2 ^ (3 - x).toNat : Nat) : Int) := by simp
  have hlt : k / 2 ^ (3 - x).toNat < 16 := Nat.lt_of_le_of_lt (Nat.div_le_self _ _) hk
  rw [e, and1 _ hlt, Bool.eq_iff_iff]
  simp
  omega

theorem enterTab (args : Array Value) (W : World) : Sem.run Try.prog (callFunc 26 args) W = .ok (.enter 26 args) W := by kernel_rfl
set_option maxHeartbeats 400000 in
set_option maxRecDepth 20000 in
theorem tabF_any (x : Int) (k c : Nat) (hk : k < 16) (hx : 0 ≤ x) (w : World) (hc : w.cell? ⟨c, 0, none⟩ = some (.int .i64 k)) :
    Calls Try.prog 26 #[.int .i64 x, .pointer (some ⟨c, 0, none⟩)] w fun e w' => e = .returned (.bool (rowF k x)) ∧ w' = w := by
  have h1 : (k : Int) < 16 := by omega
  by_cases h4 : x < 4
  · have e : rowF k x = (k / 2 ^ (3 - x).toNat % 2 == 1) := by simp [rowF, h4]
    rw [e]
    clear e
    go_enter Try.func26, Try.ntmps26
    go_wp2
    go_ret
    exact ⟨congrArg (fun x => Ending.returned (.bool x)) (tab_val k hk x), rfl⟩
  · have e : rowF k x = false := by simp [rowF, h4]
    rw [e]
    clear e
    go_enter Try.func26, Try.ntmps26
    go_wp2
    go_ret
    exact ⟨rfl, rfl⟩

end Go.Proofs.Ytcbpklpehdojnaa
