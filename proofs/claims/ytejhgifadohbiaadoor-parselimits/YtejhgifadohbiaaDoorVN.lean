/- Numbers and places of no error; numbers in base 10, as the law writes them. -/
import Derived.Test.YtejhgifadohbiaaDoorVM
namespace Go.Proofs.YtejhgifadohbiaaDoor
open Go.RowKit Go.Lib

set_option maxHeartbeats 1000000 in
set_option maxRecDepth 20000 in
theorem number_nil (w : World) :
    Calls Tryd.prog 8 #[.nilIface] w fun e w' => e = .returned (.int .i64 0) ∧ Below w.heap.size w w' := by
  go_enter Tryd.func8, Tryd.ntmps8
  go_wp2_with (first | (go_at_call 12; refine (as_nil _ _).mono ?_; rintro e w' ⟨rfl, rfl⟩))
  go_ret
  exact ⟨rfl, (Below.refl _ _).alloc (Nat.le_refl _) _⟩
set_option maxHeartbeats 1000000 in
set_option maxRecDepth 20000 in
theorem place_nil (w : World) :
    Calls Tryd.prog 9 #[.nilIface] w fun e w' => e = .returned (.int .i64 (-1)) ∧ Below w.heap.size w w' := by
  go_enter Tryd.func9, Tryd.ntmps9
  go_wp2_with (first | (go_at_call 12; refine (as_nil _ _).mono ?_; rintro e w' ⟨rfl, rfl⟩))
  go_ret
  exact ⟨rfl, (Below.refl _ _).alloc (Nat.le_refl _) _⟩
theorem digit8_piece (n : Nat) (hn : n < 10) : ((⟨#[48, 49, 50, 51, 52, 53, 54, 55, 56, 57]⟩ : ByteArray).extract n (n + 1)) = ⟨(decDigits n).toArray⟩ := by
  rw [decDigits_one hn]
  exact dig_fin ⟨n, hn⟩
theorem dig8_one (n : Nat) (hn : n < 10) (w : World) :
    Calls Tryd.prog 6 #[.int .i64 n] w fun e w' => e = .returned (.string ⟨(decDigits n).toArray⟩) ∧ w' = w := by
  have d0 : decide ((n : Int) < 10) = true := decide_eq_true (by omega)
  have HD : Hid (((⟨#[48, 49, 50, 51, 52, 53, 54, 55, 56, 57]⟩ : ByteArray).extract n (n + 1)) = ⟨(decDigits n).toArray⟩) := digit8_piece n hn
  have d1 : decide ((n : Int) < 0) = false := decide_eq_false (by omega)
  go_enter Tryd.func6, Tryd.ntmps6
  go_wp2
  go_ret
  rw [← HD.out]
  exact ⟨rfl, rfl⟩
theorem dig8_nat (n : Nat) (hn : n ≤ 9223372036854775807) (w : World) :
    Calls Tryd.prog 6 #[.int .i64 n] w fun e w' => e = .returned (.string ⟨(decDigits n).toArray⟩) ∧ w' = w := by
  induction n using Nat.strongRecOn generalizing w with
  | _ n ih =>
    by_cases h : n < 10
    · exact dig8_one n h w
    · have d0 : decide ((n : Int) < 10) = false := decide_eq_false (by omega)
      have d1 : decide ((n : Int) < 0) = false := decide_eq_false (by omega)
      have i1 := ih (n / 10) (by omega) (by omega)
      have i2 := dig8_one (n % 10) (by omega)
      have e1 : ((n / 10 : Nat) : Int) = (n : Int) / 10 := by simp
      have e2 : ((n % 10 : Nat) : Int) = (n : Int) % 10 := by simp
      have e3 : decDigits n = decDigits (n / 10) ++ decDigits (n % 10) := by
        rw [decDigits, dif_neg h, decDigits_one (i := n % 10) (by omega)]
      rw [e1] at i1
      rw [e2] at i2
      have hl1 := dig_len 18 (n / 10) (by omega)
      have hl2 := dig_len 0 (n % 10) (by omega)
      obtain ⟨x, hx⟩ : ∃ x : ByteArray, x = ⟨(decDigits (n / 10)).toArray⟩ := ⟨_, rfl⟩
      obtain ⟨y, hy⟩ : ∃ y : ByteArray, y = ⟨(decDigits (n % 10)).toArray⟩ := ⟨_, rfl⟩
      have HX : Hid ((x ++ y : ByteArray) = ⟨(decDigits n).toArray⟩) := by show _ = _; rw [e3, hx, hy, str_add]
      rw [← hx] at i1
      rw [← hy] at i2
      have sx : x.size ≤ 30 := by rw [hx, str_size]; omega
      have sy : y.size ≤ 30 := by rw [hy, str_size]; omega
      clear hx hy e1 e2 e3 hl1 hl2 ih
      go_enter Tryd.func6, Tryd.ntmps6
      go_wp2_with fail
      refine (i1 _).mono ?_
      rintro e w' ⟨rfl, rfl⟩
      go_wp2_with fail
      refine (i2 _).mono ?_
      rintro e w' ⟨rfl, rfl⟩
      clear i1 i2
      go_wp2
      go_ret
      rw [HX.out]
      exact ⟨rfl, rfl⟩
end Go.Proofs.YtejhgifadohbiaaDoor
