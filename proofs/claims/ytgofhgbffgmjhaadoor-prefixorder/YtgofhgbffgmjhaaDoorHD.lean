/- What digits and text do. -/
import Derived.Test.YtgofhgbffgmjhaaDoorHB
import Derived.Deep.RegionWith
import Derived.Laws.Strings3
import Derived.Laws.DeepStrings4
namespace Go.Proofs.YtgofhgbffgmjhaaDoor
open Go.RowKit Go.Lib

/-- A text as a value. -/
def strV (l : List UInt8) : Value := .string ⟨l.toArray⟩
theorem dig_fin : ∀ i : Fin 10, (⟨#[48, 49, 50, 51, 52, 53, 54, 55, 56, 57]⟩ : ByteArray).extract i.val (i.val + 1) = ⟨#[UInt8.ofNat (48 + i.val)]⟩ := by decide +kernel
theorem dig_piece (n : Nat) (hn : n < 10) : Value.string ((⟨#[48, 49, 50, 51, 52, 53, 54, 55, 56, 57]⟩ : ByteArray).extract n (n + 1)) = strV (decDigits n) := by
  rw [decDigits_one hn]
  exact congrArg Value.string (dig_fin ⟨n, hn⟩)
theorem digits_one (n : Nat) (hn : n < 10) (w : World) :
    Calls Tryd.prog 25 #[.int .i64 n] w fun e w' => e = .returned (strV (decDigits n)) ∧ w' = w := by
  have d0 : decide ((n : Int) < 10) = true := decide_eq_true (by omega)
  go_enter Tryd.func25, Tryd.ntmps25
  go_wp2
  go_ret
  rw [← dig_piece n hn]
  exact ⟨rfl, rfl⟩
/-- Texts put together. -/
theorem str_add (x y : List UInt8) : (⟨x.toArray⟩ : ByteArray) ++ ⟨y.toArray⟩ = ⟨(x ++ y).toArray⟩ := by
  apply ByteArray.ext
  rw [ByteArray.data_append]
  simp
theorem str_size (x : List UInt8) : (⟨x.toArray⟩ : ByteArray).size = x.length := by simp [ByteArray.size]
theorem digits_any (n : Nat) (hn : n < 1000) (w : World) :
    Calls Tryd.prog 25 #[.int .i64 n] w fun e w' => e = .returned (strV (decDigits n)) ∧ w' = w := by
  induction n using Nat.strongRecOn generalizing w with
  | _ n ih =>
    by_cases h : n < 10
    · exact digits_one n h w
    · have d0 : decide ((n : Int) < 10) = false := decide_eq_false (by omega)
      have i1 := ih (n / 10) (by omega) (by omega)
      have i2 := digits_one (n % 10) (by omega)
      have e1 : ((n / 10 : Nat) : Int) = (n : Int) / 10 := by simp
      have e2 : ((n % 10 : Nat) : Int) = (n : Int) % 10 := by simp
      have e3 : decDigits n = decDigits (n / 10) ++ decDigits (n % 10) := by
        rw [decDigits, dif_neg h, decDigits_one (i := n % 10) (by omega)]
      rw [e3]
      rw [e1] at i1
      rw [e2] at i2
      have hl1 : (decDigits (n / 10)).length ≤ 3 := by
        rw [dec_is (by omega)]
        unfold dec3
        split
        · simp
        · split <;> simp
      have hl2 : (decDigits (n % 10)).length ≤ 3 := by
        rw [decDigits_one (by omega)]
        simp
      unfold strV at *
      obtain ⟨x, hx⟩ : ∃ x : ByteArray, x = ⟨(decDigits (n / 10)).toArray⟩ := ⟨_, rfl⟩
      obtain ⟨y, hy⟩ : ∃ y : ByteArray, y = ⟨(decDigits (n % 10)).toArray⟩ := ⟨_, rfl⟩
      rw [← str_add, ← hx, ← hy]
      rw [← hx] at i1
      rw [← hy] at i2
      have sx : x.size ≤ 3 := by rw [hx, str_size]; exact hl1
      have sy : y.size ≤ 3 := by rw [hy, str_size]; exact hl2
      clear hx hy e1 e2 e3 hl1 hl2 ih
      go_enter Tryd.func25, Tryd.ntmps25
      go_wp2_with fail
      refine (i1 _).mono ?_
      rintro e w' ⟨rfl, rfl⟩
      go_wp2_with fail
      refine (i2 _).mono ?_
      rintro e w' ⟨rfl, rfl⟩
      clear i1 i2
      go_wp2
      go_ret
      exact ⟨rfl, rfl⟩
theorem dec_len {n : Nat} (h : n < 1000) : (decDigits n).length ≤ 3 ∧ 1 ≤ (decDigits n).length := by
  rw [dec_is h]
  unfold dec3
  split
  · simp
  · split <;> simp
theorem digits_int (x : Int) (h0 : 0 ≤ x) (h1 : x < 1000) (w : World) :
    Calls Tryd.prog 25 #[.int .i64 x] w fun e w' => e = .returned (.string ⟨(decDigits x.toNat).toArray⟩) ∧ w' = w := by
  obtain ⟨n, rfl⟩ : ∃ n : Nat, x = n := ⟨x.toNat, by omega⟩
  exact digits_any n (by omega) w
theorem mask_int (a k : Nat) (ha : a < 4294967296) : bits BinOp.and IntKind.u32 ((a : Int) / k) 255 = (a / k % 256 : Nat) := by
  have e : ((a : Int) / k) = ((a / k : Nat) : Int) := by simp
  have h := u32_and_nat (a / k) 255 (Nat.lt_of_le_of_lt (Nat.div_le_self _ _) ha) (by decide)
  rw [nat_mask8] at h
  rw [e]
  exact h
theorem text_strs (a b : Nat) (s1 s2 s3 s4 s5 : ByteArray) (e1 : s1 = ⟨(decDigits (a / 16777216)).toArray⟩) (e2 : s2 = ⟨(decDigits (a / 65536 % 256)).toArray⟩) (e3 : s3 = ⟨(decDigits (a / 256 % 256)).toArray⟩) (e4 : s4 = ⟨(decDigits (a % 256)).toArray⟩) (e5 : s5 = ⟨(decDigits b).toArray⟩) :
    Value.string (s1 ++ ⟨#[46]⟩ ++ s2 ++ ⟨#[46]⟩ ++ s3 ++ ⟨#[46]⟩ ++ s4 ++ ⟨#[47]⟩ ++ s5) = strV (textP a b) := by
  subst e1 e2 e3 e4 e5
  have d : (⟨#[46]⟩ : ByteArray) = ⟨([46] : List UInt8).toArray⟩ := rfl
  have d' : (⟨#[47]⟩ : ByteArray) = ⟨([47] : List UInt8).toArray⟩ := rfl
  unfold strV textP
  rw [d, d']
  simp only [str_add]
theorem size_dot : (⟨#[46]⟩ : ByteArray).size = 1 := rfl
theorem size_stroke : (⟨#[47]⟩ : ByteArray).size = 1 := rfl
set_option maxHeartbeats 4000000 in
set_option maxRecDepth 20000 in
theorem ltext_any (a b : Nat) (ha : a < 4294967296) (hb : b ≤ 32) (w : World) :
    Calls Tryd.prog 15 #[pfV a b] w fun e w' => e = .returned (strV (textP a b)) ∧ Below w.heap.size w w' := by
  unfold pfV
  have c1 := digits_any (a / 16777216) (by omega)
  have c2 := digits_any (a / 65536 % 256) (by omega)
  have c3 := digits_any (a / 256 % 256) (by omega)
  have c4 := digits_any (a % 256) (by omega)
  have c5 := digits_any b (by omega)
  have l1 := (dec_len (n := a / 16777216) (by omega)).1
  have l2 := (dec_len (n := a / 65536 % 256) (by omega)).1
  have l3 := (dec_len (n := a / 256 % 256) (by omega)).1
  have l4 := (dec_len (n := a % 256) (by omega)).1
  have l5 := (dec_len (n := b) (by omega)).1
  have m2 : bits BinOp.and IntKind.u32 ((a : Int) / 65536) 255 = (a / 65536 % 256 : Nat) := mask_int a 65536 ha
  have m3 : bits BinOp.and IntKind.u32 ((a : Int) / 256) 255 = (a / 256 % 256 : Nat) := mask_int a 256 ha
  have m4 : bits BinOp.and IntKind.u32 (a : Int) 255 = (a % 256 : Nat) := by
    have := mask_int a 1 ha
    rw [Nat.div_one] at this
    simpa using this
  obtain ⟨s1, e1⟩ : ∃ x : ByteArray, x = ⟨(decDigits (a / 16777216)).toArray⟩ := ⟨_, rfl⟩
  obtain ⟨s2, e2⟩ : ∃ x : ByteArray, x = ⟨(decDigits (a / 65536 % 256)).toArray⟩ := ⟨_, rfl⟩
  obtain ⟨s3, e3⟩ : ∃ x : ByteArray, x = ⟨(decDigits (a / 256 % 256)).toArray⟩ := ⟨_, rfl⟩
  obtain ⟨s4, e4⟩ : ∃ x : ByteArray, x = ⟨(decDigits (a % 256)).toArray⟩ := ⟨_, rfl⟩
  obtain ⟨s5, e5⟩ : ∃ x : ByteArray, x = ⟨(decDigits b).toArray⟩ := ⟨_, rfl⟩
  rw [← text_strs a b s1 s2 s3 s4 s5 e1 e2 e3 e4 e5]
  unfold strV at c1 c2 c3 c4 c5
  rw [← e1] at c1
  rw [← e2] at c2
  rw [← e3] at c3
  rw [← e4] at c4
  rw [← e5] at c5
  have z1 : s1.size ≤ 3 := by rw [e1, str_size]; exact l1
  have z2 : s2.size ≤ 3 := by rw [e2, str_size]; exact l2
  have z3 : s3.size ≤ 3 := by rw [e3, str_size]; exact l3
  have z4 : s4.size ≤ 3 := by rw [e4, str_size]; exact l4
  have z5 : s5.size ≤ 3 := by rw [e5, str_size]; exact l5
  clear e1 e2 e3 e4 e5 l1 l2 l3 l4 l5
  obtain ⟨x1, h1⟩ : ∃ x : Int, x = (a / 16777216 : Nat) := ⟨_, rfl⟩
  obtain ⟨x2, h2⟩ : ∃ x : Int, x = (a / 65536 % 256 : Nat) := ⟨_, rfl⟩
  obtain ⟨x3, h3⟩ : ∃ x : Int, x = (a / 256 % 256 : Nat) := ⟨_, rfl⟩
  obtain ⟨x4, h4⟩ : ∃ x : Int, x = (a % 256 : Nat) := ⟨_, rfl⟩
  obtain ⟨x5, h5⟩ : ∃ x : Int, x = (b : Nat) := ⟨_, rfl⟩
  have m1 : (a : Int) / 16777216 = x1 := by rw [h1]; simp
  rw [← h1] at c1
  rw [← h2] at c2 m2
  rw [← h3] at c3 m3
  rw [← h4] at c4 m4
  rw [← h5] at c5 ⊢
  have k1 : 0 ≤ x1 ∧ x1 < 256 := by omega
  have k2 : 0 ≤ x2 ∧ x2 < 256 := by omega
  have k3 : 0 ≤ x3 ∧ x3 < 256 := by omega
  have k4 : 0 ≤ x4 ∧ x4 < 256 := by omega
  have k5 : 0 ≤ x5 ∧ x5 < 256 := by omega
  clear h1 h2 h3 h4 h5
  go_enter Tryd.func15, Tryd.ntmps15
  go_wp2_with fail
  go_quiet (first
    | (go_at_call_of 25 x1; exact Calls.quiet_of_same (c1 _))
    | (go_at_call_of 25 x2; exact Calls.quiet_of_same (c2 _))
    | (go_at_call_of 25 x3; exact Calls.quiet_of_same (c3 _))
    | (go_at_call_of 25 x4; exact Calls.quiet_of_same (c4 _))
    | (go_at_call_of 25 x5; exact Calls.quiet_of_same (c5 _)))
  go_wp2
  go_ret
  exact ⟨rfl, bel_drewN ((Below.refl _ _).alloc (Nat.le_refl _) _) _⟩
end Go.Proofs.YtgofhgbffgmjhaaDoor
