/- What the law's own words do: tags, digits, named, line. -/
import Derived.Test.YthelllciciohiaaDoorUD
namespace Go.Proofs.YthelllciciohiaaDoor
open Go.RowKit Go.Lib

theorem and_fin : ∀ n : Fin 256, ∀ k : Fin 8, n.val &&& 2 ^ k.val = n.val / 2 ^ k.val % 2 * 2 ^ k.val := by decide +kernel
theorem tag_and (n k m : Nat) (hn : n < 256) (hk : k < 8) (hm : m = 2 ^ k) : bits BinOp.and IntKind.u8 (n : Int) (m : Int) = ((n / 2 ^ k % 2 * 2 ^ k : Nat) : Int) := by
  have hp : 2 ^ k < 2 ^ 8 := Nat.pow_lt_pow_right (by decide) hk
  have h := u8_and_nat n (2 ^ k) hn hp
  rw [hm, h]
  exact congrArg _ (and_fin ⟨n, hn⟩ ⟨k, hk⟩)
theorem tag_on {n k m : Nat} (hn : n < 256) (hk : k < 8) (hm : m = 2 ^ k) (h : n / 2 ^ k % 2 = 1) : (bits BinOp.and IntKind.u8 (n : Int) (m : Int) != 0) = true := by
  rw [tag_and n k m hn hk hm, h, bne_iff_ne]
  have := Nat.two_pow_pos k
  omega
theorem tag_off {n k m : Nat} (hn : n < 256) (hk : k < 8) (hm : m = 2 ^ k) (h : ¬ n / 2 ^ k % 2 = 1) : (bits BinOp.and IntKind.u8 (n : Int) (m : Int) != 0) = false := by
  rw [tag_and n k m hn hk hm, show n / 2 ^ k % 2 = 0 by omega]
  simp
theorem ltag_step {n k : Nat} {X : ByteArray} (hX : X = ⟨(tagU n k).toArray⟩) (h : n / 2 ^ k % 2 = 1) : (X ++ ⟨#[32]⟩ ++ ⟨#[UInt8.ofNat (48 + k)]⟩ : ByteArray) = ⟨(tagU n (k + 1)).toArray⟩ := by
  have d1 : (⟨#[32]⟩ : ByteArray) = ⟨([32] : List UInt8).toArray⟩ := rfl
  have d2 : (⟨#[UInt8.ofNat (48 + k)]⟩ : ByteArray) = ⟨([UInt8.ofNat (48 + k)] : List UInt8).toArray⟩ := rfl
  rw [hX, d1, d2, str_add, str_add, show tagU n (k + 1) = tagU n k ++ (if n / 2 ^ k % 2 = 1 then [32, UInt8.ofNat (48 + k)] else []) from rfl, if_pos h]
  simp
theorem tags_nil2 {n : Nat} {X s : ByteArray} (hX : X = ⟨(tagU n 4).toArray⟩) (h : X.toList.isEmpty = true) : X = ⟨(tagsT s.data.toList n).toArray⟩ := by
  rw [← tags_nil hX h, hX]
  rw [hX, ByteArray.toList_eq] at h
  have h' : tagU n 4 = [] := by simpa using h
  rw [h']
set_option maxHeartbeats 4000000 in
set_option maxRecDepth 20000 in
theorem ltags_s (s : ByteArray) (hs : s.size ≤ 100) (n : Nat) (hn : n < 256) (w : World) :
    Calls Tryd.prog 21 #[.string s, .int .u8 n] w fun e w' => e = .returned (.string ⟨(tagsT s.data.toList n).toArray⟩) ∧ w' = w := by
  have z1 := size_one 32
  go_enter Tryd.func21, Tryd.ntmps21
  go_wp2_with fail
  go_loopg [5, 6] 4 (fun g v j wr => ∃ (k : Nat) (i : Int) (X : ByteArray), k + g = 4 ∧ j = .int .i64 i ∧ Hid (i = k) ∧ v = .string X ∧ Hid (X = ⟨(tagU n k).toArray⟩) ∧ wr = w)
  case atStart => exact ⟨0, 0, ⟨#[]⟩, rfl, rfl, (rfl : _ = _), rfl, (rfl : _ = _), rfl⟩
  case round =>
    obtain ⟨k, i, X, hk, rfl, HI, rfl, HX, rfl⟩ := hrel
    have hX : X.size ≤ 8 := by rw [HX.out, str_size]; have := tagU_len n k; omega
    by_cases hlt : k < 4
    · obtain rfl | rfl | rfl | rfl : k = 0 ∨ k = 1 ∨ k = 2 ∨ k = 3 := by omega
      · have hi : i = 0 := by have := HI.out; omega
        subst hi
        clear HI
        have u0 : Utf8.encode 48 = ⟨#[48]⟩ := by decide +kernel
        by_cases ht1 : n / 2 ^ 0 % 2 = 1
        · have q0 : (bits BinOp.and IntKind.u8 (n : Int) 1 != 0) = true := tag_on (k := 0) (m := 1) hn (by decide) rfl ht1
          have HX2 : Hid ((X ++ ⟨#[32]⟩ ++ ⟨#[48]⟩ : ByteArray) = ⟨(tagU n 1).toArray⟩) := ltag_step (k := 0) HX.out ht1
          clear ht1
          go_wp2_with fail
          go_roundg 3
          case measure => omega
          case rel => exact ⟨1, 1, _, by omega, by go_num, rfl, rfl, HX2, rfl⟩
        · have q0 : (bits BinOp.and IntKind.u8 (n : Int) 1 != 0) = false := tag_off (k := 0) (m := 1) hn (by decide) rfl ht1
          have HX2 : Hid (X = ⟨(tagU n 1).toArray⟩) := by show X = _; rw [tag_skip ht1]; exact HX.out
          clear ht1
          go_wp2_with fail
          go_roundg 3
          case measure => omega
          case rel => exact ⟨1, 1, _, by omega, by go_num, rfl, rfl, HX2, rfl⟩
      · have hi : i = 1 := by have := HI.out; omega
        subst hi
        clear HI
        have u0 : Utf8.encode 49 = ⟨#[49]⟩ := by decide +kernel
        by_cases ht1 : n / 2 ^ 1 % 2 = 1
        · have q0 : (bits BinOp.and IntKind.u8 (n : Int) 2 != 0) = true := tag_on (k := 1) (m := 2) hn (by decide) rfl ht1
          have HX2 : Hid ((X ++ ⟨#[32]⟩ ++ ⟨#[49]⟩ : ByteArray) = ⟨(tagU n 2).toArray⟩) := ltag_step (k := 1) HX.out ht1
          clear ht1
          go_wp2_with fail
          go_roundg 2
          case measure => omega
          case rel => exact ⟨2, 2, _, by omega, by go_num, rfl, rfl, HX2, rfl⟩
        · have q0 : (bits BinOp.and IntKind.u8 (n : Int) 2 != 0) = false := tag_off (k := 1) (m := 2) hn (by decide) rfl ht1
          have HX2 : Hid (X = ⟨(tagU n 2).toArray⟩) := by show X = _; rw [tag_skip ht1]; exact HX.out
          clear ht1
          go_wp2_with fail
          go_roundg 2
          case measure => omega
          case rel => exact ⟨2, 2, _, by omega, by go_num, rfl, rfl, HX2, rfl⟩
      · have hi : i = 2 := by have := HI.out; omega
        subst hi
        clear HI
        have u0 : Utf8.encode 50 = ⟨#[50]⟩ := by decide +kernel
        by_cases ht1 : n / 2 ^ 2 % 2 = 1
        · have q0 : (bits BinOp.and IntKind.u8 (n : Int) 4 != 0) = true := tag_on (k := 2) (m := 4) hn (by decide) rfl ht1
          have HX2 : Hid ((X ++ ⟨#[32]⟩ ++ ⟨#[50]⟩ : ByteArray) = ⟨(tagU n 3).toArray⟩) := ltag_step (k := 2) HX.out ht1
          clear ht1
          go_wp2_with fail
          go_roundg 1
          case measure => omega
          case rel => exact ⟨3, 3, _, by omega, by go_num, rfl, rfl, HX2, rfl⟩
        · have q0 : (bits BinOp.and IntKind.u8 (n : Int) 4 != 0) = false := tag_off (k := 2) (m := 4) hn (by decide) rfl ht1
          have HX2 : Hid (X = ⟨(tagU n 3).toArray⟩) := by show X = _; rw [tag_skip ht1]; exact HX.out
          clear ht1
          go_wp2_with fail
          go_roundg 1
          case measure => omega
          case rel => exact ⟨3, 3, _, by omega, by go_num, rfl, rfl, HX2, rfl⟩
      · have hi : i = 3 := by have := HI.out; omega
        subst hi
        clear HI
        have u0 : Utf8.encode 51 = ⟨#[51]⟩ := by decide +kernel
        by_cases ht1 : n / 2 ^ 3 % 2 = 1
        · have q0 : (bits BinOp.and IntKind.u8 (n : Int) 8 != 0) = true := tag_on (k := 3) (m := 8) hn (by decide) rfl ht1
          have HX2 : Hid ((X ++ ⟨#[32]⟩ ++ ⟨#[51]⟩ : ByteArray) = ⟨(tagU n 4).toArray⟩) := ltag_step (k := 3) HX.out ht1
          clear ht1
          go_wp2_with fail
          go_roundg 0
          case measure => omega
          case rel => exact ⟨4, 4, _, by omega, by go_num, rfl, rfl, HX2, rfl⟩
        · have q0 : (bits BinOp.and IntKind.u8 (n : Int) 8 != 0) = false := tag_off (k := 3) (m := 8) hn (by decide) rfl ht1
          have HX2 : Hid (X = ⟨(tagU n 4).toArray⟩) := by show X = _; rw [tag_skip ht1]; exact HX.out
          clear ht1
          go_wp2_with fail
          go_roundg 0
          case measure => omega
          case rel => exact ⟨4, 4, _, by omega, by go_num, rfl, rfl, HX2, rfl⟩
    · obtain rfl : k = 4 := by omega
      have hi : i = 4 := by have := HI.out; omega
      subst hi
      cases hem : X.toList.isEmpty with
      | true =>
        have HN : Hid (X = ⟨(tagsT s.data.toList n).toArray⟩) := tags_nil2 HX.out hem
        clear HI
        go_wp2_with fail
        go_ret
        rw [← HN.out]
        exact ⟨rfl, rfl⟩
      | false =>
        have HN : Hid ((⟨#[32]⟩ ++ s ++ X : ByteArray) = ⟨(tagsT s.data.toList n).toArray⟩) := tags_end HX.out hem
        clear HI
        go_wp2_with fail
        go_ret
        rw [HN.out]
        exact ⟨rfl, rfl⟩
theorem digit_piece (n : Nat) (hn : n < 10) : ((⟨#[48, 49, 50, 51, 52, 53, 54, 55, 56, 57]⟩ : ByteArray).extract n (n + 1)) = ⟨(decDigits n).toArray⟩ := by
  rw [decDigits_one hn]
  exact dig_fin ⟨n, hn⟩
theorem ldig_one (n : Nat) (hn : n < 10) (w : World) :
    Calls Tryd.prog 23 #[.int .i64 n] w fun e w' => e = .returned (.string ⟨(decDigits n).toArray⟩) ∧ w' = w := by
  have d0 : decide ((n : Int) < 10) = true := decide_eq_true (by omega)
  have HD : Hid (((⟨#[48, 49, 50, 51, 52, 53, 54, 55, 56, 57]⟩ : ByteArray).extract n (n + 1)) = ⟨(decDigits n).toArray⟩) := digit_piece n hn
  have d1 : decide ((n : Int) < 0) = false := decide_eq_false (by omega)
  go_enter Tryd.func23, Tryd.ntmps23
  go_wp2
  go_ret
  rw [← HD.out]
  exact ⟨rfl, rfl⟩
theorem ldig_nat (n : Nat) (hn : n ≤ 9223372036854775807) (w : World) :
    Calls Tryd.prog 23 #[.int .i64 n] w fun e w' => e = .returned (.string ⟨(decDigits n).toArray⟩) ∧ w' = w := by
  induction n using Nat.strongRecOn generalizing w with
  | _ n ih =>
    by_cases h : n < 10
    · exact ldig_one n h w
    · have d0 : decide ((n : Int) < 10) = false := decide_eq_false (by omega)
      have d1 : decide ((n : Int) < 0) = false := decide_eq_false (by omega)
      have i1 := ih (n / 10) (by omega) (by omega)
      have i2 := ldig_one (n % 10) (by omega)
      have e1 : ((n / 10 : Nat) : Int) = (n : Int) / 10 := by simp
      have e2 : ((n % 10 : Nat) : Int) = (n : Int) % 10 := by simp
      have e3 : decDigits n = decDigits (n / 10) ++ decDigits (n % 10) := by
        rw [decDigits, dif_neg h, decDigits_one (i := n % 10) (by omega)]
      rw [e1] at i1
      rw [e2] at i2
      have hl1 := dig_len 18 (n / 10) (by omega)
      have hl2 := dig_len 0 (n % 10) (by omega)
      obtain ⟨x, hx⟩ : ∃ x : ByteArray, x = ⟨(decDigits (n / 10)).toArray⟩ := ⟨_, rfl⟩
      obtain ⟨y, hy⟩ : ∃ y : ByteArray, y = ⟨(decDigits (n % 10)).toArray⟩ := ⟨_, rfl⟩
      have HX : Hid ((x ++ y : ByteArray) = ⟨(decDigits n).toArray⟩) := by show _ = _; rw [e3, hx, hy, str_add]
      rw [← hx] at i1
      rw [← hy] at i2
      have sx : x.size ≤ 30 := by rw [hx, str_size]; omega
      have sy : y.size ≤ 30 := by rw [hy, str_size]; omega
      clear hx hy e1 e2 e3 hl1 hl2 ih
      go_enter Tryd.func23, Tryd.ntmps23
      go_wp2_with fail
      refine (i1 _).mono ?_
      rintro e w' ⟨rfl, rfl⟩
      go_wp2_with fail
      refine (i2 _).mono ?_
      rintro e w' ⟨rfl, rfl⟩
      clear i1 i2
      go_wp2
      go_ret
      rw [HX.out]
      exact ⟨rfl, rfl⟩
theorem ldig_int (x : Int) (h0 : -9223372036854775807 ≤ x) (h1 : x ≤ 9223372036854775807) (w : World) :
    Calls Tryd.prog 23 #[.int .i64 x] w fun e w' => e = .returned (.string ⟨(itoa x).toArray⟩) ∧ w' = w := by
  by_cases hx : 0 ≤ x
  · obtain ⟨n, rfl⟩ : ∃ n : Nat, x = n := ⟨x.toNat, by omega⟩
    rw [itoa_nat]
    exact ldig_nat n (by omega) w
  · obtain ⟨n, rfl⟩ : ∃ n : Nat, x = -(n : Int) := ⟨x.natAbs, by omega⟩
    have hc := ldig_nat n (by omega)
    have hl := dig_len 18 n (by omega)
    obtain ⟨y, hy⟩ : ∃ y : ByteArray, y = ⟨(decDigits n).toArray⟩ := ⟨_, rfl⟩
    rw [← hy] at hc
    have sy : y.size ≤ 30 := by rw [hy, str_size]; omega
    have HX : Hid ((⟨#[45]⟩ ++ y : ByteArray) = ⟨(itoa (-(n : Int))).toArray⟩) := by
      show _ = _
      have d1 : (⟨#[45]⟩ : ByteArray) = ⟨([45] : List UInt8).toArray⟩ := rfl
      rw [itoa_neg n (by omega), hy, d1, str_add]
      rfl
    have d1 : decide (-(n : Int) < 0) = true := decide_eq_true (by omega)
    have z1 := size_one 45
    clear hy hl
    go_enter Tryd.func23, Tryd.ntmps23
    go_wp2_with fail
    refine (hc _).mono ?_
    rintro e w' ⟨rfl, rfl⟩
    go_wp2
    go_ret
    rw [HX.out]
    exact ⟨rfl, rfl⟩
theorem named_nil (s : ByteArray) (w : World) (n : Int) (hn : n = 0) : Calls Tryd.prog 22 #[.string s, .string ⟨#[48]⟩] w fun e w' => e = .returned (.string ⟨(numT s.data.toList n).toArray⟩) ∧ w' = w := by
  have HS : Hid ((⟨#[]⟩ : ByteArray) = ⟨(numT s.data.toList n).toArray⟩) := by show _ = _; rw [hn]; rfl
  clear hn
  go_enter Tryd.func22, Tryd.ntmps22
  go_wp2
  go_ret
  rw [← HS.out]
  exact ⟨rfl, rfl⟩
theorem itoa_not {n : Int} (hn : n ≠ 0) : itoa n ≠ [] ∧ itoa n ≠ [48] := by
  have hl := dig_pos n.natAbs
  have hl2 := dig_pos n.toNat
  constructor
  · intro h
    unfold itoa at h
    split at h
    · cases h
    · rw [h] at hl2
      simp at hl2
  · intro h
    unfold itoa at h
    split at h
    · rename_i h0
      injection h with h1 _
      exact absurd h1 (by decide)
    · rename_i h0
      have : n.toNat ≠ 0 := by omega
      rw [decDigits] at h
      split at h
      · rename_i h9
        injection h with h1 _
        have h2 := congrArg UInt8.toNat h1
        rw [UInt8.toNat_ofNat'] at h2
        have : (48 + n.toNat) % 2 ^ 8 = 48 := h2
        omega
      · have h3 := congrArg List.length h
        rw [List.length_append] at h3
        have := dig_pos (n.toNat / 10)
        simp only [List.length_cons, List.length_nil] at h3
        omega
theorem named_any (s : ByteArray) (hs : s.size ≤ 100) (n : Int) (h0 : -9223372036854775808 ≤ n) (h1 : n ≤ 9223372036854775807) (w : World) :
    Calls Tryd.prog 22 #[.string s, .string ⟨(itoa n).toArray⟩] w fun e w' => e = .returned (.string ⟨(numT s.data.toList n).toArray⟩) ∧ w' = w := by
  by_cases hn : n = 0
  · have e : itoa n = [48] := by
      rw [hn]
      unfold itoa
      rw [if_neg (by decide)]
      exact decDigits_one (i := 0) (by decide)
    rw [e]
    exact named_nil s w n hn
  · obtain ⟨n1, n2⟩ := itoa_not hn
    have hl := itoa_len h0 h1
    obtain ⟨t, ht⟩ : ∃ t : ByteArray, t = ⟨(itoa n).toArray⟩ := ⟨_, rfl⟩
    have HS : Hid ((⟨#[32]⟩ ++ s ++ ⟨#[32]⟩ ++ t : ByteArray) = ⟨(numT s.data.toList n).toArray⟩) := by
      show _ = _
      rw [wd_str, ht]
      unfold numT
      rw [if_neg hn]
    have z1 := size_one 32
    have zt : t.size ≤ 20 := by rw [ht, str_size]; exact hl
    have d0 : t.toList.isEmpty = false := by rw [ht, ByteArray.toList_eq]; simpa using n1
    have d1 : (t.toList == [48]) = false := by rw [beq_eq_false_iff_ne, ht, ByteArray.toList_eq]; simpa using n2
    rw [← ht]
    clear ht hl n1 n2 hn h0 h1
    go_enter Tryd.func22, Tryd.ntmps22
    go_wp2
    go_ret
    rw [HS.out]
    exact ⟨rfl, rfl⟩
theorem line_str (c : ClD) (on dr s1 s2 s3 s4 s5 s6 : ByteArray) (e0 : on = ⟨(onT c).toArray⟩) (e1 : dr = ⟨(dropT c).toArray⟩) (h1 : s1 = ⟨(tagsT [119, 105, 116, 104] c.wi).toArray⟩) (h2 : s2 = ⟨(tagsT [111, 117, 116] c.ou).toArray⟩)
    (h3 : s3 = ⟨(tagsT [115, 101, 116] c.se).toArray⟩) (h4 : s4 = ⟨(tagsT [99, 108, 101, 97, 114] c.cl).toArray⟩) (h5 : s5 = ⟨(numT [109, 111, 114, 101] c.more).toArray⟩) (h6 : s6 = ⟨(numT [112, 114, 101, 102] c.pref).toArray⟩) :
    (⟨#[9, 105, 102, 32]⟩ ++ on ++ s1 ++ s2 ++ ⟨#[32, 116, 104, 101, 110]⟩ ++ dr ++ s3 ++ s4 ++ s5 ++ s6 ++ ⟨#[59, 10]⟩ : ByteArray) = ⟨(lineT c).toArray⟩ := by
  subst e0 e1 h1 h2 h3 h4 h5 h6
  have d1 : (⟨#[9, 105, 102, 32]⟩ : ByteArray) = ⟨([9, 105, 102, 32] : List UInt8).toArray⟩ := rfl
  have d2 : (⟨#[32, 116, 104, 101, 110]⟩ : ByteArray) = ⟨([32, 116, 104, 101, 110] : List UInt8).toArray⟩ := rfl
  have d3 : (⟨#[59, 10]⟩ : ByteArray) = ⟨([59, 10] : List UInt8).toArray⟩ := rfl
  rw [d1, d2, d3]
  simp only [str_add]
  rfl
end Go.Proofs.YthelllciciohiaaDoor
