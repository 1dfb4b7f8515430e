/- What the small functions of text do: inner, number, name, head, tags; and Itoa at any number. -/
import Derived.Test.YtejhgifadohbiaaGreatDoorPX
import Derived.Test.YtejhgifadohbiaaGreatDoorHE
import Derived.Laws.BitsAllLaws
import Derived.Laws.ShiftsVarLaws
import Derived.Deep.LoopGhost
import Derived.WalkLawsBesides
namespace Go.Proofs.YtejhgifadohbiaaGreatDoor
open Go.RowKit Go.Lib

theorem str_of (s : ByteArray) : s = ⟨s.data.toList.toArray⟩ := by
  apply ByteArray.ext
  simp
theorem str_inj {x y : Bs} (h : (⟨x.toArray⟩ : ByteArray) = ⟨y.toArray⟩) : x = y := by
  have := congrArg (fun b : ByteArray => b.data.toList) h
  simpa using this
theorem itoa_all (n : Int) (h0 : -9223372036854775808 ≤ n) (h1 : n ≤ 9223372036854775807) (w : World) (ht : TabP w) :
    Calls Tryz.prog 34 #[.int .i64 n] w fun e w' => e = .returned (.string ⟨(itoa n).toArray⟩) ∧ Below w.heap.size w w' := by
  refine (Tryz.strconv_Itoa n h0 h1 w ht).mono ?_
  rintro e w' ⟨rfl, k, os, rfl⟩
  exact ⟨rfl, bel_grow w k os⟩
theorem pft_any (a : Nat) (b : Int) (ha : a < 4294967296) (w : World) (ht : TabP w) :
    Calls Tryz.prog 18 #[pfV a b] w fun e w' => e = .returned (.string ⟨(pfT a b).toArray⟩) ∧ Below w.heap.size w w' := by
  cases hm : mayP a b with
  | false =>
    have e : pfT a b = [] := by unfold pfT; rw [hm]; rfl
    rw [e]
    exact ptext_none a b ha hm w
  | true =>
    obtain ⟨h0, h1, _⟩ := may_bounds hm
    have e : pfT a b = textP a b.toNat := by unfold pfT; rw [hm]; rfl
    rw [e]
    obtain ⟨n, rfl⟩ : ∃ n : Nat, b = n := ⟨b.toNat, by omega⟩
    exact ptext_any a n ha hm w ht
theorem inn_str (s : ByteArray) : (⟨#[9]⟩ ++ s ++ ⟨#[59, 10]⟩ : ByteArray) = ⟨(innT s.data.toList).toArray⟩ := by
  have d1 : (⟨#[9]⟩ : ByteArray) = ⟨([9] : List UInt8).toArray⟩ := rfl
  have d2 : (⟨#[59, 10]⟩ : ByteArray) = ⟨([59, 10] : List UInt8).toArray⟩ := rfl
  rw [str_of s, d1, d2, str_add, str_add]
  simp [innT]
theorem size_two (a b : UInt8) : (⟨#[a, b]⟩ : ByteArray).size = 2 := rfl
theorem size_one (a : UInt8) : (⟨#[a]⟩ : ByteArray).size = 1 := rfl
theorem inner_s (s : ByteArray) (hs : s.size ≤ 1099511627776) (w : World) :
    Calls Tryz.prog 17 #[.string s] w fun e w' => e = .returned (.string ⟨(innT s.data.toList).toArray⟩) ∧ w' = w := by
  have HS : Hid ((⟨#[9]⟩ ++ s ++ ⟨#[59, 10]⟩ : ByteArray) = ⟨(innT s.data.toList).toArray⟩) := inn_str s
  have z1 := size_one 9
  have z2 := size_two 59 10
  go_enter Tryz.func17, Tryz.ntmps17
  go_wp2
  go_ret
  rw [HS.out]
  exact ⟨rfl, rfl⟩
theorem inner_any (l : Bs) (hl : l.length ≤ 1099511627776) (w : World) :
    Calls Tryz.prog 17 #[.string ⟨l.toArray⟩] w fun e w' => e = .returned (.string ⟨(innT l).toArray⟩) ∧ w' = w := by
  have := inner_s ⟨l.toArray⟩ (by rw [str_size]; exact hl) w
  simpa using this
/-- A word, and something behind it. -/
theorem wd_str (s t : ByteArray) : (⟨#[32]⟩ ++ s ++ ⟨#[32]⟩ ++ t : ByteArray) = ⟨(32 :: s.data.toList ++ 32 :: t.data.toList).toArray⟩ := by
  have d1 : (⟨#[32]⟩ : ByteArray) = ⟨([32] : List UInt8).toArray⟩ := rfl
  rw [str_of s, str_of t, d1, str_add, str_add, str_add]
  simp
theorem number_zero (s : ByteArray) (w : World) : Calls Tryz.prog 31 #[.string s, .int .i64 0] w fun e w' => e = .returned (.string ⟨(numT s.data.toList 0).toArray⟩) ∧ w' = w := by
  have HS : Hid ((⟨#[]⟩ : ByteArray) = ⟨(numT s.data.toList 0).toArray⟩) := by show _ = _; rfl
  go_enter Tryz.func31, Tryz.ntmps31
  go_wp2
  go_ret
  rw [← HS.out]
  exact ⟨rfl, rfl⟩
theorem txnum_any (s : ByteArray) (hs : s.size ≤ 100) (n : Int) (h0 : -9223372036854775808 ≤ n) (h1 : n ≤ 9223372036854775807) (w : World) (ht : TabP w) :
    Calls Tryz.prog 31 #[.string s, .int .i64 n] w fun e w' => e = .returned (.string ⟨(numT s.data.toList n).toArray⟩) ∧ Below w.heap.size w w' := by
  by_cases hn : n = 0
  · subst hn
    exact (number_zero s w).mono fun e w' ⟨he, hw⟩ => ⟨he, by rw [hw]; exact Below.refl _ _⟩
  · have hc := fun w h => itoa_all n h0 h1 w h
    have hz := itoa_len h0 h1
    obtain ⟨t, htt⟩ : ∃ t : ByteArray, t = ⟨(itoa n).toArray⟩ := ⟨_, rfl⟩
    have zt : t.size ≤ 20 := by rw [htt, str_size]; exact hz
    have HS : Hid ((⟨#[32]⟩ ++ s ++ ⟨#[32]⟩ ++ t : ByteArray) = ⟨(numT s.data.toList n).toArray⟩) := by
      show _ = _
      rw [wd_str, htt]
      unfold numT
      rw [if_neg hn]
    rw [← htt] at hc
    have d0 : (n == 0) = false := by rw [beq_eq_false_iff_ne]; exact hn
    have z1 := size_one 32
    clear htt hz hn h0 h1
    go_enter Tryz.func31, Tryz.ntmps31
    go_wp2_with (go_at_call 34; refine (hc _ ht).mono ?_; rintro e w1 ⟨rfl, q⟩)
    go_ret
    rw [HS.out]
    exact ⟨rfl, q⟩
theorem name_s (s t : ByteArray) (hs : s.size ≤ 100) (ht : t.size ≤ 1099511627776) (w : World) :
    Calls Tryz.prog 35 #[.string s, .string t] w fun e w' => e = .returned (.string ⟨(nmT s.data.toList t.data.toList).toArray⟩) ∧ w' = w := by
  by_cases hn : t.data.toList = []
  · have HS : Hid ((⟨#[]⟩ : ByteArray) = ⟨(nmT s.data.toList t.data.toList).toArray⟩) := by show _ = _; unfold nmT; rw [if_pos hn]
    have d0 : t.toList.isEmpty = true := by rw [ByteArray.toList_eq, hn]; rfl
    clear hn
    go_enter Tryz.func35, Tryz.ntmps35
    go_wp2
    go_ret
    rw [← HS.out]
    exact ⟨rfl, rfl⟩
  · have HS : Hid ((⟨#[32]⟩ ++ s ++ ⟨#[32]⟩ ++ t : ByteArray) = ⟨(nmT s.data.toList t.data.toList).toArray⟩) := by
      show _ = _
      rw [wd_str]
      unfold nmT
      rw [if_neg hn]
    have d0 : t.toList.isEmpty = false := by rw [ByteArray.toList_eq]; simpa using hn
    have z1 := size_one 32
    clear hn
    go_enter Tryz.func35, Tryz.ntmps35
    go_wp2
    go_ret
    rw [HS.out]
    exact ⟨rfl, rfl⟩
theorem head_str (s t : ByteArray) : (s ++ ⟨#[32]⟩ ++ t ++ ⟨#[32, 123, 10]⟩ : ByteArray) = ⟨(headT s.data.toList t.data.toList).toArray⟩ := by
  have d1 : (⟨#[32]⟩ : ByteArray) = ⟨([32] : List UInt8).toArray⟩ := rfl
  have d2 : (⟨#[32, 123, 10]⟩ : ByteArray) = ⟨([32, 123, 10] : List UInt8).toArray⟩ := rfl
  rw [str_of s, str_of t, d1, d2, str_add, str_add, str_add]
  simp [headT]
theorem head_s (s t : ByteArray) (hs : s.size ≤ 100) (ht : t.size ≤ 1099511627776) (w : World) :
    Calls Tryz.prog 15 #[.string s, .string t] w fun e w' => e = .returned (.string ⟨(headT s.data.toList t.data.toList).toArray⟩) ∧ w' = w := by
  have HS : Hid ((s ++ ⟨#[32]⟩ ++ t ++ ⟨#[32, 123, 10]⟩ : ByteArray) = ⟨(headT s.data.toList t.data.toList).toArray⟩) := head_str s t
  have z1 := size_one 32
  have z2 : (⟨#[32, 123, 10]⟩ : ByteArray).size = 3 := rfl
  go_enter Tryz.func15, Tryz.ntmps15
  go_wp2
  go_ret
  rw [HS.out]
  exact ⟨rfl, rfl⟩
/-- Tags up to a bit. -/
def tagU (bits : Nat) : Nat → Bs
  | 0 => []
  | k + 1 => tagU bits k ++ (if bits / 2 ^ k % 2 = 1 then [32, UInt8.ofNat (48 + k)] else [])
theorem tagU_all (bits : Nat) : tagU bits 4 = tagN bits 4 0 := by simp [tagU, tagN]
theorem tagU_len (bits : Nat) : ∀ k, (tagU bits k).length ≤ 2 * k
  | 0 => by simp [tagU]
  | k + 1 => by
    have := tagU_len bits k
    unfold tagU
    split <;> simp <;> omega
theorem tag_str (s t : ByteArray) : (⟨#[32]⟩ ++ s ++ t : ByteArray) = ⟨(32 :: s.data.toList ++ t.data.toList).toArray⟩ := by
  have d1 : (⟨#[32]⟩ : ByteArray) = ⟨([32] : List UInt8).toArray⟩ := rfl
  rw [str_of s, str_of t, d1, str_add, str_add]
  simp
theorem tag_bit (n k : Nat) (hn : n < 256) : bits BinOp.and IntKind.u8 ((n : Int) / 2 ^ k) 1 = (n / 2 ^ k % 2 : Nat) := by
  have e : ((n : Int) / 2 ^ k) = ((n / 2 ^ k : Nat) : Int) := by simp
  have h := u8_and_nat (n / 2 ^ k) 1 (Nat.lt_of_le_of_lt (Nat.div_le_self _ _) hn) (by decide)
  rw [nat_mask1] at h
  rw [e]
  exact h
theorem itoa_nat (k : Nat) : itoa (k : Int) = decDigits k := itoa_nonneg k
theorem tag_step {n k : Nat} (hk : k < 4) {X t : ByteArray} (hX : X = ⟨(tagU n k).toArray⟩) (ht : t = ⟨(itoa (k : Int)).toArray⟩) (h : n / 2 ^ k % 2 = 1) : (X ++ (⟨#[32]⟩ ++ t) : ByteArray) = ⟨(tagU n (k + 1)).toArray⟩ := by
  have d1 : (⟨#[32]⟩ : ByteArray) = ⟨([32] : List UInt8).toArray⟩ := rfl
  rw [hX, ht, d1, str_add, str_add, itoa_nat, decDigits_one (by omega), show tagU n (k + 1) = tagU n k ++ (if n / 2 ^ k % 2 = 1 then [32, UInt8.ofNat (48 + k)] else []) from rfl, if_pos h]
  rfl
theorem tag_skip {n k : Nat} (h : n / 2 ^ k % 2 ≠ 1) : tagU n (k + 1) = tagU n k := by
  show tagU n k ++ _ = _
  rw [if_neg h, List.append_nil]
theorem tags_end {n : Nat} {X s : ByteArray} (hX : X = ⟨(tagU n 4).toArray⟩) (h : X.toList.isEmpty = false) : (⟨#[32]⟩ ++ s ++ X : ByteArray) = ⟨(tagsT s.data.toList n).toArray⟩ := by
  rw [tag_str, hX]
  rw [hX, ByteArray.toList_eq] at h
  unfold tagsT
  rw [← tagU_all, if_neg (by simpa using h)]
theorem tags_nil {n : Nat} {X s : ByteArray} (hX : X = ⟨(tagU n 4).toArray⟩) (h : X.toList.isEmpty = true) : (⟨#[]⟩ : ByteArray) = ⟨(tagsT s.data.toList n).toArray⟩ := by
  rw [hX, ByteArray.toList_eq] at h
  unfold tagsT
  rw [← tagU_all, if_pos (by simpa using h)]
set_option maxHeartbeats 4000000 in
set_option maxRecDepth 20000 in
theorem tags_s (s : ByteArray) (hs : s.size ≤ 100) (n : Nat) (hn : n < 256) (w : World) (ht : TabP w) :
    Calls Tryz.prog 30 #[.string s, .int .u8 n] w fun e w' => e = .returned (.string ⟨(tagsT s.data.toList n).toArray⟩) ∧ Below w.heap.size w w' := by
  have hbit := fun k => tag_bit n k hn
  have HC : Hid (∀ (k : Nat), k < 4 → ∀ w, TabP w → Calls Tryz.prog 34 #[.int .i64 k] w fun e w' => e = .returned (.string ⟨(itoa (k : Int)).toArray⟩) ∧ Below w.heap.size w w') := fun k hk w h => itoa_all (k : Int) (by omega) (by omega) w h
  have z1 := size_one 32
  go_enter Tryz.func30, Tryz.ntmps30
  go_wp2_with fail
  go_loopg [5, 6, 7] 4 (fun g v i j wr => ∃ (k : Nat) (X : ByteArray), k + g = 4 ∧ j = .int .i64 k ∧ v = .string X ∧ Hid (X = ⟨(tagU n k).toArray⟩) ∧ Below w.heap.size w wr)
  case atStart => exact ⟨0, ⟨#[]⟩, rfl, rfl, rfl, (rfl : _ = _), Below.refl _ _⟩
  case round =>
    obtain ⟨k, X, hk, rfl, rfl, HX, hb⟩ := hrel
    have hX : X.size ≤ 2 * k := by rw [HX.out, str_size]; exact tagU_len n k
    by_cases hlt : k < 4
    · have d4 : decide ((k : Int) < 4) = true := decide_eq_true (by omega)
      by_cases ht1 : n / 2 ^ k % 2 = 1
      · have t1 : ((n : Int) / 2 ^ k % 2 == 1) = true := by
          have : ((n : Int) / 2 ^ k % 2) = ((n / 2 ^ k % 2 : Nat) : Int) := by simp
          rw [this, ht1]
          rfl
        have hc := HC.out k hlt
        obtain ⟨t, htt⟩ : ∃ t : ByteArray, t = ⟨(itoa (k : Int)).toArray⟩ := ⟨_, rfl⟩
        rw [← htt] at hc
        have zt : t.size ≤ 20 := by rw [htt, str_size]; exact itoa_len (by omega) (by omega)
        have HN : Hid ((X ++ (⟨#[32]⟩ ++ t) : ByteArray) = ⟨(tagU n (k + 1)).toArray⟩) := tag_step hlt HX.out htt ht1
        clear htt ht1
        go_wp2_with (go_at_call 34; refine (hc _ (ht.below hb)).mono ?_; rintro e w1 ⟨rfl, q⟩)
        go_roundg (4 - (k + 1))
        case measure => omega
        case rel => exact ⟨k + 1, _, by omega, by go_num, rfl, HN, bel_up hb q hb.size⟩
      · have t1 : ((n : Int) / 2 ^ k % 2 == 1) = false := by
          have : ((n : Int) / 2 ^ k % 2) = ((n / 2 ^ k % 2 : Nat) : Int) := by simp
          rw [this, beq_eq_false_iff_ne]
          omega
        have HN : Hid (X = ⟨(tagU n (k + 1)).toArray⟩) := by show X = _; rw [tag_skip ht1]; exact HX.out
        clear ht1
        go_wp2_with fail
        go_roundg (4 - (k + 1))
        case measure => omega
        case rel => exact ⟨k + 1, _, by omega, by go_num, rfl, HN, hb⟩
    · obtain rfl : k = 4 := by omega
      cases hem : X.toList.isEmpty with
      | true =>
        have HN : Hid ((⟨#[]⟩ : ByteArray) = ⟨(tagsT s.data.toList n).toArray⟩) := tags_nil HX.out hem
        go_wp2_with fail
        go_ret
        rw [← HN.out]
        exact ⟨rfl, hb⟩
      | false =>
        have HN : Hid ((⟨#[32]⟩ ++ s ++ X : ByteArray) = ⟨(tagsT s.data.toList n).toArray⟩) := tags_end HX.out hem
        go_wp2_with fail
        go_ret
        rw [HN.out]
        exact ⟨rfl, hb⟩
end Go.Proofs.YtejhgifadohbiaaGreatDoor
