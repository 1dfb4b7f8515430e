/- What the small functions of text do: inner, number, name, head, tags; and Itoa at any number. -/
import Derived.Test.YtcjdjifooaeomaaDoorUA
import Derived.Test.YtcjdjifooaeomaaDoorHC
import Derived.Test.YtcjdjifooaeomaaDoorHD
import Derived.Lib.ItoaMem
import Derived.Laws.BitsAllLaws
import Derived.Laws.ShiftsVarLaws
import Derived.Deep.LoopGhost
import Derived.WalkLawsBesides
namespace Go.Proofs.YtcjdjifooaeomaaDoor
open Go.RowKit Go.Lib

theorem str_of (s : ByteArray) : s = ⟨s.data.toList.toArray⟩ := by
  apply ByteArray.ext
  simp
theorem str_inj {x y : Bs} (h : (⟨x.toArray⟩ : ByteArray) = ⟨y.toArray⟩) : x = y := by
  have := congrArg (fun b : ByteArray => b.data.toList) h
  simpa using this
theorem inn_str (s : ByteArray) : (⟨#[9]⟩ ++ s ++ ⟨#[59, 10]⟩ : ByteArray) = ⟨(innT s.data.toList).toArray⟩ := by
  have d1 : (⟨#[9]⟩ : ByteArray) = ⟨([9] : List UInt8).toArray⟩ := rfl
  have d2 : (⟨#[59, 10]⟩ : ByteArray) = ⟨([59, 10] : List UInt8).toArray⟩ := rfl
  rw [str_of s, d1, d2, str_add, str_add]
  simp [innT]
theorem size_two (a b : UInt8) : (⟨#[a, b]⟩ : ByteArray).size = 2 := rfl
theorem size_one (a : UInt8) : (⟨#[a]⟩ : ByteArray).size = 1 := rfl
/-- A word, and something behind it. -/
theorem wd_str (s t : ByteArray) : (⟨#[32]⟩ ++ s ++ ⟨#[32]⟩ ++ t : ByteArray) = ⟨(32 :: s.data.toList ++ 32 :: t.data.toList).toArray⟩ := by
  have d1 : (⟨#[32]⟩ : ByteArray) = ⟨([32] : List UInt8).toArray⟩ := rfl
  rw [str_of s, str_of t, d1, str_add, str_add, str_add]
  simp
theorem head_str (s t : ByteArray) : (s ++ ⟨#[32]⟩ ++ t ++ ⟨#[32, 123, 10]⟩ : ByteArray) = ⟨(headT s.data.toList t.data.toList).toArray⟩ := by
  have d1 : (⟨#[32]⟩ : ByteArray) = ⟨([32] : List UInt8).toArray⟩ := rfl
  have d2 : (⟨#[32, 123, 10]⟩ : ByteArray) = ⟨([32, 123, 10] : List UInt8).toArray⟩ := rfl
  rw [str_of s, str_of t, d1, d2, str_add, str_add, str_add]
  simp [headT]
/-- Tags up to a bit. -/
def tagU (bits : Nat) : Nat → Bs
  | 0 => []
  | k + 1 => tagU bits k ++ (if bits / 2 ^ k % 2 = 1 then [32, UInt8.ofNat (48 + k)] else [])
theorem tagU_all (bits : Nat) : tagU bits 4 = tagN bits 4 0 := by simp [tagU, tagN]
theorem tagU_len (bits : Nat) : ∀ k, (tagU bits k).length ≤ 2 * k
  | 0 => by simp [tagU]
  | k + 1 => by
    have := tagU_len bits k
    unfold tagU
    split <;> simp <;> omega
theorem tag_str (s t : ByteArray) : (⟨#[32]⟩ ++ s ++ t : ByteArray) = ⟨(32 :: s.data.toList ++ t.data.toList).toArray⟩ := by
  have d1 : (⟨#[32]⟩ : ByteArray) = ⟨([32] : List UInt8).toArray⟩ := rfl
  rw [str_of s, str_of t, d1, str_add, str_add]
  simp
theorem tag_bit (n k : Nat) (hn : n < 256) : bits BinOp.and IntKind.u8 ((n : Int) / 2 ^ k) 1 = (n / 2 ^ k % 2 : Nat) := by
  have e : ((n : Int) / 2 ^ k) = ((n / 2 ^ k : Nat) : Int) := by simp
  have h := u8_and_nat (n / 2 ^ k) 1 (Nat.lt_of_le_of_lt (Nat.div_le_self _ _) hn) (by decide)
  rw [nat_mask1] at h
  rw [e]
  exact h
theorem itoa_nat (k : Nat) : itoa (k : Int) = decDigits k := itoa_nonneg k
theorem tag_step {n k : Nat} (hk : k < 4) {X t : ByteArray} (hX : X = ⟨(tagU n k).toArray⟩) (ht : t = ⟨(itoa (k : Int)).toArray⟩) (h : n / 2 ^ k % 2 = 1) : (X ++ (⟨#[32]⟩ ++ t) : ByteArray) = ⟨(tagU n (k + 1)).toArray⟩ := by
  have d1 : (⟨#[32]⟩ : ByteArray) = ⟨([32] : List UInt8).toArray⟩ := rfl
  rw [hX, ht, d1, str_add, str_add, itoa_nat, decDigits_one (by omega), show tagU n (k + 1) = tagU n k ++ (if n / 2 ^ k % 2 = 1 then [32, UInt8.ofNat (48 + k)] else []) from rfl, if_pos h]
  rfl
theorem tag_skip {n k : Nat} (h : n / 2 ^ k % 2 ≠ 1) : tagU n (k + 1) = tagU n k := by
  show tagU n k ++ _ = _
  rw [if_neg h, List.append_nil]
theorem tags_end {n : Nat} {X s : ByteArray} (hX : X = ⟨(tagU n 4).toArray⟩) (h : X.toList.isEmpty = false) : (⟨#[32]⟩ ++ s ++ X : ByteArray) = ⟨(tagsT s.data.toList n).toArray⟩ := by
  rw [tag_str, hX]
  rw [hX, ByteArray.toList_eq] at h
  unfold tagsT
  rw [← tagU_all, if_neg (by simpa using h)]
theorem tags_nil {n : Nat} {X s : ByteArray} (hX : X = ⟨(tagU n 4).toArray⟩) (h : X.toList.isEmpty = true) : (⟨#[]⟩ : ByteArray) = ⟨(tagsT s.data.toList n).toArray⟩ := by
  rw [hX, ByteArray.toList_eq] at h
  unfold tagsT
  rw [← tagU_all, if_pos (by simpa using h)]
end Go.Proofs.YtcjdjifooaeomaaDoor
