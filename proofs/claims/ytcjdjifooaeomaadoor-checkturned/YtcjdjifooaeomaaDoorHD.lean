/- What digits and text do. -/
import Derived.Test.YtcjdjifooaeomaaDoorHB
import Derived.Deep.RegionWith
import Derived.Laws.Strings3
import Derived.Laws.DeepStrings4
namespace Go.Proofs.YtcjdjifooaeomaaDoor
open Go.RowKit Go.Lib

/-- A text as a value. -/
def strV (l : List UInt8) : Value := .string ⟨l.toArray⟩
theorem dig_fin : ∀ i : Fin 10, (⟨#[48, 49, 50, 51, 52, 53, 54, 55, 56, 57]⟩ : ByteArray).extract i.val (i.val + 1) = ⟨#[UInt8.ofNat (48 + i.val)]⟩ := by decide +kernel
theorem dig_piece (n : Nat) (hn : n < 10) : Value.string ((⟨#[48, 49, 50, 51, 52, 53, 54, 55, 56, 57]⟩ : ByteArray).extract n (n + 1)) = strV (decDigits n) := by
  rw [decDigits_one hn]
  exact congrArg Value.string (dig_fin ⟨n, hn⟩)
/-- Texts put together. -/
theorem str_add (x y : List UInt8) : (⟨x.toArray⟩ : ByteArray) ++ ⟨y.toArray⟩ = ⟨(x ++ y).toArray⟩ := by
  apply ByteArray.ext
  rw [ByteArray.data_append]
  simp
theorem str_size (x : List UInt8) : (⟨x.toArray⟩ : ByteArray).size = x.length := by simp [ByteArray.size]
theorem dec_len {n : Nat} (h : n < 1000) : (decDigits n).length ≤ 3 ∧ 1 ≤ (decDigits n).length := by
  rw [dec_is h]
  unfold dec3
  split
  · simp
  · split <;> simp
theorem mask_int (a k : Nat) (ha : a < 4294967296) : bits BinOp.and IntKind.u32 ((a : Int) / k) 255 = (a / k % 256 : Nat) := by
  have e : ((a : Int) / k) = ((a / k : Nat) : Int) := by simp
  have h := u32_and_nat (a / k) 255 (Nat.lt_of_le_of_lt (Nat.div_le_self _ _) ha) (by decide)
  rw [nat_mask8] at h
  rw [e]
  exact h
theorem text_strs (a b : Nat) (s1 s2 s3 s4 s5 : ByteArray) (e1 : s1 = ⟨(decDigits (a / 16777216)).toArray⟩) (e2 : s2 = ⟨(decDigits (a / 65536 % 256)).toArray⟩) (e3 : s3 = ⟨(decDigits (a / 256 % 256)).toArray⟩) (e4 : s4 = ⟨(decDigits (a % 256)).toArray⟩) (e5 : s5 = ⟨(decDigits b).toArray⟩) :
    Value.string (s1 ++ ⟨#[46]⟩ ++ s2 ++ ⟨#[46]⟩ ++ s3 ++ ⟨#[46]⟩ ++ s4 ++ ⟨#[47]⟩ ++ s5) = strV (textP a b) := by
  subst e1 e2 e3 e4 e5
  have d : (⟨#[46]⟩ : ByteArray) = ⟨([46] : List UInt8).toArray⟩ := rfl
  have d' : (⟨#[47]⟩ : ByteArray) = ⟨([47] : List UInt8).toArray⟩ := rfl
  unfold strV textP
  rw [d, d']
  simp only [str_add]
theorem size_dot : (⟨#[46]⟩ : ByteArray).size = 1 := rfl
theorem size_stroke : (⟨#[47]⟩ : ByteArray).size = 1 := rfl
end Go.Proofs.YtcjdjifooaeomaaDoor
