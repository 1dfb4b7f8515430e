/- Prefixes as plain numbers and texts: which may be, which cover which, what their texts are, and what is read of a text. No program. -/
import Derived.Lib.ItoaNum
import Derived.Lib.Bytealg
namespace Go.Proofs.Ytphhfjfdanlhiaa
open Go.Lib

/-- It may be: its bits behind are 0. -/
def mayP (a : Nat) (b : Int) : Bool := decide (0 ≤ b ∧ b ≤ 32 ∧ a % 2 ^ (32 - b.toNat) = 0)
/-- An address's first bits alone. -/
def fstP (a b : Nat) : Nat := a / 2 ^ (32 - b) * 2 ^ (32 - b)
theorem fst_eq (a b : Nat) : fstP a b = a ↔ a % 2 ^ (32 - b) = 0 := by
  unfold fstP
  have h := Nat.div_add_mod a (2 ^ (32 - b))
  rw [Nat.mul_comm] at h
  constructor <;> intro h' <;> omega
theorem fst_lt (a b : Nat) (h : a < 2 ^ 32) : fstP a b < 2 ^ 32 := by
  unfold fstP
  exact Nat.lt_of_le_of_lt (Nat.div_mul_le_self _ _) h

/-- Low bits are 0, each one. -/
theorem low_bits (a : Nat) : ∀ n, a % 2 ^ n = 0 ↔ ∀ i, i < n → a / 2 ^ i % 2 = 0
  | 0 => by simp [Nat.mod_one]
  | n + 1 => by
    rw [Nat.mod_pow_succ]
    have ih := low_bits a n
    constructor
    · intro h i hi
      have h1 : a % 2 ^ n = 0 := by omega
      have h2 : 2 ^ n * (a / 2 ^ n % 2) = 0 := by omega
      rcases Nat.lt_or_ge i n with h3 | h3
      · exact ih.1 h1 i h3
      · obtain rfl : i = n := by omega
        rcases Nat.mul_eq_zero.1 h2 with h4 | h4
        · exact absurd h4 (by have := Nat.two_pow_pos i; omega)
        · exact h4
    · intro h
      rw [ih.2 (fun i hi => h i (by omega)), h n (by omega)]
      simp
theorem bit_test (x i : Nat) : x.testBit i = decide (x / 2 ^ i % 2 = 1) := Nat.testBit_eq_decide_div_mod_eq ..
/-- High bits are the same, each one. -/
theorem high_bits {x y n : Nat} (hx : x < 2 ^ 32) (hy : y < 2 ^ 32) : x / 2 ^ n = y / 2 ^ n ↔ ∀ i, n ≤ i → i < 32 → x / 2 ^ i % 2 = y / 2 ^ i % 2 := by
  constructor
  · intro h i hi _
    obtain ⟨j, rfl⟩ : ∃ j, i = n + j := ⟨i - n, by omega⟩
    rw [Nat.pow_add, ← Nat.div_div_eq_div_mul, ← Nat.div_div_eq_div_mul, h]
  · intro h
    apply Nat.eq_of_testBit_eq
    intro j
    rw [Nat.testBit_div_two_pow, Nat.testBit_div_two_pow]
    rcases Nat.lt_or_ge (j + n) 32 with h1 | h1
    · rw [bit_test, bit_test, h (j + n) (by omega) h1]
    · rw [Nat.testBit_lt_two_pow (Nat.lt_of_lt_of_le hx (Nat.pow_le_pow_right (by decide) h1)), Nat.testBit_lt_two_pow (Nat.lt_of_lt_of_le hy (Nat.pow_le_pow_right (by decide) h1))]

/-- By bits: it may be. -/
theorem may_bits {a : Nat} {b : Int} (h0 : 0 ≤ b) (h1 : b ≤ 32) : mayP a b = true ↔ ∀ k : Nat, b ≤ k → k < 32 → a / 2 ^ (31 - k) % 2 = 0 := by
  unfold mayP
  rw [decide_eq_true_iff, low_bits]
  constructor
  · rintro ⟨_, _, h⟩ k hk hk'
    exact h _ (by omega)
  · intro h
    refine ⟨h0, h1, fun i hi => ?_⟩
    have := h (31 - i) (by omega) (by omega)
    rwa [show 31 - (31 - i) = i by omega] at this
theorem may_not {a : Nat} {b : Int} (h : b < 0 ∨ 32 < b) : mayP a b = false := by
  unfold mayP
  rw [decide_eq_false_iff_not]
  omega
theorem may_bounds {a : Nat} {b : Int} (h : mayP a b = true) : 0 ≤ b ∧ b ≤ 32 ∧ a % 2 ^ (32 - b.toNat) = 0 := by
  unfold mayP at h
  exact of_decide_eq_true h
theorem may_first {a : Nat} {b : Int} (h0 : 0 ≤ b) (h1 : b ≤ 32) : mayP a b = decide (fstP a b.toNat = a) := by
  unfold mayP
  rw [decide_eq_decide, fst_eq]
  exact ⟨fun h => h.2.2, fun h => ⟨h0, h1, h⟩⟩

/-- One covers another one. -/
def covP (a : Nat) (b : Int) (c : Nat) (d : Int) : Bool := mayP a b && mayP c d && decide (b ≤ d) && decide (fstP c b.toNat = a)
theorem cov_bits {a c : Nat} {b d : Int} (ha : a < 2 ^ 32) (hc : c < 2 ^ 32) (h1 : mayP a b = true) (h2 : mayP c d = true) (h3 : b ≤ d) :
    covP a b c d = true ↔ ∀ k : Nat, (k : Int) < b → a / 2 ^ (31 - k) % 2 = c / 2 ^ (31 - k) % 2 := by
  obtain ⟨hb0, hb1, hm⟩ := may_bounds h1
  have e := Nat.div_add_mod a (2 ^ (32 - b.toNat))
  rw [hm, Nat.add_zero, Nat.mul_comm] at e
  unfold covP
  rw [h1, h2, decide_eq_true h3]
  simp only [Bool.true_and, decide_eq_true_iff]
  have hp := Nat.two_pow_pos (32 - b.toNat)
  have e2 : fstP c b.toNat = a ↔ c / 2 ^ (32 - b.toNat) = a / 2 ^ (32 - b.toNat) := by
    unfold fstP
    constructor
    · intro h
      rw [← e] at h
      exact Nat.eq_of_mul_eq_mul_right hp h
    · intro h
      rw [h, e]
  rw [e2, high_bits hc ha]
  constructor
  · intro h k hk
    exact (h (31 - k) (by omega) (by omega)).symm
  · intro h i hi hi'
    have := h (31 - i) (by omega)
    rw [show 31 - (31 - i) = i by omega] at this
    exact this.symm

/-- A prefix's text. -/
def textP (a b : Nat) : List UInt8 := decDigits (a / 16777216) ++ [46] ++ decDigits (a / 65536 % 256) ++ [46] ++ decDigits (a / 256 % 256) ++ [46] ++ decDigits (a % 256) ++ [47] ++ decDigits b

/-- Of up to three digits. -/
def dec3 (n : Nat) : List UInt8 := if n < 10 then [UInt8.ofNat (48 + n)] else if n < 100 then [UInt8.ofNat (48 + n / 10), UInt8.ofNat (48 + n % 10)] else [UInt8.ofNat (48 + n / 100), UInt8.ofNat (48 + n / 10 % 10), UInt8.ofNat (48 + n % 10)]
theorem dec_is {n : Nat} (h : n < 1000) : decDigits n = dec3 n := by
  unfold dec3
  by_cases h1 : n < 10
  · rw [if_pos h1, decDigits_one h1]
  · rw [if_neg h1]
    by_cases h2 : n < 100
    · rw [if_pos h2, decDigits_two h1 h2]
    · rw [if_neg h2, decDigits, dif_neg h1, decDigits_two (by omega) (by omega)]
      simp only [List.cons_append, List.nil_append, Nat.div_div_eq_div_mul]

/-- The number of a numeral's digits. -/
def accP : Nat → List UInt8 → Option Nat
  | n, [] => some n
  | n, c :: l => if c < 48 ∨ 57 < c then none else accP (n * 10 + (c.toNat - 48)) l
/-- The number of 0 to 255 whose text it is. -/
def numP (l : List UInt8) : Option Nat :=
  if l.length < 1 ∨ 3 < l.length ∨ (1 < l.length ∧ l.head? = some 48) then none
  else match accP 0 l with
    | none => none
    | some n => if 255 < n then none else some n
theorem num_dec_fin : ∀ n : Fin 256, numP (dec3 n.val) = some n.val := by decide +kernel
theorem num_dec {n : Nat} (h : n ≤ 255) : numP (decDigits n) = some n := by
  rw [dec_is (by omega)]
  exact num_dec_fin ⟨n, by omega⟩
theorem u8_lt {c : UInt8} : c < 48 ↔ c.toNat < 48 := by rw [UInt8.lt_iff_toNat_lt]; rfl
theorem u8_gt {c : UInt8} : 57 < c ↔ 57 < c.toNat := by rw [UInt8.lt_iff_toNat_lt]; rfl
theorem dig_is {c : UInt8} {n : Nat} (h : n + 48 = c.toNat) : UInt8.ofNat (48 + n) = c := by
  apply UInt8.toNat_inj.1
  rw [UInt8.toNat_ofNat', Nat.add_comm 48 n, h]
  exact Nat.mod_eq_of_lt (UInt8.toNat_lt c)
theorem accP_cons {n : Nat} {c : UInt8} {l : List UInt8} {r : Nat} (h : accP n (c :: l) = some r) : 48 ≤ c.toNat ∧ c.toNat ≤ 57 ∧ accP (n * 10 + (c.toNat - 48)) l = some r := by
  rw [accP] at h
  split at h
  · cases h
  · rename_i hc
    rw [u8_lt, u8_gt] at hc
    exact ⟨by omega, by omega, h⟩
theorem num_is {l : List UInt8} {n : Nat} (h : numP l = some n) : n ≤ 255 ∧ l = decDigits n := by
  unfold numP at h
  split at h
  · cases h
  · rename_i hl
    split at h
    · cases h
    · rename_i m hm
      split at h
      · cases h
      · rename_i hn
        obtain rfl := Option.some.inj h
        refine ⟨by omega, ?_⟩
        rw [dec_is (by omega)]
        match l, hl, hm with
        | [c], _, hm =>
          obtain ⟨h1, h2, h3⟩ := accP_cons hm
          have h4 : 0 * 10 + (c.toNat - 48) = m := by simpa [accP] using h3
          unfold dec3
          rw [if_pos (by omega), dig_is (c := c) (by omega)]
        | [c, d], hl, hm =>
          obtain ⟨h1, h2, h3⟩ := accP_cons hm
          obtain ⟨h5, h6, h7⟩ := accP_cons h3
          have h4 : (0 * 10 + (c.toNat - 48)) * 10 + (d.toNat - 48) = m := by simpa [accP] using h7
          have h8 : c.toNat ≠ 48 := by
            intro hc
            apply hl
            refine Or.inr (Or.inr ⟨by simp, ?_⟩)
            simp only [List.head?_cons, Option.some.injEq]
            exact UInt8.toNat_inj.1 hc
          unfold dec3
          rw [if_neg (by omega), if_pos (by omega), dig_is (c := c) (by omega), dig_is (c := d) (by omega)]
        | [c, d, e], hl, hm =>
          obtain ⟨h1, h2, h3⟩ := accP_cons hm
          obtain ⟨h5, h6, h7⟩ := accP_cons h3
          obtain ⟨h9, h10, h11⟩ := accP_cons h7
          have h4 : ((0 * 10 + (c.toNat - 48)) * 10 + (d.toNat - 48)) * 10 + (e.toNat - 48) = m := by simpa [accP] using h11
          have h8 : c.toNat ≠ 48 := by
            intro hc
            apply hl
            refine Or.inr (Or.inr ⟨by simp, ?_⟩)
            simp only [List.head?_cons, Option.some.injEq]
            exact UInt8.toNat_inj.1 hc
          unfold dec3
          rw [if_neg (by omega), if_neg (by omega), dig_is (c := c) (by omega), dig_is (c := d) (by omega), dig_is (c := e) (by omega)]
        | [], hl, _ => exact absurd (by simp) hl
        | _ :: _ :: _ :: _ :: _, hl, _ => exact absurd (by simp) hl
theorem dec_mem {n : Nat} {c : UInt8} (h : n < 1000) (hc : c ∈ decDigits n) : 48 ≤ c.toNat ∧ c.toNat ≤ 57 := by
  rw [dec_is h] at hc
  unfold dec3 at hc
  have key : ∀ x, x < 10 → (UInt8.ofNat (48 + x)).toNat = 48 + x := by
    intro x hx
    rw [UInt8.toNat_ofNat']
    exact Nat.mod_eq_of_lt (by omega)
  split at hc
  · rename_i h1
    simp only [List.mem_singleton] at hc
    subst hc
    rw [key _ h1]
    omega
  · split at hc
    · simp only [List.mem_cons, List.not_mem_nil, or_false] at hc
      rcases hc with rfl | rfl <;> rw [key _ (by omega)] <;> omega
    · simp only [List.mem_cons, List.not_mem_nil, or_false] at hc
      rcases hc with rfl | rfl | rfl <;> rw [key _ (by omega)] <;> omega

/-- A text cut at a byte's first place. -/
def cutP : List UInt8 → UInt8 → Option (List UInt8 × List UInt8)
  | [], _ => none
  | x :: l, c => if x = c then some ([], l) else (cutP l c).map fun r => (x :: r.1, r.2)
theorem cut_is {c : UInt8} : ∀ {l p q : List UInt8}, cutP l c = some (p, q) → l = p ++ c :: q
  | [], _, _, h => by cases h
  | x :: l, p, q, h => by
    rw [cutP] at h
    split at h
    · rename_i hx
      cases h
      simp [hx]
    · cases hr : cutP l c with
      | none => rw [hr] at h; cases h
      | some r =>
        rw [hr] at h
        cases h
        rw [List.cons_append, ← cut_is hr]
theorem cut_at {c : UInt8} : ∀ {p q : List UInt8}, c ∉ p → cutP (p ++ c :: q) c = some (p, q)
  | [], q, _ => by simp [cutP]
  | x :: p, q, h => by
    rw [List.mem_cons, not_or] at h
    rw [List.cons_append, cutP, if_neg (fun e => h.1 e.symm), cut_at h.2]
    rfl
theorem cut_none {c : UInt8} : ∀ {l : List UInt8}, cutP l c = none ↔ indexByte l c = -1
  | [] => by simp [cutP, indexByte]
  | x :: l => by
    rw [cutP, indexByte]
    by_cases h : x = c
    · simp [h]
    · have ih := cut_none (c := c) (l := l)
      have hg := indexByte_ge l c
      rw [if_neg h, if_neg (by simpa using h), Option.map_eq_none_iff, ih]
      by_cases h2 : indexByte l c = -1
      · simp [h2]
      · rw [if_neg (by simpa using h2)]
        omega
theorem cut_some {c : UInt8} : ∀ {l : List UInt8} {i : Nat}, indexByte l c = i → i < l.length ∧ cutP l c = some (l.take i, l.drop (i + 1))
  | [], i, h => by
    have : (-1 : Int) = (i : Int) := h
    omega
  | x :: l, i, h => by
    rw [indexByte] at h
    rw [cutP]
    by_cases hx : x = c
    · rw [if_pos (by simpa using hx)] at h
      obtain rfl : i = 0 := by omega
      simp [hx]
    · rw [if_neg (by simpa using hx)] at h
      have hg := indexByte_ge l c
      by_cases h2 : indexByte l c = -1
      · rw [if_pos (by simpa using h2)] at h
        omega
      · rw [if_neg (by simpa using h2)] at h
        obtain ⟨j, rfl⟩ : ∃ j, i = j + 1 := ⟨i - 1, by omega⟩
        obtain ⟨h3, h4⟩ := cut_some (c := c) (l := l) (i := j) (by omega)
        rw [if_neg hx, h4]
        exact ⟨by simpa using h3, rfl⟩

/-- A number, and what is behind a byte. -/
def stepP (l : List UInt8) (c : UInt8) : Option (Nat × List UInt8) := (cutP l c).bind fun r => (numP r.1).map fun n => (n, r.2)
theorem step_is {l : List UInt8} {c : UInt8} {n : Nat} {r : List UInt8} (h : stepP l c = some (n, r)) : n ≤ 255 ∧ l = decDigits n ++ c :: r := by
  unfold stepP at h
  cases hc : cutP l c with
  | none => rw [hc] at h; cases h
  | some x =>
    rw [hc] at h
    simp only [Option.bind_some, Option.map_eq_some_iff, Prod.mk.injEq] at h
    obtain ⟨m, hm, rfl, rfl⟩ := h
    obtain ⟨h1, h2⟩ := num_is hm
    exact ⟨h1, by rw [← h2]; exact cut_is hc⟩
theorem step_at {c : UInt8} {n : Nat} {r : List UInt8} (hc : c.toNat < 48) (h : n ≤ 255) : stepP (decDigits n ++ c :: r) c = some (n, r) := by
  unfold stepP
  rw [cut_at (fun hm => by have := dec_mem (by omega) hm; omega)]
  simp [num_dec h]
/-- What is read of a text. -/
def parseP (l : List UInt8) : Option (Nat × Nat) :=
  (stepP l 46).bind fun x => (stepP x.2 46).bind fun y => (stepP y.2 46).bind fun z => (stepP z.2 47).bind fun u => (numP u.2).bind fun b =>
    if mayP (((x.1 * 256 + y.1) * 256 + z.1) * 256 + u.1) b then some (((x.1 * 256 + y.1) * 256 + z.1) * 256 + u.1, b) else none
theorem parse_is {l : List UInt8} {a b : Nat} (h : parseP l = some (a, b)) : mayP a b = true ∧ a < 2 ^ 32 ∧ l = textP a b := by
  unfold parseP at h
  simp only [Option.bind_eq_some_iff] at h
  obtain ⟨⟨n1, l1⟩, h1, ⟨n2, l2⟩, h2, ⟨n3, l3⟩, h3, ⟨n4, l4⟩, h4, b', h5, h6⟩ := h
  split at h6
  · rename_i hm
    cases h6
    obtain ⟨k1, e1⟩ := step_is h1
    obtain ⟨k2, e2⟩ := step_is h2
    obtain ⟨k3, e3⟩ := step_is h3
    obtain ⟨k4, e4⟩ := step_is h4
    obtain ⟨k5, e5⟩ := num_is h5
    refine ⟨hm, by dsimp only; omega, ?_⟩
    dsimp only at e1 e2 e3 e4 e5 ⊢
    unfold textP
    rw [show (((n1 * 256 + n2) * 256 + n3) * 256 + n4) / 16777216 = n1 by omega, show (((n1 * 256 + n2) * 256 + n3) * 256 + n4) / 65536 % 256 = n2 by omega, show (((n1 * 256 + n2) * 256 + n3) * 256 + n4) / 256 % 256 = n3 by omega, show (((n1 * 256 + n2) * 256 + n3) * 256 + n4) % 256 = n4 by omega]
    rw [e1, e2, e3, e4, e5]
    simp
  · cases h6
theorem parse_at {a b : Nat} (hm : mayP a b = true) (ha : a < 2 ^ 32) : parseP (textP a b) = some (a, b) := by
  obtain ⟨_, hb, _⟩ := may_bounds hm
  unfold parseP textP
  simp only [List.append_assoc, List.cons_append, List.nil_append]
  rw [step_at (by decide) (by omega)]
  simp only [Option.bind_some]
  rw [step_at (by decide) (by omega)]
  simp only [Option.bind_some]
  rw [step_at (by decide) (by omega)]
  simp only [Option.bind_some]
  rw [step_at (by decide) (by omega)]
  simp only [Option.bind_some]
  rw [num_dec (by omega)]
  simp only [Option.bind_some]
  rw [show ((a / 16777216 * 256 + a / 65536 % 256) * 256 + a / 256 % 256) * 256 + a % 256 = a by omega, if_pos hm]
theorem text_inj {a b c d : Nat} (h1 : mayP a b = true) (ha : a < 2 ^ 32) (h2 : mayP c d = true) (hc : c < 2 ^ 32) (h : textP a b = textP c d) : a = c ∧ b = d := by
  have := parse_at h1 ha
  rw [h, parse_at h2 hc] at this
  cases this
  exact ⟨rfl, rfl⟩
end Go.Proofs.Ytphhfjfdanlhiaa
