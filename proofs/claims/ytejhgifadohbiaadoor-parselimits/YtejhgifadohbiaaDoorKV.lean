/- Numbers in base 10 as tokens. No program. -/
import Derived.Test.YtejhgifadohbiaaDoorKS
namespace Go.Proofs.YtejhgifadohbiaaDoor
open Go.Lib

theorem ofNat_dig {r : Nat} (h : r < 10) : digP (UInt8.ofNat (48 + r)) = true ∧ (UInt8.ofNat (48 + r)).toNat = 48 + r := by
  have e : (UInt8.ofNat (48 + r)).toNat = 48 + r := by
    rw [UInt8.toNat_ofNat']
    omega
  refine ⟨?_, e⟩
  unfold digP
  rw [e]
  simp
  omega
theorem dec_dig (n : Nat) : ∀ c ∈ decDigits n, digP c = true := by
  induction n using Nat.strongRecOn with
  | _ n ih =>
    intro c hc
    by_cases h : n < 10
    · rw [decDigits_one h] at hc
      obtain rfl := List.mem_singleton.1 hc
      exact (ofNat_dig h).1
    · rw [decDigits, dif_neg h] at hc
      rcases List.mem_append.1 hc with h1 | h1
      · exact ih (n / 10) (by omega) c h1
      · obtain rfl := List.mem_singleton.1 h1
        exact (ofNat_dig (by omega)).1
theorem acc_app : ∀ (l r : List UInt8) (m : Nat), accP m (l ++ r) = (accP m l).bind fun k => accP k r
  | [], r, m => rfl
  | c :: l, r, m => by
    rw [List.cons_append, accP, accP]
    split
    · rfl
    · exact acc_app l r _
theorem dig_nat {c : UInt8} (h : digP c = true) : 48 ≤ c.toNat ∧ c.toNat ≤ 57 := by
  unfold digP at h
  simpa using h
theorem acc_one {m : Nat} {c : UInt8} (h : digP c = true) : accP m [c] = some (m * 10 + (c.toNat - 48)) := by
  have := dig_nat h
  rw [accP, if_neg (by rw [u8_lt, u8_gt]; omega), accP]
theorem acc_dec (n : Nat) : accP 0 (decDigits n) = some n := by
  induction n using Nat.strongRecOn with
  | _ n ih =>
    by_cases h : n < 10
    · rw [decDigits_one h, acc_one (ofNat_dig h).1, (ofNat_dig h).2]
      congr 1
      omega
    · have hr : n % 10 < 10 := by omega
      rw [decDigits, dif_neg h, acc_app, ih (n / 10) (by omega), Option.bind_some, acc_one (ofNat_dig hr).1, (ofNat_dig hr).2]
      congr 1
      omega
theorem dec_pos (n : Nat) : 1 ≤ (decDigits n).length := by
  rw [decDigits]
  split
  · simp
  · simp
theorem dec_le : ∀ (k n : Nat), n < 10 ^ (k + 1) → (decDigits n).length ≤ k + 1
  | 0, n, h => by rw [decDigits_one (by simpa using h)]; simp
  | k + 1, n, h => by
    by_cases h1 : n < 10
    · rw [decDigits_one h1]; simp
    · have := dec_le k (n / 10) (by rw [Nat.pow_succ] at h; omega)
      rw [decDigits, dif_neg h1, List.length_append]
      simp
      omega
theorem dec_ge : ∀ (k n : Nat), 10 ^ k ≤ n → k + 1 ≤ (decDigits n).length
  | 0, n, _ => dec_pos n
  | k + 1, n, h => by
    have hp : 1 ≤ 10 ^ k := Nat.one_le_pow _ _ (by decide)
    have h1 : ¬ n < 10 := by rw [Nat.pow_succ] at h; omega
    have := dec_ge k (n / 10) (by rw [Nat.pow_succ] at h; omega)
    rw [decDigits, dif_neg h1, List.length_append]
    simp
    omega
theorem dec_head (n : Nat) (h : 1 ≤ n) : (decDigits n).head? ≠ some 48 := by
  induction n using Nat.strongRecOn with
  | _ n ih =>
    by_cases h1 : n < 10
    · rw [decDigits_one h1]
      intro e
      have e2 : UInt8.ofNat (48 + n) = 48 := by simpa using e
      have e3 := (ofNat_dig h1).2
      rw [e2] at e3
      have : (48 : UInt8).toNat = 48 := rfl
      omega
    · rw [decDigits, dif_neg h1]
      have hp := dec_pos (n / 10)
      intro e
      apply ih (n / 10) (by omega) (by omega)
      rw [List.head?_append] at e
      cases hd : (decDigits (n / 10)).head? with
      | none => rw [List.head?_eq_none_iff] at hd; rw [hd] at hp; simp at hp
      | some c => rw [hd] at e; simpa using e
theorem dig_prt {c : UInt8} (h : digP c = true) : prtP c = true := by
  unfold prtP
  rw [h]
  simp
theorem span_all {p : UInt8 → Bool} : ∀ {l : List UInt8}, (∀ c ∈ l, p c = true) → spanN p l = l.length
  | [], _ => rfl
  | c :: r, h => by
    rw [spanN, if_pos (h c (List.mem_cons_self ..)), span_all (fun x hx => h x (List.mem_cons_of_mem _ hx))]
    rfl
/-- A piece of digits is a number or none. -/
theorem piece_digs {l : List UInt8} (h : ∀ c ∈ l, digP c = true) : pieceP l = (tnP l).map fun n => ⟨2, l, n, 0, 0, 0⟩ := by
  have hn : nameP l = false := by
    unfold nameP
    cases l with
    | nil => rfl
    | cons c r =>
      have hd := dig_nat (h c (List.mem_cons_self ..))
      have e : hdP (c :: r) = false := by
        show letP c = false
        unfold letP
        simp
        omega
      rw [e]
      simp
  have hp : parseP l = none := by
    cases hq : parseP l with
    | none => rfl
    | some r =>
      obtain ⟨a, b⟩ := r
      have e : l = textP a b := (parse_is hq).2.2
      have h46 : (46 : UInt8) ∈ l := by rw [e]; simp [textP]
      have := dig_nat (h _ h46)
      have e46 : (46 : UInt8).toNat = 46 := rfl
      omega
  unfold pieceP
  rw [hn, hp]
  cases tnP l <;> rfl
/-- The tokens of a text of digits. -/
theorem toks_digs {l : List UInt8} (h0 : 1 ≤ l.length) (h : ∀ c ∈ l, digP c = true) :
    toks l 0 0 = match tnP l with | none => .inl 0 | some n => .inr [⟨2, l, n, 0, 0, 0⟩, endT l.length] := by
  cases l with
  | nil => simp at h0
  | cons c r =>
    have hd := dig_nat (h c (List.mem_cons_self ..))
    have hb : blkP c = false := by unfold blkP; simp; omega
    have hs : sgnP c = false := by unfold sgnP; simp; omega
    have hsp : spanN prtP (c :: r) = (c :: r).length := span_all fun x hx => dig_prt (h x hx)
    rw [toks, if_neg (by rw [hb]; simp), if_neg (by omega), if_neg (by rw [hs]; simp), hsp, List.take_length, piece_digs h]
    cases hm : tnP (c :: r) with
    | none => rfl
    | some n =>
      simp only [Option.map_some]
      rw [toks_skip _ _ _ (by simp), List.length_cons, Nat.add_sub_cancel, List.drop_length]
      simp only [toks, addT, atT, endT, List.cons_append, List.nil_append]
      congr 4
      omega
theorem tn_dec {n : Nat} (h : n < 1000000) : tnP (decDigits n) = some n := by
  unfold tnP
  have h1 := dec_pos n
  have h2 := dec_le 5 n (by simpa using h)
  rw [if_neg, acc_dec]
  rintro (h3 | h3 | ⟨h3, h4⟩)
  · omega
  · omega
  · by_cases h5 : 1 ≤ n
    · exact dec_head n h5 h4
    · rw [decDigits_one (by omega)] at h3
      simp at h3
theorem tn_big {n : Nat} (h : 1000000 ≤ n) : tnP (decDigits n) = none := by
  unfold tnP
  have := dec_ge 6 n (by simpa using h)
  rw [if_pos (by omega)]
theorem tn_nought (n : Nat) : tnP (48 :: decDigits n) = none := by
  unfold tnP
  have := dec_pos n
  rw [if_pos (.inr (.inr ⟨by simp; omega, rfl⟩))]
end Go.Proofs.YtejhgifadohbiaaDoor
