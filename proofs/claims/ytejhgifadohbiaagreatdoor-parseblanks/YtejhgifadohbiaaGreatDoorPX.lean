/- Where tokens stand in their text. No program. Numbers in base 10 as tokens. No program. A text whose tokens are laid with blanks between has the same tokens. No program. Configurations as plain data, and their texts. No program. Texts that are laid out of tokens, one behind the other. No program. What tokens a configuration's text has. No program. Blanks and remarks put in between tokens change nothing but places. No program. What numbers make is sound; a sound configuration's text has no remark. No program. What is read of tokens, as the document says: plain data. No program. What a reader that goes from token to token does, as a function of where it is. Plain data, no program. A sound configuration is read of its own tokens. No program. Maps, routers and whole configurations are read of their own tokens. No program. What is read is sound, and ends as it should. No program. Which errors there are, and where. No program. A text of which the end is cut off. No program. What is read has a text that is not much longer than what it is read of. No program. What is sound may be, and is small. No program. -/
import Derived.Test.YtejhgifadohbiaaGreatDoorKA
import Derived.Laws.AppendOwn
import Derived.Test.YtejhgifadohbiaaGreatDoorOW
import Derived.Test.YtejhgifadohbiaaGreatDoorHA
namespace Go.Proofs.YtejhgifadohbiaaGreatDoor
open Go.Lib

/-- Tokens stand one behind the other, from a place on, and are these bytes of the text. -/
def PlOk (l : List UInt8) : Nat → List Tk → Prop
  | _, [] => True
  | a, t :: r => a ≤ t.pl ∧ t.pl + t.text.length ≤ l.length ∧ (l.drop t.pl).take t.text.length = t.text ∧ PlOk l (t.pl + t.text.length) r
/-- The last one stands at the end. -/
def LastAt (n : Nat) : List Tk → Prop
  | [] => False
  | [t] => t.pl = n
  | _ :: r => LastAt n r
theorem pl_mono {l : List UInt8} {a b : Nat} (h : a ≤ b) : ∀ {ts : List Tk}, PlOk l b ts → PlOk l a ts
  | [], _ => trivial
  | _ :: _, hp => ⟨Nat.le_trans h hp.1, hp.2⟩
theorem last_cons {n : Nat} {t : Tk} : ∀ {r : List Tk}, LastAt n r → LastAt n (t :: r)
  | [], h => h.elim
  | _ :: _, h => h
theorem last_pos {n : Nat} : ∀ {r : List Tk}, LastAt n r → 0 < r.length
  | [], h => h.elim
  | _ :: _, _ => Nat.succ_pos _
theorem last_get {n : Nat} : ∀ {r : List Tk}, LastAt n r → ∃ t, r[r.length - 1]? = some t ∧ t.pl = n
  | [], h => h.elim
  | [t], h => ⟨t, rfl, h⟩
  | _ :: y :: r, h => by
    obtain ⟨t, h1, h2⟩ := last_get (r := y :: r) h
    exact ⟨t, by simpa using h1, h2⟩
/-- What a text is from a place on: passed over, a token ahead, or nothing. -/
theorem from_ways {l : List UInt8} {i : Nat} (h : i < l.length) :
    (∃ j, i < j ∧ j ≤ l.length ∧ fromT l i = fromT l j) ∨
    (∃ t : Tk, t.pl = i ∧ 1 ≤ t.text.length ∧ i + t.text.length ≤ l.length ∧ (l.drop i).take t.text.length = t.text ∧ fromT l i = addT [t] (fromT l (i + t.text.length))) ∨
    fromT l i = .inl i := by
  by_cases hb : blkP (l.getD i 0) = true
  · exact .inl ⟨i + 1, by omega, by omega, from_blk h hb⟩
  have hb' : blkP (l.getD i 0) = false := by simpa using hb
  by_cases hr : (l.getD i 0).toNat = 35
  · refine .inl ⟨_, ?_, span_in (by omega), from_rem h hb' hr⟩
    have := span_go (p := nlfP) h (by unfold nlfP; rw [hr]; rfl)
    omega
  by_cases hs : sgnP (l.getD i 0) = true
  · refine .inr (.inl ⟨⟨4, [l.getD i 0], 0, 0, 0, i⟩, rfl, Nat.le_refl _, h, ?_, from_sgn h hb' hr hs⟩)
    rw [drop_at h]
    rfl
  have hs' : sgnP (l.getD i 0) = false := by simpa using hs
  cases hp : pieceP (pcAt l i) with
  | none => exact .inr (.inr (from_bad h hb' hr hs' hp))
  | some t =>
    obtain ⟨h1, h2⟩ := from_pc h hb' hr hs' hp
    have ht := piece_text hp
    have hle := span_in (p := prtP) (l := l) (i := i) (by omega)
    have hlen : (pcAt l i).length = spanN prtP (l.drop i) := by
      unfold pcAt
      rw [List.length_take, List.length_drop]
      omega
    have hat : (atT t i).text = pcAt l i := ht
    refine .inr (.inl ⟨atT t i, rfl, ?_, ?_, ?_, ?_⟩)
    · rw [hat, hlen]; exact h2
    · rw [hat, hlen]; exact hle
    · rw [hat, hlen]; rfl
    · rw [hat, hlen]; exact h1
theorem from_places (l : List UInt8) : ∀ (n i : Nat), i ≤ l.length → l.length - i ≤ n →
    match fromT l i with
    | .inl k => k ≤ l.length
    | .inr ts => PlOk l i ts ∧ LastAt l.length ts := by
  intro n
  induction n with
  | zero =>
    intro i hi hn
    obtain rfl : i = l.length := by omega
    rw [from_end (Nat.le_refl _)]
    exact ⟨⟨Nat.le_refl _, Nat.le_refl _, rfl, trivial⟩, rfl⟩
  | succ n ih =>
    intro i hi hn
    by_cases h : i < l.length
    · rcases from_ways h with ⟨j, h1, h2, h3⟩ | ⟨t, h1, h2, h3, h4, h5⟩ | h3
      · have := ih j h2 (by omega)
        rw [h3]
        cases hf : fromT l j with
        | inl k => rw [hf] at this; exact this
        | inr ts => rw [hf] at this; exact ⟨pl_mono (by omega) this.1, this.2⟩
      · have := ih (i + t.text.length) h3 (by omega)
        rw [h5]
        cases hf : fromT l (i + t.text.length) with
        | inl k => rw [hf] at this; exact this
        | inr ts =>
          rw [hf] at this
          exact ⟨⟨by omega, by omega, by rw [h1]; exact h4, by rw [h1]; exact this.1⟩, last_cons this.2⟩
      · rw [h3]
        exact hi
    · obtain rfl : i = l.length := by omega
      rw [from_end (Nat.le_refl _)]
      exact ⟨⟨Nat.le_refl _, Nat.le_refl _, rfl, trivial⟩, rfl⟩
theorem toks_places (l : List UInt8) :
    match toks l 0 0 with
    | .inl k => k ≤ l.length
    | .inr ts => PlOk l 0 ts ∧ LastAt l.length ts := from_places l _ 0 (Nat.zero_le _) (Nat.le_refl _)
end Go.Proofs.YtejhgifadohbiaaGreatDoor
namespace Go.Proofs.YtejhgifadohbiaaGreatDoor
open Go.Lib

theorem ofNat_dig {r : Nat} (h : r < 10) : digP (UInt8.ofNat (48 + r)) = true ∧ (UInt8.ofNat (48 + r)).toNat = 48 + r := by
  have e : (UInt8.ofNat (48 + r)).toNat = 48 + r := by
    rw [UInt8.toNat_ofNat']
    omega
  refine ⟨?_, e⟩
  unfold digP
  rw [e]
  simp
  omega
theorem dec_dig (n : Nat) : ∀ c ∈ decDigits n, digP c = true := by
  induction n using Nat.strongRecOn with
  | _ n ih =>
    intro c hc
    by_cases h : n < 10
    · rw [decDigits_one h] at hc
      obtain rfl := List.mem_singleton.1 hc
      exact (ofNat_dig h).1
    · rw [decDigits, dif_neg h] at hc
      rcases List.mem_append.1 hc with h1 | h1
      · exact ih (n / 10) (by omega) c h1
      · obtain rfl := List.mem_singleton.1 h1
        exact (ofNat_dig (by omega)).1
theorem acc_app : ∀ (l r : List UInt8) (m : Nat), accP m (l ++ r) = (accP m l).bind fun k => accP k r
  | [], r, m => rfl
  | c :: l, r, m => by
    rw [List.cons_append, accP, accP]
    split
    · rfl
    · exact acc_app l r _
theorem dig_nat {c : UInt8} (h : digP c = true) : 48 ≤ c.toNat ∧ c.toNat ≤ 57 := by
  unfold digP at h
  simpa using h
theorem acc_one {m : Nat} {c : UInt8} (h : digP c = true) : accP m [c] = some (m * 10 + (c.toNat - 48)) := by
  have := dig_nat h
  rw [accP, if_neg (by rw [u8_lt, u8_gt]; omega), accP]
theorem acc_dec (n : Nat) : accP 0 (decDigits n) = some n := by
  induction n using Nat.strongRecOn with
  | _ n ih =>
    by_cases h : n < 10
    · rw [decDigits_one h, acc_one (ofNat_dig h).1, (ofNat_dig h).2]
      congr 1
      omega
    · have hr : n % 10 < 10 := by omega
      rw [decDigits, dif_neg h, acc_app, ih (n / 10) (by omega), Option.bind_some, acc_one (ofNat_dig hr).1, (ofNat_dig hr).2]
      congr 1
      omega
theorem dec_pos (n : Nat) : 1 ≤ (decDigits n).length := by
  rw [decDigits]
  split
  · simp
  · simp
theorem dec_le : ∀ (k n : Nat), n < 10 ^ (k + 1) → (decDigits n).length ≤ k + 1
  | 0, n, h => by rw [decDigits_one (by simpa using h)]; simp
  | k + 1, n, h => by
    by_cases h1 : n < 10
    · rw [decDigits_one h1]; simp
    · have := dec_le k (n / 10) (by rw [Nat.pow_succ] at h; omega)
      rw [decDigits, dif_neg h1, List.length_append]
      simp
      omega
theorem dec_ge : ∀ (k n : Nat), 10 ^ k ≤ n → k + 1 ≤ (decDigits n).length
  | 0, n, _ => dec_pos n
  | k + 1, n, h => by
    have hp : 1 ≤ 10 ^ k := Nat.one_le_pow _ _ (by decide)
    have h1 : ¬ n < 10 := by rw [Nat.pow_succ] at h; omega
    have := dec_ge k (n / 10) (by rw [Nat.pow_succ] at h; omega)
    rw [decDigits, dif_neg h1, List.length_append]
    simp
    omega
theorem dec_head (n : Nat) (h : 1 ≤ n) : (decDigits n).head? ≠ some 48 := by
  induction n using Nat.strongRecOn with
  | _ n ih =>
    by_cases h1 : n < 10
    · rw [decDigits_one h1]
      intro e
      have e2 : UInt8.ofNat (48 + n) = 48 := by simpa using e
      have e3 := (ofNat_dig h1).2
      rw [e2] at e3
      have : (48 : UInt8).toNat = 48 := rfl
      omega
    · rw [decDigits, dif_neg h1]
      have hp := dec_pos (n / 10)
      intro e
      apply ih (n / 10) (by omega) (by omega)
      rw [List.head?_append] at e
      cases hd : (decDigits (n / 10)).head? with
      | none => rw [List.head?_eq_none_iff] at hd; rw [hd] at hp; simp at hp
      | some c => rw [hd] at e; simpa using e
theorem dig_prt {c : UInt8} (h : digP c = true) : prtP c = true := by
  unfold prtP
  rw [h]
  simp
theorem span_all {p : UInt8 → Bool} : ∀ {l : List UInt8}, (∀ c ∈ l, p c = true) → spanN p l = l.length
  | [], _ => rfl
  | c :: r, h => by
    rw [spanN, if_pos (h c (List.mem_cons_self ..)), span_all (fun x hx => h x (List.mem_cons_of_mem _ hx))]
    rfl
/-- A piece of digits is a number or none. -/
theorem piece_digs {l : List UInt8} (h : ∀ c ∈ l, digP c = true) : pieceP l = (tnP l).map fun n => ⟨2, l, n, 0, 0, 0⟩ := by
  have hn : nameP l = false := by
    unfold nameP
    cases l with
    | nil => rfl
    | cons c r =>
      have hd := dig_nat (h c (List.mem_cons_self ..))
      have e : hdP (c :: r) = false := by
        show letP c = false
        unfold letP
        simp
        omega
      rw [e]
      simp
  have hp : parseP l = none := by
    cases hq : parseP l with
    | none => rfl
    | some r =>
      obtain ⟨a, b⟩ := r
      have e : l = textP a b := (parse_is hq).2.2
      have h46 : (46 : UInt8) ∈ l := by rw [e]; simp [textP]
      have := dig_nat (h _ h46)
      have e46 : (46 : UInt8).toNat = 46 := rfl
      omega
  unfold pieceP
  rw [hn, hp]
  cases tnP l <;> rfl
/-- The tokens of a text of digits. -/
theorem toks_digs {l : List UInt8} (h0 : 1 ≤ l.length) (h : ∀ c ∈ l, digP c = true) :
    toks l 0 0 = match tnP l with | none => .inl 0 | some n => .inr [⟨2, l, n, 0, 0, 0⟩, endT l.length] := by
  cases l with
  | nil => simp at h0
  | cons c r =>
    have hd := dig_nat (h c (List.mem_cons_self ..))
    have hb : blkP c = false := by unfold blkP; simp; omega
    have hs : sgnP c = false := by unfold sgnP; simp; omega
    have hsp : spanN prtP (c :: r) = (c :: r).length := span_all fun x hx => dig_prt (h x hx)
    rw [toks, if_neg (by rw [hb]; simp), if_neg (by omega), if_neg (by rw [hs]; simp), hsp, List.take_length, piece_digs h]
    cases hm : tnP (c :: r) with
    | none => rfl
    | some n =>
      simp only [Option.map_some]
      rw [toks_skip _ _ _ (by simp), List.length_cons, Nat.add_sub_cancel, List.drop_length]
      simp only [toks, addT, atT, endT, List.cons_append, List.nil_append]
      congr 4
      omega
theorem tn_dec {n : Nat} (h : n < 1000000) : tnP (decDigits n) = some n := by
  unfold tnP
  have h1 := dec_pos n
  have h2 := dec_le 5 n (by simpa using h)
  rw [if_neg, acc_dec]
  rintro (h3 | h3 | ⟨h3, h4⟩)
  · omega
  · omega
  · by_cases h5 : 1 ≤ n
    · exact dec_head n h5 h4
    · rw [decDigits_one (by omega)] at h3
      simp at h3
theorem tn_big {n : Nat} (h : 1000000 ≤ n) : tnP (decDigits n) = none := by
  unfold tnP
  have := dec_ge 6 n (by simpa using h)
  rw [if_pos (by omega)]
theorem tn_nought (n : Nat) : tnP (48 :: decDigits n) = none := by
  unfold tnP
  have := dec_pos n
  rw [if_pos (.inr (.inr ⟨by simp; omega, rfl⟩))]
end Go.Proofs.YtejhgifadohbiaaGreatDoor
namespace Go.Proofs.YtejhgifadohbiaaGreatDoor
open Go.Lib

/-- A sign, or a piece that is a token. -/
def Good (t : Tk) : Prop := (∃ c, sgnP c = true ∧ t = ⟨4, [c], 0, 0, 0, t.pl⟩) ∨ (∃ q, pieceP t.text = some q ∧ t = atT q t.pl ∧ ∀ c ∈ t.text, prtP c = true)
/-- Texts with blanks between. -/
def jn (ts : List Tk) : List UInt8 := ts.flatMap fun t => t.text ++ [32]
theorem span_mem (p : UInt8 → Bool) : ∀ (l : List UInt8), ∀ c ∈ l.take (spanN p l), p c = true
  | [], c, h => by simp at h
  | x :: r, c, h => by
    rw [spanN] at h
    split at h
    · rename_i hx
      rw [List.take_succ_cons] at h
      rcases List.mem_cons.1 h with rfl | h
      · exact hx
      · exact span_mem p r c h
    · simp at h
theorem from_goods {l : List UInt8} {i : Nat} (h : i < l.length) :
    (∃ j, i < j ∧ j ≤ l.length ∧ fromT l i = fromT l j) ∨
    (∃ t : Tk, Good t ∧ 1 ≤ t.text.length ∧ i + t.text.length ≤ l.length ∧ fromT l i = addT [t] (fromT l (i + t.text.length))) ∨
    fromT l i = .inl i := by
  by_cases hb : blkP (l.getD i 0) = true
  · exact .inl ⟨i + 1, by omega, by omega, from_blk h hb⟩
  have hb' : blkP (l.getD i 0) = false := by simpa using hb
  by_cases hr : (l.getD i 0).toNat = 35
  · refine .inl ⟨_, ?_, span_in (by omega), from_rem h hb' hr⟩
    have := span_go (p := nlfP) h (by unfold nlfP; rw [hr]; rfl)
    omega
  by_cases hs : sgnP (l.getD i 0) = true
  · exact .inr (.inl ⟨⟨4, [l.getD i 0], 0, 0, 0, i⟩, .inl ⟨_, hs, rfl⟩, Nat.le_refl _, h, from_sgn h hb' hr hs⟩)
  have hs' : sgnP (l.getD i 0) = false := by simpa using hs
  cases hp : pieceP (pcAt l i) with
  | none => exact .inr (.inr (from_bad h hb' hr hs' hp))
  | some t =>
    obtain ⟨h1, h2⟩ := from_pc h hb' hr hs' hp
    have ht := piece_text hp
    have hle := span_in (p := prtP) (l := l) (i := i) (by omega)
    have hlen : (pcAt l i).length = spanN prtP (l.drop i) := by
      unfold pcAt
      rw [List.length_take, List.length_drop]
      omega
    have hat : (atT t i).text = pcAt l i := ht
    refine .inr (.inl ⟨atT t i, .inr ⟨t, ?_, rfl, ?_⟩, ?_, ?_, ?_⟩)
    · rw [hat]; exact hp
    · rw [hat]; exact span_mem prtP _
    · rw [hat, hlen]; exact h2
    · rw [hat, hlen]; exact hle
    · rw [hat, hlen]; exact h1
theorem from_back (l : List UInt8) : ∀ (n i : Nat), i ≤ l.length → l.length - i ≤ n → ∀ ts, fromT l i = .inr ts →
    ∃ r, ts = r ++ [endT l.length] ∧ (∀ t ∈ r, Good t) ∧ (jn r).length ≤ 2 * (l.length - i) := by
  intro n
  induction n with
  | zero =>
    intro i hi hn ts h
    obtain rfl : i = l.length := by omega
    rw [from_end (Nat.le_refl _)] at h
    obtain rfl := Sum.inr.inj h
    exact ⟨[], rfl, fun t ht => by simp at ht, by simp [jn]⟩
  | succ n ih =>
    intro i hi hn ts h
    by_cases hlt : i < l.length
    · rcases from_goods hlt with ⟨j, h1, h2, h3⟩ | ⟨t, h1, h2, h3, h5⟩ | h3
      · obtain ⟨r, e1, e2, e3⟩ := ih j h2 (by omega) ts (by rw [← h3]; exact h)
        exact ⟨r, e1, e2, by omega⟩
      · rw [h5] at h
        cases hf : fromT l (i + t.text.length) with
        | inl k => rw [hf] at h; cases h
        | inr us =>
          rw [hf] at h
          obtain ⟨r, e1, e2, e3⟩ := ih (i + t.text.length) h3 (by omega) us hf
          have e4 : ts = t :: us := (Sum.inr.inj h).symm
          refine ⟨t :: r, by rw [e4, e1]; rfl, fun x hx => ?_, ?_⟩
          · rcases List.mem_cons.1 hx with rfl | hx
            · exact h1
            · exact e2 x hx
          · have e5 : (jn (t :: r)).length = t.text.length + 1 + (jn r).length := by
              show ((t.text ++ [32]) ++ jn r).length = _
              rw [List.length_append, List.length_append]
              rfl
            omega
      · rw [h3] at h
        cases h
    · obtain rfl : i = l.length := by omega
      rw [from_end (Nat.le_refl _)] at h
      obtain rfl := Sum.inr.inj h
      exact ⟨[], rfl, fun t ht => by simp at ht, by simp [jn]⟩
/-- Two tokens are the same but for their places. -/
def RelT (t u : Tk) : Prop := t.kind = u.kind ∧ t.text = u.text ∧ t.val = u.val ∧ t.a = u.a ∧ t.b = u.b
def RelL : List Tk → List Tk → Prop
  | [], [] => True
  | t :: r, u :: s => RelT t u ∧ RelL r s
  | _, _ => False
theorem rel_len : ∀ {r s : List Tk}, RelL r s → r.length = s.length
  | [], [], _ => rfl
  | _ :: r, _ :: s, h => by rw [List.length_cons, List.length_cons, rel_len (r := r) (s := s) h.2]
  | [], _ :: _, h => h.elim
  | _ :: _, [], h => h.elim
theorem rel_get : ∀ {r s : List Tk} {k : Nat} {t u : Tk}, RelL r s → r[k]? = some t → s[k]? = some u → RelT t u
  | [], [], _, _, _, _, h, _ => by simp at h
  | a :: r, b :: s, 0, t, u, h, h1, h2 => by
    obtain rfl : a = t := by simpa using h1
    obtain rfl : b = u := by simpa using h2
    exact h.1
  | _ :: r, _ :: s, k + 1, t, u, h, h1, h2 => rel_get (r := r) (s := s) (k := k) h.2 (by simpa using h1) (by simpa using h2)
  | [], _ :: _, _, _, _, h, _, _ => h.elim
  | _ :: _, [], _, _, _, h, _, _ => h.elim
theorem prt_not {c : UInt8} (h : prtP c = true) : blkP c = false ∧ ¬ c.toNat = 35 ∧ sgnP c = false := by
  unfold prtP letP digP at h
  unfold blkP sgnP
  simp at h
  refine ⟨?_, ?_, ?_⟩
  · simp; omega
  · omega
  · simp; omega
theorem sgn_not {c : UInt8} (h : sgnP c = true) : blkP c = false ∧ ¬ c.toNat = 35 := by
  unfold sgnP at h
  unfold blkP
  simp at h
  refine ⟨?_, ?_⟩
  · simp; omega
  · omega
theorem span_stop32 {p : UInt8 → Bool} (h0 : p 32 = false) (r : List UInt8) : ∀ (x : List UInt8), (∀ c ∈ x, p c = true) → spanN p (x ++ 32 :: r) = x.length
  | [], _ => by
    rw [List.nil_append, spanN, if_neg (by rw [h0]; simp)]
    rfl
  | c :: x, h => by
    rw [List.cons_append, spanN, if_pos (h c (List.mem_cons_self ..)), span_stop32 h0 r x (fun y hy => h y (List.mem_cons_of_mem _ hy))]
    rfl
theorem toks_blank (r : List UInt8) (i : Nat) : toks (32 :: r) 0 i = toks r 0 (i + 1) := by
  rw [toks, if_pos (by decide)]
/-- A token's text, a blank behind it. -/
theorem toks_good {t : Tk} (h : Good t) (r : List UInt8) (i : Nat) : ∃ u j, RelT t u ∧ toks (t.text ++ 32 :: r) 0 i = addT [u] (toks r 0 j) := by
  rcases h with ⟨c, h1, h2⟩ | ⟨q, h1, h2, h3⟩
  · obtain ⟨e1, e2⟩ := sgn_not h1
    refine ⟨⟨4, [c], 0, 0, 0, i⟩, i + 1 + 1, ?_, ?_⟩
    · rw [h2]; exact ⟨rfl, rfl, rfl, rfl, rfl⟩
    · rw [h2]
      show toks (c :: 32 :: r) 0 i = _
      rw [toks, if_neg (by rw [e1]; simp), if_neg e2, if_pos h1, toks_blank]
  · cases hx : t.text with
    | nil => rw [hx, piece_nil] at h1; cases h1
    | cons c x =>
      have hq := piece_text h1
      rw [hx] at h1 h3 hq
      obtain ⟨e1, e2, e3⟩ := prt_not (h3 c (List.mem_cons_self ..))
      have hsp : spanN prtP (c :: (x ++ 32 :: r)) = (c :: x).length := span_stop32 (by decide) r (c :: x) h3
      refine ⟨atT q i, i + 1 + x.length + 1, ?_, ?_⟩
      · rw [h2]; exact ⟨rfl, rfl, rfl, rfl, rfl⟩
      · rw [List.cons_append, toks, if_neg (by rw [e1]; simp), if_neg e2, if_neg (by rw [e3]; simp), hsp]
        have htk : (c :: (x ++ 32 :: r)).take (c :: x).length = c :: x := by
          rw [show c :: (x ++ 32 :: r) = (c :: x) ++ 32 :: r from rfl, List.take_left]
        rw [htk, h1]
        simp only
        rw [List.length_cons, Nat.add_sub_cancel, toks_skip _ _ _ (by simp), List.drop_left, toks_blank]
theorem toks_jn : ∀ (r : List Tk) (i n : Nat), (∀ t ∈ r, Good t) → ∃ us, toks (jn r ++ [32]) 0 i = .inr us ∧ RelL (r ++ [endT n]) us
  | [], i, n, _ => ⟨[endT (i + 1)], by show toks [32] 0 i = _; rw [toks_blank]; rfl, ⟨⟨rfl, rfl, rfl, rfl, rfl⟩, trivial⟩⟩
  | t :: r, i, n, h => by
    obtain ⟨u, j, h1, h2⟩ := toks_good (h t (List.mem_cons_self ..)) (jn r ++ [32]) i
    obtain ⟨us, h3, h4⟩ := toks_jn r j n (fun x hx => h x (List.mem_cons_of_mem _ hx))
    refine ⟨u :: us, ?_, ⟨h1, h4⟩⟩
    have e : jn (t :: r) ++ [32] = t.text ++ 32 :: (jn r ++ [32]) := by simp [jn]
    rw [e, h2, h3]
    rfl
/-- The whole: laid again, a text's tokens are the same. -/
theorem toks_back {l : List UInt8} {ts : List Tk} (h : toks l 0 0 = .inr ts) : ∃ us, toks (jn ts) 0 0 = .inr us ∧ RelL ts us ∧ (jn ts).length ≤ 2 * l.length + 1 := by
  obtain ⟨r, rfl, h2, h3⟩ := from_back l _ 0 (Nat.zero_le _) (Nat.le_refl _) ts h
  obtain ⟨us, h4, h5⟩ := toks_jn r 0 l.length h2
  have e : jn (r ++ [endT l.length]) = jn r ++ [32] := by simp [jn, endT]
  refine ⟨us, by rw [e]; exact h4, h5, ?_⟩
  rw [e, List.length_append]
  simp
  omega
theorem jn_take {ts : List Tk} {k : Nat} (h : k < ts.length) : jn (ts.take (k + 1)) = jn (ts.take k) ++ (ts[k].text ++ [32]) := by
  rw [List.take_succ_eq_append_getElem h]
  unfold jn
  rw [List.flatMap_append]
  simp only [List.flatMap_cons, List.flatMap_nil, List.append_nil]
theorem jn_le {ts : List Tk} {k : Nat} : (jn (ts.take k)).length ≤ (jn ts).length := by
  have e : jn ts = jn (ts.take k) ++ jn (ts.drop k) := by
    unfold jn
    rw [← List.flatMap_append, List.take_append_drop]
  rw [e, List.length_append]
  omega
end Go.Proofs.YtejhgifadohbiaaGreatDoor
namespace Go.Proofs.YtejhgifadohbiaaGreatDoor
open Go.Lib

abbrev Bs := List UInt8
/-- A clause. -/
structure ClD where
  any : Bool
  a : Nat
  b : Int
  wi : Nat
  ou : Nat
  drop : Bool
  se : Nat
  cl : Nat
  more : Int
  pref : Int
/-- A map, a link, a static way, a router, a configuration. -/
structure MpD where
  name : Bs
  cls : List ClD
  pl : Int
structure LkD where
  peer : Bs
  cost : Int
  imp : Bs
  exp : Bs
  pl : Int
structure StD where
  a : Nat
  b : Int
  via : Bs
  pl : Int
structure RoD where
  name : Bs
  nets : List (Nat × Int)
  lks : List LkD
  sts : List StD
  pl : Int
structure CfD where
  maps : List MpD
  ros : List RoD
/-- A prefix's text; none of what may not be. -/
def pfT (a : Nat) (b : Int) : Bs := if mayP a b = true then textP a b.toNat else []
/-- The numbers of the tags among some bits, from a bit on. -/
def tagN (bits : Nat) : Nat → Nat → Bs
  | 0, _ => []
  | f + 1, k => (if bits / 2 ^ k % 2 = 1 then [32, UInt8.ofNat (48 + k)] else []) ++ tagN bits f (k + 1)
def tagsT (word : Bs) (bits : Nat) : Bs := if tagN bits 4 0 = [] then [] else 32 :: word ++ tagN bits 4 0
def numT (word : Bs) (n : Int) : Bs := if n = 0 then [] else 32 :: word ++ 32 :: itoa n
def nmT (word s : Bs) : Bs := if s = [] then [] else 32 :: word ++ 32 :: s
def onT (c : ClD) : Bs := if c.any = true then [97, 110, 121] else pfT c.a c.b
def dropT (c : ClD) : Bs := if c.drop = true then [32, 100, 114, 111, 112] else []
/-- A clause's words. -/
def wordsT (c : ClD) : Bs :=
  [105, 102, 32] ++ onT c ++ tagsT [119, 105, 116, 104] c.wi ++ tagsT [111, 117, 116] c.ou ++ [32, 116, 104, 101, 110] ++ dropT c ++ tagsT [115, 101, 116] c.se ++ tagsT [99, 108, 101, 97, 114] c.cl ++
    numT [109, 111, 114, 101] c.more ++ numT [112, 114, 101, 102] c.pref
/-- A line within. -/
def innT (l : Bs) : Bs := 9 :: l ++ [59, 10]
def lineT (c : ClD) : Bs := innT (wordsT c)
def headT (kind name : Bs) : Bs := kind ++ 32 :: name ++ [32, 123, 10]
def footT : Bs := [125, 10]
def mapT (m : MpD) : Bs := headT [109, 97, 112] m.name ++ m.cls.flatMap lineT ++ footT
def netT (p : Nat × Int) : Bs := innT ([110, 101, 116, 32] ++ pfT p.1 p.2)
def linkW (l : LkD) : Bs := [108, 105, 110, 107, 32] ++ l.peer ++ [32, 99, 111, 115, 116, 32] ++ itoa l.cost ++ nmT [105, 109, 112, 111, 114, 116] l.imp ++ nmT [101, 120, 112, 111, 114, 116] l.exp
def linkT (l : LkD) : Bs := innT (linkW l)
def statT (s : StD) : Bs := innT ([115, 116, 97, 116, 105, 99, 32] ++ pfT s.a s.b ++ [32, 118, 105, 97, 32] ++ s.via)
def routT (r : RoD) : Bs := headT [114, 111, 117, 116, 101, 114] r.name ++ r.nets.flatMap netT ++ r.lks.flatMap linkT ++ r.sts.flatMap statT ++ footT
def confT (c : CfD) : Bs := c.maps.flatMap mapT ++ c.ros.flatMap routT

/-- It may be: numbers are in their kinds' bounds. -/
structure ClD.ok (c : ClD) : Prop where
  a : c.a < 4294967296
  wi : c.wi < 256
  ou : c.ou < 256
  se : c.se < 256
  cl : c.cl < 256
  m0 : -9223372036854775808 ≤ c.more
  m1 : c.more ≤ 9223372036854775807
  p0 : -9223372036854775808 ≤ c.pref
  p1 : c.pref ≤ 9223372036854775807
structure LkD.ok (l : LkD) : Prop where
  c0 : -9223372036854775808 ≤ l.cost
  c1 : l.cost ≤ 9223372036854775807
structure MpD.ok (m : MpD) : Prop where
  h : ∀ c ∈ m.cls, c.ok
structure RoD.ok (r : RoD) : Prop where
  n : ∀ p ∈ r.nets, p.1 < 4294967296
  l : ∀ l ∈ r.lks, l.ok
  s : ∀ s ∈ r.sts, s.a < 4294967296
structure CfD.ok (c : CfD) : Prop where
  m : ∀ m ∈ c.maps, m.ok
  r : ∀ r ∈ c.ros, r.ok

/-! ### How long texts are -/
theorem dig_len : ∀ (k n : Nat), n < 10 ^ (k + 1) → (decDigits n).length ≤ k + 1
  | 0, n, h => by rw [decDigits_one (by simpa using h)]; simp
  | k + 1, n, h => by
    rw [decDigits]
    split
    · simp
    · rw [List.length_append]
      have := dig_len k (n / 10) (by rw [Nat.pow_succ] at h; omega)
      simp
      omega
theorem dig_pos (n : Nat) : 1 ≤ (decDigits n).length := by
  rw [decDigits]
  split <;> simp
theorem itoa_len {n : Int} (h0 : -9223372036854775808 ≤ n) (h1 : n ≤ 9223372036854775807) : (itoa n).length ≤ 20 := by
  unfold itoa
  split
  · have := dig_len 18 n.natAbs (by omega)
    simp
    omega
  · have := dig_len 18 n.toNat (by omega)
    omega
theorem tag_len (bits : Nat) : ∀ f k, (tagN bits f k).length ≤ 2 * f
  | 0, _ => by simp [tagN]
  | f + 1, k => by
    have := tag_len bits f (k + 1)
    unfold tagN
    split <;> simp <;> omega
theorem tags_len (word : Bs) (bits : Nat) : (tagsT word bits).length ≤ word.length + 9 := by
  have := tag_len bits 4 0
  unfold tagsT
  split
  · simp
  · simp
    omega
theorem num_len (word : Bs) {n : Int} (h0 : -9223372036854775808 ≤ n) (h1 : n ≤ 9223372036854775807) : (numT word n).length ≤ word.length + 22 := by
  have := itoa_len h0 h1
  unfold numT
  split
  · simp
  · simp
    omega
theorem nm_len (word s : Bs) : (nmT word s).length ≤ word.length + s.length + 2 := by
  unfold nmT
  split
  · simp
  · simp
    omega
theorem pf_len (a : Nat) (b : Int) (ha : a < 4294967296) : (pfT a b).length ≤ 19 := by
  unfold pfT
  split
  · rename_i h
    obtain ⟨h0, h1, _⟩ := may_bounds h
    have l1 := dig_len 2 (a / 16777216) (by omega)
    have l2 := dig_len 2 (a / 65536 % 256) (by omega)
    have l3 := dig_len 2 (a / 256 % 256) (by omega)
    have l4 := dig_len 2 (a % 256) (by omega)
    have l5 := dig_len 2 b.toNat (by omega)
    unfold textP
    simp
    omega
  · simp
theorem on_len {c : ClD} (h : c.ok) : (onT c).length ≤ 19 := by
  have := pf_len c.a c.b h.a
  unfold onT
  split
  · simp
  · exact this
theorem drop_len (c : ClD) : (dropT c).length ≤ 5 := by
  unfold dropT
  split <;> simp
theorem words_len {c : ClD} (h : c.ok) : (wordsT c).length ≤ 140 := by
  have h1 := on_len h
  have h2 := tags_len [119, 105, 116, 104] c.wi
  have h3 := tags_len [111, 117, 116] c.ou
  have h4 := drop_len c
  have h5 := tags_len [115, 101, 116] c.se
  have h6 := tags_len [99, 108, 101, 97, 114] c.cl
  have h7 := num_len [109, 111, 114, 101] h.m0 h.m1
  have h8 := num_len [112, 114, 101, 102] h.p0 h.p1
  unfold wordsT
  simp only [List.length_append, List.length_cons, List.length_nil] at *
  omega
theorem line_len {c : ClD} (h : c.ok) : (lineT c).length ≤ 150 := by
  have := words_len h
  unfold lineT innT
  simp
  omega
/-- How many letters and things a configuration has. -/
def MpD.bulk (m : MpD) : Nat := m.name.length + m.cls.length + 1
def LkD.bulk (l : LkD) : Nat := l.peer.length + l.imp.length + l.exp.length + 1
def StD.bulk (s : StD) : Nat := s.via.length + 1
def RoD.bulk (r : RoD) : Nat := r.name.length + r.nets.length + (r.lks.map LkD.bulk).sum + (r.sts.map StD.bulk).sum + 1
def CfD.bulk (c : CfD) : Nat := (c.maps.map MpD.bulk).sum + (c.ros.map RoD.bulk).sum
theorem flat_len {α : Type} (f : α → Bs) (g : α → Nat) (k : Nat) : ∀ l : List α, (∀ x ∈ l, (f x).length ≤ k * g x) → (l.flatMap f).length ≤ k * (l.map g).sum
  | [], _ => by simp
  | x :: r, h => by
    have h1 := h x (List.mem_cons_self ..)
    have h2 := flat_len f g k r fun y hy => h y (List.mem_cons_of_mem _ hy)
    rw [List.flatMap_cons, List.length_append, List.map_cons, List.sum_cons, Nat.mul_add]
    omega
theorem sum_one {α : Type} (l : List α) : (l.map fun _ => 1).sum = l.length := by
  induction l with
  | nil => rfl
  | cons x r ih => simp [ih]; omega
theorem map_len {m : MpD} (h : m.ok) : (mapT m).length ≤ 200 * m.bulk := by
  have := flat_len lineT (fun _ => 1) 150 m.cls fun c hc => by have := line_len (h.h c hc); omega
  rw [sum_one] at this
  unfold mapT headT footT MpD.bulk
  simp only [List.length_append, List.length_cons, List.length_nil]
  omega
theorem link_len {l : LkD} (h : l.ok) : (linkT l).length ≤ 200 * l.bulk := by
  have h1 := itoa_len h.c0 h.c1
  have h2 := nm_len [105, 109, 112, 111, 114, 116] l.imp
  have h3 := nm_len [101, 120, 112, 111, 114, 116] l.exp
  unfold linkT linkW innT LkD.bulk
  simp only [List.length_append, List.length_cons, List.length_nil] at *
  omega
theorem stat_len {s : StD} (h : s.a < 4294967296) : (statT s).length ≤ 200 * s.bulk := by
  have h1 := pf_len s.a s.b h
  unfold statT innT StD.bulk
  simp only [List.length_append, List.length_cons, List.length_nil] at *
  omega
theorem net_len {p : Nat × Int} (h : p.1 < 4294967296) : (netT p).length ≤ 200 * 1 := by
  have h1 := pf_len p.1 p.2 h
  unfold netT innT
  simp only [List.length_append, List.length_cons, List.length_nil] at *
  omega
theorem rout_len {r : RoD} (h : r.ok) : (routT r).length ≤ 200 * r.bulk := by
  have h1 := flat_len netT (fun _ => 1) 200 r.nets fun p hp => net_len (h.n p hp)
  have h2 := flat_len linkT LkD.bulk 200 r.lks fun l hl => link_len (h.l l hl)
  have h3 := flat_len statT StD.bulk 200 r.sts fun s hs => stat_len (h.s s hs)
  rw [sum_one] at h1
  unfold routT headT footT RoD.bulk
  simp only [List.length_append, List.length_cons, List.length_nil]
  omega
theorem conf_len {c : CfD} (h : c.ok) : (confT c).length ≤ 200 * c.bulk := by
  have h1 := flat_len mapT MpD.bulk 200 c.maps fun m hm => map_len (h.m m hm)
  have h2 := flat_len routT RoD.bulk 200 c.ros fun r hr => rout_len (h.r r hr)
  unfold confT CfD.bulk
  rw [List.length_append]
  omega
end Go.Proofs.YtejhgifadohbiaaGreatDoor
namespace Go.Proofs.YtejhgifadohbiaaGreatDoor
open Go.Lib

/-- The token that some bytes are, where they stand apart. -/
def tokOf (x : Bs) : Option Tk := match x with
  | [c] => if sgnP c = true then some ⟨4, [c], 0, 0, 0, 0⟩ else pieceP x
  | _ => pieceP x
/-- The token of some bytes that stand so far behind a place. -/
def tkAt (i : Nat) (p : Bs × Nat) : Tk := atT ((tokOf p.1).getD (endT 0)) (i + p.2)
/-- No piece goes on there. -/
def Stop : Bs → Prop
  | [] => True
  | c :: _ => prtP c = false
/-- A text has these tokens, whatever stands behind it (where cl is true), or where no piece goes on behind it. -/
def Lays (cl : Bool) (l : Bs) (wo : List (Bs × Nat)) : Prop := ∀ r i, (cl = true ∨ Stop r) → toks (l ++ r) 0 i = addT (wo.map (tkAt i)) (toks r 0 (i + l.length))
def Words (cl : Bool) (l : Bs) (ws : List Bs) : Prop := ∃ wo, wo.map (·.1) = ws ∧ Lays cl l wo
theorem stop_app {l r : Bs} (h1 : Stop l) (h2 : Stop r) : Stop (l ++ r) := by
  cases l with
  | nil => exact h2
  | cons c l => exact h1
theorem stop_app1 {l r : Bs} (h1 : Stop l) (h2 : l ≠ []) : Stop (l ++ r) := by
  cases l with
  | nil => exact absurd rfl h2
  | cons c l => exact h1
theorem Lays.nil : Lays true [] [] := fun _ _ _ => (add_nil _).symm
theorem Lays.open {cl : Bool} {l : Bs} {wo : List (Bs × Nat)} (h : Lays cl l wo) : Lays false l wo := fun r i hr => h r i (.inr (hr.elim (fun h => by cases h) id))
theorem Lays.app {c1 c2 : Bool} {l1 l2 : Bs} {w1 w2 : List (Bs × Nat)} (h1 : Lays c1 l1 w1) (h2 : Lays c2 l2 w2) (hc : c1 = true ∨ Stop l2 ∧ (c2 = false ∨ l2 ≠ [])) :
    Lays c2 (l1 ++ l2) (w1 ++ w2.map fun p => (p.1, p.2 + l1.length)) := by
  intro r i hr
  have h3 : c1 = true ∨ Stop (l2 ++ r) := by
    rcases hc with h | ⟨h, h'⟩
    · exact .inl h
    · rcases h' with h' | h'
      · subst h'
        exact .inr (stop_app h (hr.elim (fun h => by cases h) id))
      · exact .inr (stop_app1 h h')
  rw [List.append_assoc, h1 (l2 ++ r) i h3, h2 r (i + l1.length) hr, add_add, List.map_append, List.map_map, List.length_append, Nat.add_assoc]
  congr 2
  congr 1
  funext p
  show atT _ _ = atT _ _
  congr 1
  dsimp only
  omega
theorem Words.app {c1 c2 : Bool} {l1 l2 : Bs} {w1 w2 : List Bs} (h1 : Words c1 l1 w1) (h2 : Words c2 l2 w2) (hc : c1 = true ∨ Stop l2 ∧ (c2 = false ∨ l2 ≠ [])) : Words c2 (l1 ++ l2) (w1 ++ w2) := by
  obtain ⟨o1, e1, h1⟩ := h1
  obtain ⟨o2, e2, h2⟩ := h2
  refine ⟨_, ?_, h1.app h2 hc⟩
  rw [List.map_append, List.map_map, e1]
  congr 1
theorem Words.nil : Words true [] [] := ⟨[], rfl, Lays.nil⟩
theorem Words.open {cl : Bool} {l : Bs} {ws : List Bs} (h : Words cl l ws) : Words false l ws := by
  obtain ⟨o, e, h⟩ := h
  exact ⟨o, e, h.open⟩
theorem lays_blk {c : UInt8} (h : blkP c = true) : Lays true [c] [] := by
  intro r i _
  show toks (c :: r) 0 i = _
  rw [toks, if_pos h]
  exact (add_nil _).symm
theorem lays_sgn {c : UInt8} (h : sgnP c = true) : Lays true [c] [([c], 0)] := by
  intro r i _
  obtain ⟨e1, e2⟩ := sgn_not h
  show toks (c :: r) 0 i = _
  rw [toks, if_neg (by rw [e1]; simp), if_neg e2, if_pos h]
  show _ = addT [atT ((tokOf [c]).getD (endT 0)) (i + 0)] _
  unfold tokOf
  simp only [if_pos h]
  rfl
theorem span_stopS {r : Bs} (hr : Stop r) : ∀ (x : Bs), (∀ c ∈ x, prtP c = true) → spanN prtP (x ++ r) = x.length
  | [], _ => by
    cases r with
    | nil => rfl
    | cons c r =>
      rw [List.nil_append, spanN, if_neg (by rw [show prtP c = false from hr]; simp)]
      rfl
  | c :: x, h => by
    rw [List.cons_append, spanN, if_pos (h c (List.mem_cons_self ..)), span_stopS hr x (fun y hy => h y (List.mem_cons_of_mem _ hy))]
    rfl
theorem lays_pc {x : Bs} {q : Tk} (h3 : ∀ c ∈ x, prtP c = true) (h1 : pieceP x = some q) : Lays false x [(x, 0)] := by
  intro r i hr
  have hr' : Stop r := hr.elim (fun h => by cases h) id
  cases x with
  | nil => rw [piece_nil] at h1; cases h1
  | cons c x =>
    obtain ⟨e1, e2, e3⟩ := prt_not (h3 c (List.mem_cons_self ..))
    have hsp : spanN prtP (c :: (x ++ r)) = (c :: x).length := span_stopS hr' (c :: x) h3
    have htk : (c :: (x ++ r)).take (c :: x).length = c :: x := by
      rw [show c :: (x ++ r) = (c :: x) ++ r from rfl, List.take_left]
    have ht : tokOf (c :: x) = some q := by
      unfold tokOf
      split
      · rename_i c' e
        injection e with e _
        subst e
        rw [if_neg (by rw [e3]; simp), h1]
      · exact h1
    rw [List.cons_append, toks, if_neg (by rw [e1]; simp), if_neg e2, if_neg (by rw [e3]; simp), hsp, htk, h1]
    simp only
    rw [List.length_cons, Nat.add_sub_cancel, toks_skip _ _ _ (by simp), List.drop_left, show i + 1 + x.length = i + (x.length + 1) by omega]
    show _ = addT [atT ((tokOf (c :: x)).getD (endT 0)) (i + 0)] _
    rw [ht]
    rfl
theorem words_blk {c : UInt8} (h : blkP c = true) : Words true [c] [] := ⟨[], rfl, lays_blk h⟩
theorem words_sgn {c : UInt8} (h : sgnP c = true) : Words true [c] [[c]] := ⟨[([c], 0)], rfl, lays_sgn h⟩
theorem words_pc {x : Bs} {q : Tk} (h3 : ∀ c ∈ x, prtP c = true) (h1 : pieceP x = some q) : Words false x [x] := ⟨[(x, 0)], rfl, lays_pc h3 h1⟩
/-- A name. -/
theorem name_prt {x : Bs} (h : nameP x = true) : ∀ c ∈ x, prtP c = true := by
  intro c hc
  unfold nameP at h
  simp only [Bool.and_eq_true] at h
  have := List.all_eq_true.1 h.2 c hc
  unfold nmcP at this
  unfold prtP
  simp only [Bool.or_eq_true] at this ⊢
  rcases this with (h | h) | h
  · exact .inl (.inl (.inl (.inl h)))
  · exact .inl (.inl (.inl (.inr h)))
  · exact .inr h
theorem words_name {x : Bs} (h : nameP x = true) : Words false x [x] := words_pc (name_prt h) (show pieceP x = some _ by unfold pieceP; rw [if_pos h])
theorem words_num {n : Nat} (h : n < 1000000) : Words false (decDigits n) [decDigits n] := by
  refine words_pc (q := ⟨2, decDigits n, n, 0, 0, 0⟩) (fun c hc => dig_prt (dec_dig n c hc)) ?_
  rw [piece_digs (dec_dig n), tn_dec h]
  rfl
theorem text_prt {a b : Nat} : ∀ c ∈ textP a b, prtP c = true := by
  intro c hc
  unfold textP at hc
  simp only [List.mem_append, List.mem_singleton] at hc
  rcases hc with (((((((h | h) | h) | h) | h) | h) | h) | h) | h
  all_goals first
    | exact dig_prt (dec_dig _ c h)
    | (subst h; decide)
theorem dec_cons (n : Nat) : ∃ c r, decDigits n = c :: r ∧ digP c = true := by
  have h := dec_pos n
  cases hd : decDigits n with
  | nil => rw [hd] at h; simp at h
  | cons c r => exact ⟨c, r, rfl, dec_dig n c (by rw [hd]; exact List.mem_cons_self ..)⟩
theorem pf_piece {a b : Nat} (hm : mayP a b = true) (ha : a < 4294967296) : pieceP (textP a b) = some ⟨3, textP a b, 0, a, b, 0⟩ := by
  have hn : nameP (textP a b) = false := by
    obtain ⟨c, r, hc, hd⟩ := dec_cons (a / 16777216)
    have hh : hdP (textP a b) = false := by
      unfold textP
      rw [hc]
      show letP c = false
      have := dig_nat hd
      unfold letP
      simp
      omega
    unfold nameP
    rw [hh]
    simp
  unfold pieceP
  rw [hn, parse_at hm ha]
  rfl
theorem words_pf {a b : Nat} (hm : mayP a b = true) (ha : a < 4294967296) : Words false (textP a b) [textP a b] := words_pc text_prt (pf_piece hm ha)
/-- What a whole text's tokens are. -/
theorem Words.toks {cl : Bool} {l : Bs} {ws : List Bs} (h : Words cl l ws) : ∃ wo : List (Bs × Nat), wo.map (·.1) = ws ∧ toks l 0 0 = .inr (wo.map (tkAt 0) ++ [endT l.length]) := by
  obtain ⟨wo, e, h⟩ := h
  refine ⟨wo, e, ?_⟩
  have := h [] 0 (.inr trivial)
  rw [List.append_nil] at this
  rw [this, Nat.zero_add]
  rfl
end Go.Proofs.YtejhgifadohbiaaGreatDoor
namespace Go.Proofs.YtejhgifadohbiaaGreatDoor
open Go.Lib

/-- The numbers of the tags among some bits, as words. -/
def tagD (bits : Nat) : Nat → Nat → List Bs
  | 0, _ => []
  | f + 1, k => (if bits / 2 ^ k % 2 = 1 then [[UInt8.ofNat (48 + k)]] else []) ++ tagD bits f (k + 1)
def tagW (word : Bs) (bits : Nat) : List Bs := if tagN bits 4 0 = [] then [] else word :: tagD bits 4 0
def numW (word : Bs) (n : Int) : List Bs := if n = 0 then [] else [word, itoa n]
def nmW (word s : Bs) : List Bs := if s = [] then [] else [word, s]
def claW (c : ClD) : List Bs :=
  [[105, 102], onT c] ++ tagW [119, 105, 116, 104] c.wi ++ tagW [111, 117, 116] c.ou ++ [[116, 104, 101, 110]] ++ (if c.drop = true then [[100, 114, 111, 112]] else []) ++ tagW [115, 101, 116] c.se ++ tagW [99, 108, 101, 97, 114] c.cl ++
    numW [109, 111, 114, 101] c.more ++ numW [112, 114, 101, 102] c.pref ++ [[59]]
def mapW (m : MpD) : List Bs := [[109, 97, 112], m.name, [123]] ++ m.cls.flatMap claW ++ [[125]]
def netW (p : Nat × Int) : List Bs := [[110, 101, 116], pfT p.1 p.2, [59]]
def lnkW (l : LkD) : List Bs := [[108, 105, 110, 107], l.peer, [99, 111, 115, 116], itoa l.cost] ++ nmW [105, 109, 112, 111, 114, 116] l.imp ++ nmW [101, 120, 112, 111, 114, 116] l.exp ++ [[59]]
def staW (s : StD) : List Bs := [[115, 116, 97, 116, 105, 99], pfT s.a s.b, [118, 105, 97], s.via, [59]]
def rouW (r : RoD) : List Bs := [[114, 111, 117, 116, 101, 114], r.name, [123]] ++ r.nets.flatMap netW ++ r.lks.flatMap lnkW ++ r.sts.flatMap staW ++ [[125]]
def cfgW (c : CfD) : List Bs := c.maps.flatMap mapW ++ c.ros.flatMap rouW

/-- It can be written so that it is read again. -/
structure ClD.sound (c : ClD) : Prop where
  on : c.any = false → mayP c.a c.b = true ∧ c.a < 4294967296
  m0 : 0 ≤ c.more
  m1 : c.more ≤ 15
  p0 : 0 ≤ c.pref
  p1 : c.pref ≤ 255
  t : (c.wi < 256 ∧ c.ou < 256 ∧ c.se < 256 ∧ c.cl < 256) ∧ c.a < 4294967296
structure MpD.sound (m : MpD) : Prop where
  n : nameP m.name = true
  c : ∀ c ∈ m.cls, c.sound
  l : m.cls.length ≤ 16
structure LkD.sound (l : LkD) : Prop where
  n : nameP l.peer = true
  c0 : 1 ≤ l.cost
  c1 : l.cost ≤ 1000
  i : l.imp ≠ [] → nameP l.imp = true
  e : l.exp ≠ [] → nameP l.exp = true
structure StD.sound (s : StD) : Prop where
  p : mayP s.a s.b = true ∧ s.a < 4294967296
  n : nameP s.via = true
structure RoD.sound (r : RoD) : Prop where
  n : nameP r.name = true
  t : ∀ p ∈ r.nets, mayP p.1 p.2 = true ∧ p.1 < 4294967296
  l : ∀ l ∈ r.lks, l.sound
  s : ∀ s ∈ r.sts, s.sound
  tn : r.nets.length ≤ 8
  ln : r.lks.length ≤ 64
  sn : r.sts.length ≤ 8
structure CfD.sound (c : CfD) : Prop where
  m : ∀ m ∈ c.maps, m.sound
  r : ∀ r ∈ c.ros, r.sound
  ml : c.maps.length ≤ 64
  rl : c.ros.length ≤ 64

/-- A blank, and a piece. -/
theorem words_sp {x : Bs} {ws : List Bs} (h : Words false x ws) : Words false (32 :: x) ws := by
  have := (words_blk (c := 32) (by decide)).app h (.inl rfl)
  simpa using this
theorem stop_sp (x : Bs) : Stop (32 :: x) := by show prtP 32 = false; decide
theorem stop_nil : Stop [] := trivial
theorem words_none : Words false [] [] := Words.nil.open
/-- One part behind the other, each begins with a blank. -/
theorem Words.then {l1 l2 : Bs} {w1 w2 : List Bs} (h1 : Words false l1 w1) (h2 : Words false l2 w2) (hs : Stop l2) : Words false (l1 ++ l2) (w1 ++ w2) := h1.app h2 (.inr ⟨hs, .inl rfl⟩)
theorem itoa_at {n : Int} (h : 0 ≤ n) : itoa n = decDigits n.toNat := by
  unfold itoa
  rw [if_neg (by omega)]
theorem words_itoa {n : Int} (h : 0 ≤ n) (h1 : n < 1000000) : Words false (itoa n) [itoa n] := by
  rw [itoa_at h]
  exact words_num (by omega)
theorem tag_words (bits : Nat) : ∀ f k, f + k ≤ 4 → Words false (tagN bits f k) (tagD bits f k) ∧ Stop (tagN bits f k)
  | 0, _, _ => ⟨words_none, trivial⟩
  | f + 1, k, h => by
    obtain ⟨h1, h2⟩ := tag_words bits f (k + 1) (by omega)
    unfold tagN tagD
    split
    · have hd : decDigits k = [UInt8.ofNat (48 + k)] := decDigits_one (by omega)
      have h3 : Words false [UInt8.ofNat (48 + k)] [[UInt8.ofNat (48 + k)]] := by rw [← hd]; exact words_num (by omega)
      exact ⟨(words_sp h3).then h1 h2, stop_sp _⟩
    · exact ⟨h1, h2⟩
theorem tags_words {word : Bs} (hw : nameP word = true) (bits : Nat) : Words false (tagsT word bits) (tagW word bits) ∧ Stop (tagsT word bits) := by
  unfold tagsT tagW
  split
  · exact ⟨words_none, trivial⟩
  · obtain ⟨h1, h2⟩ := tag_words bits 4 0 (by omega)
    exact ⟨(words_sp (words_name hw)).then h1 h2, stop_sp _⟩
theorem nums_words {word : Bs} (hw : nameP word = true) {n : Int} (h0 : 0 ≤ n) (h1 : n < 1000000) : Words false (numT word n) (numW word n) ∧ Stop (numT word n) := by
  unfold numT numW
  split
  · exact ⟨words_none, trivial⟩
  · exact ⟨(words_sp (words_name hw)).then (words_sp (words_itoa h0 h1)) (stop_sp _), stop_sp _⟩
theorem nms_words {word s : Bs} (hw : nameP word = true) (hs : s ≠ [] → nameP s = true) : Words false (nmT word s) (nmW word s) ∧ Stop (nmT word s) := by
  unfold nmT nmW
  split
  · exact ⟨words_none, trivial⟩
  · rename_i h
    exact ⟨(words_sp (words_name hw)).then (words_sp (words_name (hs h))) (stop_sp _), stop_sp _⟩
theorem pft_words {a : Nat} {b : Int} (h : mayP a b = true ∧ a < 4294967296) : Words false (pfT a b) [pfT a b] := by
  obtain ⟨h0, _, _⟩ := may_bounds h.1
  have hb : ((b.toNat : Nat) : Int) = b := Int.toNat_of_nonneg h0
  unfold pfT
  rw [if_pos h.1]
  exact words_pf (by rw [hb]; exact h.1) h.2
theorem on_words {c : ClD} (h : c.sound) : Words false (onT c) [onT c] := by
  unfold onT
  split
  · exact words_name (by decide)
  · rename_i hc
    exact pft_words (h.on (by simpa using hc))
/-- Within a line. -/
theorem inn_words {l : Bs} {ws : List Bs} (h : Words false l ws) : Words true (innT l) (ws ++ [[59]]) := by
  have h1 : Words true [59, 10] [[59]] := by
    have := (words_sgn (c := 59) (by decide)).app (words_blk (c := 10) (by decide)) (.inl rfl)
    simpa using this
  have h2 := h.app h1 (.inr ⟨by show prtP 59 = false; decide, .inr (by simp)⟩)
  have h3 := (words_blk (c := 9) (by decide)).app h2 (.inl rfl)
  unfold innT
  simpa using h3
/-- A word and a blank. -/
theorem words_wd {x : Bs} (h : nameP x = true) : Words true (x ++ [32]) [x] := by
  have := (words_name h).app (words_blk (c := 32) (by decide)) (.inr ⟨stop_sp _, .inr (by simp)⟩)
  simpa using this
theorem line_words {c : ClD} (h : c.sound) : Words true (lineT c) (claW c) := by
  have h1 : Words false ([105, 102, 32] ++ onT c) ([[105, 102]] ++ [onT c]) := (words_wd (x := [105, 102]) (by decide)).app (on_words h) (.inl rfl)
  have h2 := tags_words (word := [119, 105, 116, 104]) (by decide) c.wi
  have h3 := tags_words (word := [111, 117, 116]) (by decide) c.ou
  have h4 : Words false [32, 116, 104, 101, 110] [[116, 104, 101, 110]] := words_sp (words_name (x := [116, 104, 101, 110]) (by decide))
  have h5 : Words false (dropT c) (if c.drop = true then [[100, 114, 111, 112]] else []) ∧ Stop (dropT c) := by
    unfold dropT
    split
    · exact ⟨words_sp (words_name (x := [100, 114, 111, 112]) (by decide)), stop_sp _⟩
    · exact ⟨words_none, trivial⟩
  have h6 := tags_words (word := [115, 101, 116]) (by decide) c.se
  have h7 := tags_words (word := [99, 108, 101, 97, 114]) (by decide) c.cl
  have h8 := nums_words (word := [109, 111, 114, 101]) (by decide) h.m0 (by have := h.m1; omega)
  have h9 := nums_words (word := [112, 114, 101, 102]) (by decide) h.p0 (by have := h.p1; omega)
  exact inn_words ((((((((h1.then h2.1 h2.2).then h3.1 h3.2).then h4 (stop_sp _)).then h5.1 h5.2).then h6.1 h6.2).then h7.1 h7.2).then h8.1 h8.2).then h9.1 h9.2)
theorem flat_words {α : Type} (f : α → Bs) (g : α → List Bs) : ∀ (l : List α), (∀ x ∈ l, Words true (f x) (g x)) → Words true (l.flatMap f) (l.flatMap g)
  | [], _ => Words.nil
  | x :: r, h => by
    rw [List.flatMap_cons, List.flatMap_cons]
    exact (h x (List.mem_cons_self ..)).app (flat_words f g r fun y hy => h y (List.mem_cons_of_mem _ hy)) (.inl rfl)
theorem head_words {kind name : Bs} (hk : nameP kind = true) (hn : nameP name = true) : Words true (headT kind name) [kind, name, [123]] := by
  have h1 : Words true [32, 123, 10] [[123]] := by
    have := ((words_blk (c := 32) (by decide)).app (words_sgn (c := 123) (by decide)) (.inl rfl)).app (words_blk (c := 10) (by decide)) (.inl rfl)
    simpa using this
  have h2 := ((words_name hk).then (words_sp (words_name hn)) (stop_sp _)).app h1 (.inr ⟨stop_sp _, .inr (by simp)⟩)
  exact h2
theorem foot_words : Words true footT [[125]] := by
  have := (words_sgn (c := 125) (by decide)).app (words_blk (c := 10) (by decide)) (.inl rfl)
  simpa [footT] using this
theorem map_words {m : MpD} (h : m.sound) : Words true (mapT m) (mapW m) :=
  ((head_words (by decide) h.n).app (flat_words lineT claW m.cls fun c hc => line_words (h.c c hc)) (.inl rfl)).app foot_words (.inl rfl)
theorem net_words {p : Nat × Int} (h : mayP p.1 p.2 = true ∧ p.1 < 4294967296) : Words true (netT p) (netW p) :=
  inn_words ((words_wd (x := [110, 101, 116]) (by decide)).app (pft_words h) (.inl rfl))
theorem link_words {l : LkD} (h : l.sound) : Words true (linkT l) (lnkW l) := by
  have h1 : Words true ([108, 105, 110, 107, 32]) [[108, 105, 110, 107]] := words_wd (x := [108, 105, 110, 107]) (by decide)
  have h2 := h1.app (words_name h.n) (.inl rfl)
  have h3 : Words true [32, 99, 111, 115, 116, 32] [[99, 111, 115, 116]] := by
    have := (words_blk (c := 32) (by decide)).app (words_wd (x := [99, 111, 115, 116]) (by decide)) (.inl rfl)
    simpa using this
  have h4 := (h2.app h3 (.inr ⟨stop_sp _, .inr (by simp)⟩)).app (words_itoa (n := l.cost) (by have := h.c0; omega) (by have := h.c1; omega)) (.inl rfl)
  have h5 := nms_words (word := [105, 109, 112, 111, 114, 116]) (by decide) h.i
  have h6 := nms_words (word := [101, 120, 112, 111, 114, 116]) (by decide) h.e
  exact inn_words ((h4.then h5.1 h5.2).then h6.1 h6.2)
theorem stat_words {s : StD} (h : s.sound) : Words true (statT s) (staW s) := by
  have h1 : Words true ([115, 116, 97, 116, 105, 99, 32]) [[115, 116, 97, 116, 105, 99]] := words_wd (x := [115, 116, 97, 116, 105, 99]) (by decide)
  have h2 := h1.app (pft_words h.p) (.inl rfl)
  have h3 : Words true [32, 118, 105, 97, 32] [[118, 105, 97]] := by
    have := (words_blk (c := 32) (by decide)).app (words_wd (x := [118, 105, 97]) (by decide)) (.inl rfl)
    simpa using this
  have h4 := (h2.app h3 (.inr ⟨stop_sp _, .inr (by simp)⟩)).app (words_name h.n) (.inl rfl)
  exact inn_words h4
theorem rout_words {r : RoD} (h : r.sound) : Words true (routT r) (rouW r) :=
  (((((head_words (by decide) h.n).app (flat_words netT netW r.nets fun p hp => net_words (h.t p hp)) (.inl rfl)).app (flat_words linkT lnkW r.lks fun l hl => link_words (h.l l hl)) (.inl rfl)).app
    (flat_words statT staW r.sts fun s hs => stat_words (h.s s hs)) (.inl rfl)).app foot_words (.inl rfl))
/-- The whole text's. -/
theorem conf_words {c : CfD} (h : c.sound) : Words true (confT c) (cfgW c) :=
  (flat_words mapT mapW c.maps fun m hm => map_words (h.m m hm)).app (flat_words routT rouW c.ros fun r hr => rout_words (h.r r hr)) (.inl rfl)
end Go.Proofs.YtejhgifadohbiaaGreatDoor
namespace Go.Proofs.YtejhgifadohbiaaGreatDoor
open Go.Lib

/-- Nothing but what is passed over. -/
def Void (W : Bs) : Prop := ∀ r i, toks (W ++ r) 0 i = toks r 0 (i + W.length)
theorem void_blk {W : Bs} (h : ∀ c ∈ W, blkP c = true) : Void W := by
  intro r i
  induction W generalizing i with
  | nil => rfl
  | cons c W ih =>
    rw [List.cons_append, toks, if_pos (h c (List.mem_cons_self ..)), ih (fun x hx => h x (List.mem_cons_of_mem _ hx)), List.length_cons]
    congr 1
    omega
theorem void_rem : Void [32, 35, 32, 120, 10] := by
  intro r i
  show toks (32 :: 35 :: 32 :: 120 :: 10 :: r) 0 i = _
  rw [toks_blank, toks, if_neg (by decide), if_pos (by decide)]
  have hs : spanN nlfP (32 :: 120 :: 10 :: r) = 2 := by
    rw [spanN, if_pos (by decide), spanN, if_pos (by decide), spanN, if_neg (by decide)]
  rw [hs, toks, toks, toks, if_pos (by decide)]
  rfl
/-- Where it is put in. -/
def gapP (c : UInt8) : Bool := decide (c.toNat = 32) || decide (c.toNat = 59) || decide (c.toNat = 10)
def blow (W l : Bs) : Bs := l.flatMap fun c => c :: if gapP c = true then W else []
theorem blow_cons (W : Bs) (c : UInt8) (r : Bs) : blow W (c :: r) = c :: ((if gapP c = true then W else []) ++ blow W r) := rfl
theorem blow_app (W a b : Bs) : blow W (a ++ b) = blow W a ++ blow W b := by
  unfold blow
  rw [List.flatMap_append]
theorem blow_prt (W : Bs) : ∀ {x : Bs}, (∀ c ∈ x, prtP c = true) → blow W x = x
  | [], _ => rfl
  | c :: x, h => by
    have hc := prt_not (h c (List.mem_cons_self ..))
    have hg : gapP c = false := by
      have h1 := hc.1
      have h3 := hc.2.2
      unfold blkP at h1
      unfold sgnP at h3
      unfold gapP
      simp at h1 h3 ⊢
      omega
    rw [blow_cons, if_neg (by rw [hg]; simp), List.nil_append, blow_prt W fun y hy => h y (List.mem_cons_of_mem _ hy)]
theorem stop_blow {W r : Bs} (h : Stop r) : Stop (blow W r) := by
  cases r with
  | nil => trivial
  | cons c r => exact h
def RelR : Nat ⊕ List Tk → Nat ⊕ List Tk → Prop
  | .inl _, .inl _ => True
  | .inr x, .inr y => RelL x y
  | _, _ => False
theorem rel_add {t u : Tk} (h : RelT t u) {a b : Nat ⊕ List Tk} (hr : RelR a b) : RelR (addT [t] a) (addT [u] b) := by
  cases a with
  | inl x => cases b with
    | inl y => trivial
    | inr y => exact hr.elim
  | inr x => cases b with
    | inl y => exact hr.elim
    | inr y => exact ⟨h, hr⟩
theorem void_if {W : Bs} (h : Void W) (b : Bool) (r : Bs) (i : Nat) : ∃ j, toks ((if b = true then W else []) ++ r) 0 i = toks r 0 j := by
  cases b with
  | true => exact ⟨_, h r i⟩
  | false => exact ⟨i, rfl⟩
theorem span_split {p : UInt8 → Bool} : ∀ (l : Bs), (∀ c ∈ l.take (spanN p l), p c = true) ∧ ∀ c r, l.drop (spanN p l) = c :: r → p c = false
  | [] => ⟨fun c h => by simp at h, fun c r h => by simp at h⟩
  | x :: l => by
    obtain ⟨h1, h2⟩ := span_split (p := p) l
    rw [spanN]
    split
    · rename_i hx
      refine ⟨fun c hc => ?_, fun c r hr => h2 c r (by simpa using hr)⟩
      rw [List.take_succ_cons] at hc
      rcases List.mem_cons.1 hc with rfl | hc
      · exact hx
      · exact h1 c hc
    · rename_i hx
      refine ⟨fun c hc => by simp at hc, fun c r hr => ?_⟩
      simp at hr
      rw [← hr.1]
      simpa using hx
theorem blow_rel {W : Bs} (hW : Void W) : ∀ (n : Nat) (l : Bs), l.length ≤ n → (35 : UInt8) ∉ l → ∀ i j, RelR (toks l 0 i) (toks (blow W l) 0 j)
  | n, [], _, _, i, j => ⟨⟨rfl, rfl, rfl, rfl, rfl⟩, trivial⟩
  | 0, c :: r, h, _, _, _ => by simp at h
  | n + 1, c :: r, hn, h35, i, j => by
    have hr35 : (35 : UInt8) ∉ r := fun h => h35 (List.mem_cons_of_mem _ h)
    have hc35 : ¬ c.toNat = 35 := fun h => h35 (by rw [show (35 : UInt8) = c from (UInt8.toNat_inj.1 (by rw [h]; rfl))]; exact List.mem_cons_self ..)
    have hrn : r.length ≤ n := by simpa using hn
    rw [blow_cons]
    by_cases hb : blkP c = true
    · obtain ⟨k, hk⟩ := void_if hW (gapP c) (blow W r) (j + 1)
      rw [toks, if_pos hb, toks, if_pos hb, hk]
      exact blow_rel hW n r hrn hr35 _ _
    · by_cases hs : sgnP c = true
      · obtain ⟨k, hk⟩ := void_if hW (gapP c) (blow W r) (j + 1)
        rw [toks, if_neg hb, if_neg hc35, if_pos hs, toks, if_neg hb, if_neg hc35, if_pos hs, hk]
        exact rel_add (t := ⟨4, [c], 0, 0, 0, i⟩) (u := ⟨4, [c], 0, 0, 0, j⟩) ⟨rfl, rfl, rfl, rfl, rfl⟩ (blow_rel hW n r hrn hr35 _ _)
      · obtain ⟨x, hx⟩ : ∃ x, x = (c :: r).take (spanN prtP (c :: r)) := ⟨_, rfl⟩
        obtain ⟨y, hy⟩ : ∃ y, y = (c :: r).drop (spanN prtP (c :: r)) := ⟨_, rfl⟩
        have hxy : c :: r = x ++ y := by rw [hx, hy, List.take_append_drop]
        have hsp := span_split (p := prtP) (c :: r)
        rw [← hx, ← hy] at hsp
        have hys : Stop y := by
          cases hy' : y with
          | nil => trivial
          | cons d z => exact hsp.2 d z hy'
        have hlen : x.length = spanN prtP (c :: r) := by
          rw [hx, List.length_take]
          have := span_le prtP (c :: r)
          omega
        have e1 : c :: ((if gapP c = true then W else []) ++ blow W r) = x ++ blow W y := by
          rw [← blow_cons, hxy, blow_app, blow_prt W hsp.1]
        cases hp : pieceP x with
        | none =>
          rw [toks, if_neg hb, if_neg hc35, if_neg hs, ← hx, hp]
          have e2 : (x ++ blow W y).take (spanN prtP (x ++ blow W y)) = x := by rw [span_stopS (stop_blow hys) x hsp.1, List.take_left]
          rw [toks, if_neg hb, if_neg hc35, if_neg hs, e1, e2, hp]
          trivial
        | some q =>
          have hx0 : x ≠ [] := by
            intro h
            rw [h, piece_nil] at hp
            cases hp
          have hL := lays_pc hsp.1 hp
          have h1 := hL y i (.inr hys)
          have h2 := hL (blow W y) j (.inr (stop_blow hys))
          rw [← hxy] at h1
          rw [e1, h1, h2]
          have hyn : y.length ≤ n := by
            have := congrArg List.length hxy
            rw [List.length_append, List.length_cons] at this
            have : 0 < x.length := List.length_pos_iff.2 hx0
            omega
          have hy35 : (35 : UInt8) ∉ y := fun h => h35 (by rw [hxy]; exact List.mem_append_right _ h)
          exact rel_add (t := tkAt i (x, 0)) (u := tkAt j (x, 0)) ⟨rfl, rfl, rfl, rfl, rfl⟩ (blow_rel hW n y hyn hy35 _ _)
end Go.Proofs.YtejhgifadohbiaaGreatDoor
namespace Go.Proofs.YtejhgifadohbiaaGreatDoor
open Go.Lib

/-- A letter of a token, a blank or a sign. -/
def okB (c : UInt8) : Bool := prtP c || blkP c || sgnP c
def AllB (l : Bs) : Prop := ∀ c ∈ l, okB c = true
theorem AllB.app {a b : Bs} (h1 : AllB a) (h2 : AllB b) : AllB (a ++ b) := fun c hc => (List.mem_append.1 hc).elim (h1 c) (h2 c)
theorem AllB.cons {c : UInt8} {b : Bs} (h1 : okB c = true) (h2 : AllB b) : AllB (c :: b) := fun x hx => (List.mem_cons.1 hx).elim (fun h => h ▸ h1) (h2 x)
theorem AllB.nil : AllB [] := fun c hc => by cases hc
theorem AllB.prt {x : Bs} (h : ∀ c ∈ x, prtP c = true) : AllB x := fun c hc => by unfold okB; rw [h c hc]; rfl
theorem AllB.dec {x : Bs} (h : x.all okB = true) : AllB x := fun c hc => List.all_eq_true.1 h c hc
theorem AllB.flat {α : Type} {f : α → Bs} {l : List α} (h : ∀ x ∈ l, AllB (f x)) : AllB (l.flatMap f) := fun c hc => by
  obtain ⟨x, hx, hc⟩ := List.mem_flatMap.1 hc
  exact h x hx c hc
theorem allB_name {x : Bs} (h : nameP x = true) : AllB x := AllB.prt (name_prt h)
theorem allB_itoa {n : Int} (h : 0 ≤ n) : AllB (itoa n) := by
  rw [itoa_at h]
  exact AllB.prt fun c hc => dig_prt (dec_dig _ c hc)
theorem allB_pf (a : Nat) (b : Int) : AllB (pfT a b) := by
  unfold pfT
  split
  · exact AllB.prt text_prt
  · exact AllB.nil
theorem tag_digs : ∀ k : Fin 4, okB (UInt8.ofNat (48 + k.val)) = true := by decide
theorem allB_tag (bits : Nat) : ∀ f k, f + k ≤ 4 → AllB (tagN bits f k)
  | 0, _, _ => AllB.nil
  | f + 1, k, h => by
    unfold tagN
    refine AllB.app ?_ (allB_tag bits f (k + 1) (by omega))
    split
    · exact AllB.cons (by decide) (AllB.cons (tag_digs ⟨k, by omega⟩) AllB.nil)
    · exact AllB.nil
theorem allB_tags {word : Bs} (h : AllB word) (bits : Nat) : AllB (tagsT word bits) := by
  unfold tagsT
  split
  · exact AllB.nil
  · exact (AllB.cons (by decide) h).app (allB_tag bits 4 0 (by omega))
theorem allB_num {word : Bs} (h : AllB word) {n : Int} (h0 : 0 ≤ n) : AllB (numT word n) := by
  unfold numT
  split
  · exact AllB.nil
  · exact (AllB.cons (by decide) h).app (AllB.cons (by decide) (allB_itoa h0))
theorem allB_nm {word s : Bs} (h : AllB word) (hs : s ≠ [] → nameP s = true) : AllB (nmT word s) := by
  unfold nmT
  split
  · exact AllB.nil
  · rename_i h2
    exact (AllB.cons (by decide) h).app (AllB.cons (by decide) (allB_name (hs h2)))
theorem allB_inn {l : Bs} (h : AllB l) : AllB (innT l) := (AllB.cons (by decide) h).app (AllB.dec (by decide))
theorem allB_line {c : ClD} (h : c.sound) : AllB (lineT c) := by
  have h1 : AllB (onT c) := by
    unfold onT
    split
    · exact AllB.dec (by decide)
    · exact allB_pf _ _
  have h2 : AllB (dropT c) := by unfold dropT; split <;> exact AllB.dec (by decide)
  exact allB_inn (((((((((AllB.dec (by decide) : AllB [105, 102, 32]).app h1).app (allB_tags (AllB.dec (by decide)) _)).app (allB_tags (AllB.dec (by decide)) _)).app (AllB.dec (by decide))).app h2).app (allB_tags (AllB.dec (by decide)) _)).app
    (allB_tags (AllB.dec (by decide)) _)).app (allB_num (AllB.dec (by decide)) h.m0) |>.app (allB_num (AllB.dec (by decide)) h.p0))
theorem allB_head {kind name : Bs} (h : AllB kind) (hn : nameP name = true) : AllB (headT kind name) := (h.app (AllB.cons (by decide) (allB_name hn))).app (AllB.dec (by decide))
theorem allB_conf {c : CfD} (h : c.sound) : AllB (confT c) := by
  refine AllB.app (AllB.flat fun m hm => ?_) (AllB.flat fun r hr => ?_)
  · have hs := h.m m hm
    exact ((allB_head (AllB.dec (by decide)) hs.n).app (AllB.flat fun c hc => allB_line (hs.c c hc))).app (AllB.dec (by decide))
  · have hs := h.r r hr
    refine ((((allB_head (AllB.dec (by decide)) hs.n).app (AllB.flat fun p hp => ?_)).app (AllB.flat fun l hl => ?_)).app (AllB.flat fun x hx => ?_)).app (AllB.dec (by decide))
    · exact allB_inn ((AllB.dec (by decide) : AllB [110, 101, 116, 32]).app (allB_pf _ _))
    · have hk := hs.l l hl
      exact allB_inn ((((((AllB.dec (by decide) : AllB [108, 105, 110, 107, 32]).app (allB_name hk.n)).app (AllB.dec (by decide))).app (allB_itoa (by have := hk.c0; omega))).app (allB_nm (AllB.dec (by decide)) hk.i)).app (allB_nm (AllB.dec (by decide)) hk.e))
    · have hk := hs.s x hx
      exact allB_inn ((((AllB.dec (by decide) : AllB [115, 116, 97, 116, 105, 99, 32]).app (allB_pf _ _)).app (AllB.dec (by decide))).app (allB_name hk.n))
theorem conf_no35 {c : CfD} (h : c.sound) : (35 : UInt8) ∉ confT c := fun h' => by
  have := allB_conf h 35 h'
  revert this
  decide
end Go.Proofs.YtejhgifadohbiaaGreatDoor
namespace Go.Proofs.YtejhgifadohbiaaGreatDoor
open Go.Lib

/-- An error and where; or what is read, and what is left. -/
abbrev Res (α : Type) := (Nat × Nat) ⊕ (α × List Tk)
def andR {α β : Type} (x : Res α) (f : α → List Tk → Res β) : Res β := match x with
  | .inl e => .inl e
  | .inr (a, r) => f a r
theorem andR_ok {α β : Type} {x : Res α} {f : α → List Tk → Res β} {a : α} {r : List Tk} (h : x = .inr (a, r)) : andR x f = f a r := by rw [h]; rfl
theorem andR_inr {α β : Type} {x : Res α} {f : α → List Tk → Res β} {y : β × List Tk} (h : andR x f = .inr y) : ∃ a r, x = .inr (a, r) ∧ f a r = .inr y := by
  cases x with
  | inl e => cases h
  | inr p => exact ⟨p.1, p.2, rfl, h⟩
/-- A token that must stand there. -/
def wordR (w : Bs) : List Tk → Res Nat
  | [] => .inl (2, 0)
  | t :: r => if t.text = w then .inr (t.pl, r) else .inl (2, t.pl)
def nameR : List Tk → Res Bs
  | [] => .inl (2, 0)
  | t :: r => if t.kind = 1 then .inr (t.text, r) else .inl (2, t.pl)
def pfxR : List Tk → Res (Nat × Int)
  | [] => .inl (2, 0)
  | t :: r => if t.kind = 3 then .inr ((t.a, (t.b : Int)), r) else .inl (2, t.pl)
def nbrR (most : Nat) : List Tk → Res Int
  | [] => .inl (2, 0)
  | t :: r => if t.kind = 2 then (if 1 ≤ t.val ∧ t.val ≤ most then .inr ((t.val : Int), r) else .inl (6, t.pl)) else .inl (2, t.pl)
/-- Behind a word, if it is there. -/
def optN (w : Bs) (most : Nat) : List Tk → Res Int
  | [] => .inr (0, [])
  | t :: r => if t.text = w then nbrR most r else .inr (0, t :: r)
def optS (w : Bs) : List Tk → Res Bs
  | [] => .inr ([], [])
  | t :: r => if t.text = w then nameR r else .inr ([], t :: r)
def optB (w : Bs) : List Tk → Res Bool
  | [] => .inr (false, [])
  | t :: r => if t.text = w then .inr (true, r) else .inr (false, t :: r)
def tagsR : List Tk → Nat → Nat → Res Nat
  | [], bits, _ => .inr (bits, [])
  | t :: r, bits, lo => if t.kind = 2 then (if 3 < t.val then .inl (6, t.pl) else if t.val < lo then .inl (4, t.pl) else tagsR r (bits + 2 ^ t.val) (t.val + 1)) else .inr (bits, t :: r)
def tag1 : List Tk → Res Nat
  | [] => .inl (2, 0)
  | t :: r => if t.kind = 2 then tagsR (t :: r) 0 0 else .inl (2, t.pl)
def optT (w : Bs) : List Tk → Res Nat
  | [] => .inr (0, [])
  | t :: r => if t.text = w then tag1 r else .inr (0, t :: r)
/-- Any, or a net. -/
def onR : List Tk → Res (Bool × Nat × Int)
  | [] => .inl (2, 0)
  | t :: r => if t.text = [97, 110, 121] then .inr ((true, 0, 0), r) else if t.kind = 3 then .inr ((false, t.a, (t.b : Int)), r) else .inl (2, t.pl)
def claR (ts : List Tk) : Res ClD :=
  andR (wordR [105, 102] ts) fun _ r => andR (onR r) fun o r => andR (optT [119, 105, 116, 104] r) fun wi r => andR (optT [111, 117, 116] r) fun ou r => andR (wordR [116, 104, 101, 110] r) fun _ r =>
  andR (optB [100, 114, 111, 112] r) fun d r => andR (optT [115, 101, 116] r) fun se r => andR (optT [99, 108, 101, 97, 114] r) fun cl r => andR (optN [109, 111, 114, 101] 15 r) fun m r => andR (optN [112, 114, 101, 102] 255 r) fun p r =>
  andR (wordR [59] r) fun _ r => .inr (⟨o.1, o.2.1, o.2.2, wi, ou, d, se, cl, m, p⟩, r)
/-- Clauses up to the brace, at most so many. -/
def clasR : Nat → List Tk → Res (List ClD)
  | _, [] => .inr ([], [])
  | n, t :: r => if t.text = [125] then .inr ([], t :: r) else match n with
    | 0 => .inl (7, t.pl)
    | n + 1 => andR (claR (t :: r)) fun c r => andR (clasR n r) fun cs r => .inr (c :: cs, r)
/-- Things that begin with a word, at most so many. -/
def manyR {α : Type} (w : Bs) (f : List Tk → Res α) : Nat → List Tk → Res (List α)
  | _, [] => .inr ([], [])
  | n, t :: r => if t.text = w then (match n with
    | 0 => .inl (7, t.pl)
    | n + 1 => andR (f (t :: r)) fun c r => andR (manyR w f n r) fun cs r => .inr (c :: cs, r)) else .inr ([], t :: r)
def mapR (ts : List Tk) : Res MpD :=
  andR (wordR [109, 97, 112] ts) fun p r => andR (nameR r) fun n r => andR (wordR [123] r) fun _ r => andR (clasR 16 r) fun cs r => andR (wordR [125] r) fun _ r => .inr (⟨n, cs, (p : Int)⟩, r)
def netR (ts : List Tk) : Res (Nat × Int) := andR (wordR [110, 101, 116] ts) fun _ r => andR (pfxR r) fun p r => andR (wordR [59] r) fun _ r => .inr (p, r)
def lnkR (ts : List Tk) : Res LkD :=
  andR (wordR [108, 105, 110, 107] ts) fun p r => andR (nameR r) fun n r => andR (wordR [99, 111, 115, 116] r) fun _ r => andR (nbrR 1000 r) fun c r => andR (optS [105, 109, 112, 111, 114, 116] r) fun i r => andR (optS [101, 120, 112, 111, 114, 116] r) fun e r =>
  andR (wordR [59] r) fun _ r => .inr (⟨n, c, i, e, (p : Int)⟩, r)
def staR (ts : List Tk) : Res StD :=
  andR (wordR [115, 116, 97, 116, 105, 99] ts) fun p r => andR (pfxR r) fun x r => andR (wordR [118, 105, 97] r) fun _ r => andR (nameR r) fun n r => andR (wordR [59] r) fun _ r => .inr (⟨x.1, x.2, n, (p : Int)⟩, r)
def rouR (ts : List Tk) : Res RoD :=
  andR (wordR [114, 111, 117, 116, 101, 114] ts) fun p r => andR (nameR r) fun n r => andR (wordR [123] r) fun _ r => andR (manyR [110, 101, 116] netR 8 r) fun ns r => andR (manyR [108, 105, 110, 107] lnkR 64 r) fun ls r =>
  andR (manyR [115, 116, 97, 116, 105, 99] staR 8 r) fun ss r => andR (wordR [125] r) fun _ r => .inr (⟨n, ns, ls, ss, (p : Int)⟩, r)
def endR : List Tk → Res Nat
  | [] => .inl (2, 0)
  | t :: r => if t.kind = 0 then .inr (t.pl, r) else .inl (2, t.pl)
/-- The configuration that tokens are. -/
def cfgR (ts : List Tk) : Res CfD :=
  andR (manyR [109, 97, 112] mapR 64 ts) fun ms r => andR (manyR [114, 111, 117, 116, 101, 114] rouR 64 r) fun rs r => andR (endR r) fun _ r => .inr (⟨ms, rs⟩, r)
/-- What is read of a text: an error and where, or a configuration. -/
def readP (l : Bs) : (Nat × Nat) ⊕ CfD :=
  if 65536 < l.length then .inl (7, 0) else match toks l 0 0 with
  | .inl k => .inl (1, k)
  | .inr ts => match cfgR ts with
    | .inl e => .inl e
    | .inr (c, _) => .inr c
end Go.Proofs.YtejhgifadohbiaaGreatDoor
namespace Go.Proofs.YtejhgifadohbiaaGreatDoor
open Go.Lib

/-- Where a reader is: what is left, or an error and where. -/
abbrev Sta := (List Tk) ⊕ (Nat × Nat)
def resS {α : Type} : Res α → Sta × Option α
  | .inl e => (.inr e, none)
  | .inr (a, r') => (.inl r', some a)
def stepS {α : Type} (f : List Tk → Res α) : Sta → Sta × Option α
  | .inr e => (.inr e, none)
  | .inl r => resS (f r)
/-- What was answered is what was asked, where anything was. -/
def Agr {α : Type} (a : α) (o : Option α) : Prop := ∀ x, o = some x → a = x
section
variable {α β : Type}
theorem Agr.none (a : α) : Agr a none := fun _ h => by cases h
theorem Agr.some (a : α) : Agr a (some a) := fun _ h => by injection h
theorem agr_any (d : α) (o : Option α) : ∃ a, Agr a o := by
  cases o with
  | none => exact ⟨d, Agr.none d⟩
  | some a => exact ⟨a, Agr.some a⟩
theorem Agr.getD (d : α) (o : Option α) : Agr (o.getD d) o := fun x h => by rw [h]; rfl
theorem step_inr (f : List Tk → Res α) (e : Nat × Nat) : stepS f (.inr e) = (.inr e, none) := rfl
theorem step_ok {f : List Tk → Res α} {r r' : List Tk} {a : α} (h : f r = .inr (a, r')) : stepS f (.inl r) = (.inl r', some a) := by show resS (f r) = _; rw [h]; rfl
theorem step_no {f : List Tk → Res α} {r : List Tk} {e : Nat × Nat} (h : f r = .inl e) : stepS f (.inl r) = (.inr e, none) := by show resS (f r) = _; rw [h]; rfl
theorem step_ret (a : α) (s : Sta) : (stepS (fun r => (.inr (a, r) : Res α)) s).1 = s ∧ Agr a (stepS (fun r => (.inr (a, r) : Res α)) s).2 := by
  cases s with
  | inl r => exact ⟨rfl, Agr.some a⟩
  | inr e => exact ⟨rfl, Agr.none a⟩
/-- One after the other. -/
theorem step_and {f : List Tk → Res α} {g : α → List Tk → Res β} {s : Sta} {a : α} (h : Agr a (stepS f s).2) : stepS (fun r => andR (f r) g) s = stepS (g a) (stepS f s).1 := by
  cases s with
  | inr e => rfl
  | inl r =>
    cases hf : f r with
    | inl e =>
      rw [step_no hf, step_no (f := fun r => andR (f r) g) (e := e) (by show andR (f r) g = _; rw [hf]; rfl)]
      rfl
    | inr p =>
      obtain ⟨x, r'⟩ := p
      rw [step_ok hf] at h ⊢
      have : a = x := h x rfl
      subst this
      show stepS (fun r => andR (f r) g) (.inl r) = stepS (g a) (.inl r')
      show resS (andR (f r) g) = resS (g a r')
      rw [andR_ok hf]
theorem step_congr {f g : List Tk → Res α} {s : Sta} (h : ∀ r, s = .inl r → f r = g r) : stepS f s = stepS g s := by
  cases s with
  | inr e => rfl
  | inl r => show resS (f r) = resS (g r); rw [h r rfl]
end
/-- A reader's own pieces. -/
def numR (least most : Nat) : List Tk → Res Nat
  | [] => .inl (2, 0)
  | t :: r => if t.kind = 2 then (if t.val < least ∨ most < t.val then .inl (6, t.pl) else .inr (t.val, r)) else .inl (2, t.pl)
theorem nbr_num (most : Nat) (ts : List Tk) : nbrR most ts = andR (numR 1 most ts) fun n r => .inr ((n : Int), r) := by
  cases ts with
  | nil => rfl
  | cons t r =>
    unfold nbrR numR
    dsimp only
    by_cases h : t.kind = 2
    · rw [if_pos h, if_pos h]
      by_cases h2 : 1 ≤ t.val ∧ t.val ≤ most
      · rw [if_pos h2, if_neg (by omega)]
        rfl
      · rw [if_neg h2, if_pos (by omega)]
        rfl
    · rw [if_neg h, if_neg h]
      rfl
theorem optN_is (w : Bs) (most : Nat) (ts : List Tk) : optN w most ts = andR (optB w ts) fun b r => if b = true then andR (numR 1 most r) (fun n r => .inr ((n : Int), r)) else .inr (0, r) := by
  cases ts with
  | nil => rfl
  | cons t r =>
    unfold optN optB
    dsimp only
    by_cases h : t.text = w
    · rw [if_pos h, if_pos h, nbr_num]
      rfl
    · rw [if_neg h, if_neg h]
      rfl
theorem optS_is (w : Bs) (ts : List Tk) : optS w ts = andR (optB w ts) fun b r => if b = true then nameR r else .inr ([], r) := by
  cases ts with
  | nil => rfl
  | cons t r =>
    unfold optS optB
    dsimp only
    by_cases h : t.text = w
    · rw [if_pos h, if_pos h]
      rfl
    · rw [if_neg h, if_neg h]
      rfl
theorem onR_is (ts : List Tk) : onR ts = andR (optB [97, 110, 121] ts) fun b r => if b = true then .inr ((true, 0, 0), r) else andR (pfxR r) fun p r => .inr ((false, p.1, p.2), r) := by
  cases ts with
  | nil => rfl
  | cons t r =>
    unfold onR optB
    dsimp only
    by_cases h : t.text = [97, 110, 121]
    · rw [if_pos h, if_pos h]
      rfl
    · rw [if_neg h, if_neg h]
      show _ = andR (pfxR (t :: r)) _
      unfold pfxR
      dsimp only
      by_cases h3 : t.kind = 3
      · rw [if_pos h3, if_pos h3]
        rfl
      · rw [if_neg h3, if_neg h3]
        rfl
def anoR (w : Bs) (have' most : Nat) : List Tk → Res Bool
  | [] => .inr (false, [])
  | t :: r => if t.text = w then (if have' = most then .inl (7, t.pl) else .inr (true, t :: r)) else .inr (false, t :: r)
def mclR (have' : Nat) : List Tk → Res Bool
  | [] => .inr (false, [])
  | t :: r => if t.text = [125] then .inr (false, t :: r) else if have' = 16 then .inl (7, t.pl) else .inr (true, t :: r)
/-- Where another one begins: it is read, and the others behind it. -/
theorem many_go {α β : Type} {w : Bs} {f : List Tk → Res α} {n m k : Nat} {s : Sta} {G : List α → List Tk → Res β} {a : α} {b : Bool} (hn : n + m = k) (hb : b = (stepS (anoR w n k) s).2.getD false) (ht : b = true) (ha : Agr a (stepS f (stepS (anoR w n k) s).1).2) :
    0 < m ∧ stepS (fun r => andR (manyR w f m r) G) s = stepS (fun r => andR (manyR w f (m - 1) r) fun l => G (a :: l)) (stepS f (stepS (anoR w n k) s).1).1 := by
  subst ht
  cases s with
  | inr e => cases hb
  | inl r =>
    cases r with
    | nil => cases hb
    | cons t r =>
      by_cases h : t.text = w
      · by_cases hk : n = k
        · rw [step_no (e := (7, t.pl)) (by unfold anoR; dsimp only; rw [if_pos h, if_pos hk])] at hb
          cases hb
        · have e1 : stepS (anoR w n k) (.inl (t :: r)) = (.inl (t :: r), some true) := step_ok (by unfold anoR; dsimp only; rw [if_pos h, if_neg hk])
          rw [e1] at ha ⊢
          obtain ⟨m', rfl⟩ : ∃ m', m = m' + 1 := ⟨m - 1, by omega⟩
          refine ⟨by omega, ?_⟩
          rw [Nat.add_sub_cancel, ← step_and (g := fun a r => andR (manyR w f m' r) fun l => G (a :: l)) ha]
          refine step_congr fun r' hr' => ?_
          injection hr' with hr'
          subst hr'
          rw [manyR.eq_def]
          dsimp only
          rw [if_pos h]
          cases f (t :: r) with
          | inl e => rfl
          | inr p =>
            obtain ⟨x, r2⟩ := p
            show andR (andR (manyR w f m' r2) fun cs r => .inr (x :: cs, r)) G = andR (manyR w f m' r2) fun l => G (x :: l)
            cases manyR w f m' r2 <;> rfl
      · rw [step_ok (r' := t :: r) (a := false) (by unfold anoR; dsimp only; rw [if_neg h])] at hb
        cases hb
/-- Where none begins, or none may: the end. -/
theorem many_stop {α β : Type} {w : Bs} {f : List Tk → Res α} {n m k : Nat} {s : Sta} {G : List α → List Tk → Res β} (hn : n + m = k) (hb : (stepS (anoR w n k) s).2.getD false = false) :
    stepS (fun r => andR (manyR w f m r) G) s = stepS (G []) (stepS (anoR w n k) s).1 := by
  cases s with
  | inr e => rfl
  | inl r =>
    cases r with
    | nil =>
      show stepS _ (.inl []) = stepS (G []) (.inl [])
      refine step_congr fun r hr => ?_
      injection hr with hr
      subst hr
      cases m <;> rfl
    | cons t r =>
      by_cases h : t.text = w
      · by_cases hk : n = k
        · rw [step_no (f := anoR w n k) (e := (7, t.pl)) (by unfold anoR; dsimp only; rw [if_pos h, if_pos hk])]
          obtain rfl : m = 0 := by omega
          refine step_no ?_
          rw [manyR.eq_def]
          dsimp only
          rw [if_pos h]
          rfl
        · rw [step_ok (r' := t :: r) (a := true) (by unfold anoR; dsimp only; rw [if_pos h, if_neg hk])] at hb
          cases hb
      · rw [step_ok (f := anoR w n k) (r' := t :: r) (a := false) (by unfold anoR; dsimp only; rw [if_neg h])]
        refine step_congr fun r' hr' => ?_
        injection hr' with hr'
        subst hr'
        rw [manyR.eq_def]
        dsimp only
        rw [if_neg h]
        rfl
/-- The same of clauses. -/
theorem clas_go {β : Type} {n m : Nat} {s : Sta} {G : List ClD → List Tk → Res β} {a : ClD} {b : Bool} (hn : n + m = 16) (hb : b = (stepS (mclR n) s).2.getD false) (ht : b = true) (ha : Agr a (stepS claR (stepS (mclR n) s).1).2) :
    0 < m ∧ stepS (fun r => andR (clasR m r) G) s = stepS (fun r => andR (clasR (m - 1) r) fun l => G (a :: l)) (stepS claR (stepS (mclR n) s).1).1 := by
  subst ht
  cases s with
  | inr e => cases hb
  | inl r =>
    cases r with
    | nil => cases hb
    | cons t r =>
      by_cases h : t.text = [125]
      · rw [step_ok (r' := t :: r) (a := false) (by unfold mclR; dsimp only; rw [if_pos h])] at hb
        cases hb
      · by_cases hk : n = 16
        · rw [step_no (e := (7, t.pl)) (by unfold mclR; dsimp only; rw [if_neg h, if_pos hk])] at hb
          cases hb
        · have e1 : stepS (mclR n) (.inl (t :: r)) = (.inl (t :: r), some true) := step_ok (by unfold mclR; dsimp only; rw [if_neg h, if_neg hk])
          rw [e1] at ha ⊢
          obtain ⟨m', rfl⟩ : ∃ m', m = m' + 1 := ⟨m - 1, by omega⟩
          refine ⟨by omega, ?_⟩
          rw [Nat.add_sub_cancel, ← step_and (g := fun a r => andR (clasR m' r) fun l => G (a :: l)) ha]
          refine step_congr fun r' hr' => ?_
          injection hr' with hr'
          subst hr'
          rw [clasR.eq_def]
          dsimp only
          rw [if_neg h]
          cases claR (t :: r) with
          | inl e => rfl
          | inr p =>
            obtain ⟨x, r2⟩ := p
            show andR (andR (clasR m' r2) fun cs r => .inr (x :: cs, r)) G = andR (clasR m' r2) fun l => G (x :: l)
            cases clasR m' r2 <;> rfl
theorem clas_stop {β : Type} {n m : Nat} {s : Sta} {G : List ClD → List Tk → Res β} (hn : n + m = 16) (hb : (stepS (mclR n) s).2.getD false = false) :
    stepS (fun r => andR (clasR m r) G) s = stepS (G []) (stepS (mclR n) s).1 := by
  cases s with
  | inr e => rfl
  | inl r =>
    cases r with
    | nil =>
      show stepS _ (.inl []) = stepS (G []) (.inl [])
      refine step_congr fun r hr => ?_
      injection hr with hr
      subst hr
      cases m <;> rfl
    | cons t r =>
      by_cases h : t.text = [125]
      · rw [step_ok (f := mclR n) (r' := t :: r) (a := false) (by unfold mclR; dsimp only; rw [if_pos h])]
        refine step_congr fun r' hr' => ?_
        injection hr' with hr'
        subst hr'
        rw [clasR.eq_def]
        dsimp only
        rw [if_pos h]
        rfl
      · by_cases hk : n = 16
        · rw [step_no (f := mclR n) (e := (7, t.pl)) (by unfold mclR; dsimp only; rw [if_neg h, if_pos hk])]
          obtain rfl : m = 0 := by omega
          refine step_no ?_
          rw [clasR.eq_def]
          dsimp only
          rw [if_neg h]
          rfl
        · rw [step_ok (r' := t :: r) (a := true) (by unfold mclR; dsimp only; rw [if_neg h, if_neg hk])] at hb
          cases hb
/-- A word's place is where the reader is. -/
theorem word_pl {w : Bs} {s : Sta} {p : Nat} (h : ∀ t r, s = .inl (t :: r) → p = t.pl) : Agr p (stepS (wordR w) s).2 := by
  cases s with
  | inr e => exact Agr.none p
  | inl r =>
    cases r with
    | nil => exact Agr.none p
    | cons t r =>
      by_cases hw : t.text = w
      · rw [step_ok (r' := r) (a := t.pl) (by unfold wordR; dsimp only; rw [if_pos hw]), h t r rfl]
        exact Agr.some _
      · rw [step_no (e := (2, t.pl)) (by unfold wordR; dsimp only; rw [if_neg hw])]
        exact Agr.none p
end Go.Proofs.YtejhgifadohbiaaGreatDoor
namespace Go.Proofs.YtejhgifadohbiaaGreatDoor
open Go.Lib

def tk0 (w : Bs) : Tk := (tokOf w).getD (endT 0)
/-- Tokens of these words stand ahead of what is left. -/
def Tl (ws : List Bs) (r ts : List Tk) : Prop := ∃ us, ts = us ++ r ∧ RelL (ws.map tk0) us
theorem Tl.nil {r ts : List Tk} (h : Tl [] r ts) : ts = r := by
  obtain ⟨us, rfl, h⟩ := h
  cases us with
  | nil => rfl
  | cons u us => exact h.elim
theorem Tl.cons {w : Bs} {ws : List Bs} {r ts : List Tk} (h : Tl (w :: ws) r ts) : ∃ t ts', ts = t :: ts' ∧ RelT (tk0 w) t ∧ Tl ws r ts' := by
  obtain ⟨us, rfl, h⟩ := h
  cases us with
  | nil => exact h.elim
  | cons u us => exact ⟨u, us ++ r, rfl, h.1, us, rfl, h.2⟩
theorem relL_app : ∀ {a b us : List Tk}, RelL (a ++ b) us → ∃ u v, us = u ++ v ∧ RelL a u ∧ RelL b v
  | [], b, us, h => ⟨[], us, rfl, trivial, h⟩
  | x :: a, b, [], h => h.elim
  | x :: a, b, u :: us, h => by
    obtain ⟨p, q, rfl, h1, h2⟩ := relL_app (a := a) (b := b) (us := us) h.2
    exact ⟨u :: p, q, rfl, ⟨h.1, h1⟩, h2⟩
theorem Tl.app {ws1 ws2 : List Bs} {r ts : List Tk} (h : Tl (ws1 ++ ws2) r ts) : ∃ ts', Tl ws1 ts' ts ∧ Tl ws2 r ts' := by
  obtain ⟨us, rfl, h⟩ := h
  rw [List.map_append] at h
  obtain ⟨p, q, rfl, h1, h2⟩ := relL_app h
  exact ⟨q ++ r, ⟨p, by rw [List.append_assoc], h1⟩, q, rfl, h2⟩
theorem tok_sgn {c : UInt8} (h : sgnP c = true) : tk0 [c] = ⟨4, [c], 0, 0, 0, 0⟩ := by
  unfold tk0 tokOf
  simp only [if_pos h]
  rfl
theorem tok_piece {x : Bs} {q : Tk} (h3 : ∀ c ∈ x, prtP c = true) (h1 : pieceP x = some q) : tk0 x = q := by
  unfold tk0 tokOf
  split
  · rename_i c
    rw [if_neg (by rw [(prt_not (h3 c (List.mem_cons_self ..))).2.2]; simp), h1]
    rfl
  · rw [h1]
    rfl
theorem tok_name {x : Bs} (h : nameP x = true) : tk0 x = ⟨1, x, 0, 0, 0, 0⟩ := tok_piece (name_prt h) (by unfold pieceP; rw [if_pos h])
theorem tok_num {n : Nat} (h : n < 1000000) : tk0 (decDigits n) = ⟨2, decDigits n, n, 0, 0, 0⟩ := tok_piece (fun c hc => dig_prt (dec_dig n c hc)) (by rw [piece_digs (dec_dig n), tn_dec h]; rfl)
theorem tok_pf {a b : Nat} (hm : mayP a b = true) (ha : a < 4294967296) : tk0 (textP a b) = ⟨3, textP a b, 0, a, b, 0⟩ := tok_piece text_prt (pf_piece hm ha)
theorem rel_name {x : Bs} {t : Tk} (h : nameP x = true) (hr : RelT (tk0 x) t) : t.kind = 1 ∧ t.text = x := by
  rw [tok_name h] at hr
  exact ⟨hr.1.symm, hr.2.1.symm⟩
theorem rel_sgn {c : UInt8} {t : Tk} (h : sgnP c = true) (hr : RelT (tk0 [c]) t) : t.kind = 4 ∧ t.text = [c] := by
  rw [tok_sgn h] at hr
  exact ⟨hr.1.symm, hr.2.1.symm⟩
theorem rel_itoa {n : Int} {t : Tk} (h : 0 ≤ n) (h1 : n < 1000000) (hr : RelT (tk0 (itoa n)) t) : t.kind = 2 ∧ (t.val : Int) = n := by
  rw [itoa_at h, tok_num (by omega)] at hr
  refine ⟨hr.1.symm, ?_⟩
  have := hr.2.2.1
  dsimp only at this
  omega
theorem rel_pf {a : Nat} {b : Int} {t : Tk} (h : mayP a b = true ∧ a < 4294967296) (hr : RelT (tk0 (pfT a b)) t) : t.kind = 3 ∧ t.a = a ∧ (t.b : Int) = b ∧ t.text = pfT a b := by
  obtain ⟨h0, _, _⟩ := may_bounds h.1
  have hb : ((b.toNat : Nat) : Int) = b := Int.toNat_of_nonneg h0
  have e : pfT a b = textP a b.toNat := by unfold pfT; rw [if_pos h.1]
  rw [e, tok_pf (by rw [hb]; exact h.1) h.2] at hr
  refine ⟨hr.1.symm, hr.2.2.2.1.symm, ?_, by rw [e]; exact hr.2.1.symm⟩
  have := hr.2.2.2.2
  dsimp only at this
  omega
theorem rd_word {w : Bs} {ws : List Bs} {r ts : List Tk} (hw : nameP w = true) (h : Tl (w :: ws) r ts) : ∃ p ts', wordR w ts = .inr (p, ts') ∧ Tl ws r ts' := by
  obtain ⟨t, ts', rfl, h1, h2⟩ := h.cons
  exact ⟨t.pl, ts', by rw [wordR, if_pos (rel_name hw h1).2], h2⟩
theorem rd_sgn {c : UInt8} {ws : List Bs} {r ts : List Tk} (hw : sgnP c = true) (h : Tl ([c] :: ws) r ts) : ∃ p ts', wordR [c] ts = .inr (p, ts') ∧ Tl ws r ts' := by
  obtain ⟨t, ts', rfl, h1, h2⟩ := h.cons
  exact ⟨t.pl, ts', by rw [wordR, if_pos (rel_sgn hw h1).2], h2⟩
theorem rd_name {w : Bs} {ws : List Bs} {r ts : List Tk} (hw : nameP w = true) (h : Tl (w :: ws) r ts) : ∃ ts', nameR ts = .inr (w, ts') ∧ Tl ws r ts' := by
  obtain ⟨t, ts', rfl, h1, h2⟩ := h.cons
  obtain ⟨e1, e2⟩ := rel_name hw h1
  exact ⟨ts', by rw [nameR, if_pos e1, e2], h2⟩
theorem rd_pfx {p : Nat × Int} {ws : List Bs} {r ts : List Tk} (hw : mayP p.1 p.2 = true ∧ p.1 < 4294967296) (h : Tl (pfT p.1 p.2 :: ws) r ts) : ∃ ts', pfxR ts = .inr (p, ts') ∧ Tl ws r ts' := by
  obtain ⟨t, ts', rfl, h1, h2⟩ := h.cons
  obtain ⟨e1, e2, e3, _⟩ := rel_pf hw h1
  exact ⟨ts', by rw [pfxR, if_pos e1, e2, e3], h2⟩
theorem rd_nbr {n : Int} {most : Nat} {ws : List Bs} {r ts : List Tk} (h0 : 1 ≤ n) (h1 : n ≤ most) (hm : most < 1000000) (h : Tl (itoa n :: ws) r ts) : ∃ ts', nbrR most ts = .inr (n, ts') ∧ Tl ws r ts' := by
  obtain ⟨t, ts', rfl, h2, h3⟩ := h.cons
  obtain ⟨e1, e2⟩ := rel_itoa (by omega) (by omega) h2
  exact ⟨ts', by rw [nbrR, if_pos e1, if_pos (by omega), e2], h3⟩
/-- What may stand next: no number. -/
def Fol (L : List Bs) (r : List Tk) : Prop := ∃ t r', r = t :: r' ∧ t.kind ≠ 2 ∧ t.text ∈ L
theorem Fol.more {L L' : List Bs} {r : List Tk} (h : Fol L r) (hl : ∀ x ∈ L, x ∈ L') : Fol L' r := by
  obtain ⟨t, r', e, h1, h2⟩ := h
  exact ⟨t, r', e, h1, hl _ h2⟩
theorem fol_name {L : List Bs} {w : Bs} {ws : List Bs} {r ts : List Tk} (hw : nameP w = true) (h : Tl (w :: ws) r ts) (hl : w ∈ L) : Fol L ts := by
  obtain ⟨t, ts', rfl, h1, h2⟩ := h.cons
  obtain ⟨e1, e2⟩ := rel_name hw h1
  exact ⟨t, ts', rfl, by omega, by rw [e2]; exact hl⟩
theorem fol_sgn {L : List Bs} {c : UInt8} {ws : List Bs} {r ts : List Tk} (hw : sgnP c = true) (h : Tl ([c] :: ws) r ts) (hl : [c] ∈ L) : Fol L ts := by
  obtain ⟨t, ts', rfl, h1, h2⟩ := h.cons
  obtain ⟨e1, e2⟩ := rel_sgn hw h1
  exact ⟨t, ts', rfl, by omega, by rw [e2]; exact hl⟩
theorem rd_optN {w : Bs} {most : Nat} {n : Int} {L : List Bs} {r ts : List Tk} (hw : nameP w = true) (h0 : 0 ≤ n) (h1 : n ≤ most) (hm : most < 1000000) (hf : Fol L r) (hL : w ∉ L) (h : Tl (numW w n) r ts) : optN w most ts = .inr (n, r) ∧ Fol (w :: L) ts := by
  unfold numW at h
  split at h
  · rename_i hn
    subst hn
    obtain rfl := h.nil
    obtain ⟨t, r', rfl, h2, h3⟩ := hf
    exact ⟨by rw [optN, if_neg (fun e : t.text = w => hL (by rw [← e]; exact h3))], t, r', rfl, h2, List.mem_cons_of_mem _ h3⟩
  · rename_i hn
    have hF := fol_name (L := w :: L) hw h (List.mem_cons_self ..)
    obtain ⟨t, ts', rfl, h2, h3⟩ := h.cons
    obtain ⟨ts'', h4, h5⟩ := rd_nbr (by omega) h1 hm h3
    obtain rfl := h5.nil
    exact ⟨by rw [optN, if_pos (rel_name hw h2).2, h4], hF⟩
theorem rd_optS {w s : Bs} {L : List Bs} {r ts : List Tk} (hw : nameP w = true) (hs : s ≠ [] → nameP s = true) (hf : Fol L r) (hL : w ∉ L) (h : Tl (nmW w s) r ts) : optS w ts = .inr (s, r) ∧ Fol (w :: L) ts := by
  unfold nmW at h
  split at h
  · rename_i hn
    subst hn
    obtain rfl := h.nil
    obtain ⟨t, r', rfl, h2, h3⟩ := hf
    exact ⟨by rw [optS, if_neg (fun e : t.text = w => hL (by rw [← e]; exact h3))], t, r', rfl, h2, List.mem_cons_of_mem _ h3⟩
  · rename_i hn
    have hF := fol_name (L := w :: L) hw h (List.mem_cons_self ..)
    obtain ⟨t, ts', rfl, h2, h3⟩ := h.cons
    obtain ⟨ts'', h4, h5⟩ := rd_name (hs hn) h3
    obtain rfl := h5.nil
    exact ⟨by rw [optS, if_pos (rel_name hw h2).2, h4], hF⟩
theorem rd_optB {w : Bs} {b : Bool} {L : List Bs} {r ts : List Tk} (hw : nameP w = true) (hf : Fol L r) (hL : w ∉ L) (h : Tl (if b = true then [w] else []) r ts) : optB w ts = .inr (b, r) ∧ Fol (w :: L) ts := by
  cases b with
  | false =>
    obtain rfl := Tl.nil h
    obtain ⟨t, r', rfl, h2, h3⟩ := hf
    exact ⟨by rw [optB, if_neg (fun e : t.text = w => hL (by rw [← e]; exact h3))], t, r', rfl, h2, List.mem_cons_of_mem _ h3⟩
  | true =>
    have hF := fol_name (L := w :: L) hw (show Tl [w] r ts from h) (List.mem_cons_self ..)
    obtain ⟨t, ts', rfl, h2, h3⟩ := Tl.cons (show Tl [w] r ts from h)
    obtain rfl := h3.nil
    exact ⟨by rw [optB, if_pos (rel_name hw h2).2], hF⟩
/-- The bits from one on. -/
def bitsS (bits : Nat) : Nat → Nat → Nat
  | 0, _ => 0
  | f + 1, k => (if bits / 2 ^ k % 2 = 1 then 2 ^ k else 0) + bitsS bits f (k + 1)
theorem rd_tags (bits : Nat) : ∀ (f k : Nat) (acc lo : Nat) (r ts : List Tk), f + k ≤ 4 → lo ≤ k → (∃ t r', r = t :: r' ∧ t.kind ≠ 2) → Tl (tagD bits f k) r ts → tagsR ts acc lo = .inr (acc + bitsS bits f k, r)
  | 0, k, acc, lo, r, ts, _, _, hr, h => by
    obtain rfl := h.nil
    obtain ⟨t, r', rfl, h2⟩ := hr
    rw [tagsR, if_neg h2]
    rfl
  | f + 1, k, acc, lo, r, ts, hk, hlo, hr, h => by
    unfold tagD at h
    unfold bitsS
    split at h
    · rename_i hb
      obtain ⟨t, ts', rfl, h1, h2⟩ := Tl.cons (show Tl ([UInt8.ofNat (48 + k)] :: tagD bits f (k + 1)) r ts from h)
      have hd : decDigits k = [UInt8.ofNat (48 + k)] := decDigits_one (by omega)
      rw [← hd, tok_num (by omega)] at h1
      have e1 : t.kind = 2 := h1.1.symm
      have e2 : t.val = k := h1.2.2.1.symm
      rw [tagsR, if_pos e1, if_neg (by omega), if_neg (by omega), e2, rd_tags bits f (k + 1) _ _ r ts' (by omega) (by omega) hr h2, if_pos hb, Nat.add_assoc]
    · rename_i hb
      rw [rd_tags bits f (k + 1) acc lo r ts (by omega) (by omega) hr h, if_neg hb, Nat.zero_add]
theorem bits_all (bits : Nat) : bitsS bits 4 0 = bits % 16 := by
  unfold bitsS bitsS bitsS bitsS bitsS
  simp only [Nat.pow_zero, Nat.reducePow, Nat.reduceAdd, Nat.zero_add]
  repeat' split
  all_goals omega
theorem tag_mod (bits : Nat) : tagN (bits % 16) 4 0 = tagN bits 4 0 := by
  unfold tagN tagN tagN tagN tagN
  simp only [Nat.pow_zero, Nat.reducePow, Nat.reduceAdd, Nat.zero_add]
  rw [show bits % 16 / 1 % 2 = bits / 1 % 2 by omega, show bits % 16 / 2 % 2 = bits / 2 % 2 by omega, show bits % 16 / 4 % 2 = bits / 4 % 2 by omega, show bits % 16 / 8 % 2 = bits / 8 % 2 by omega]
theorem tagsT_mod (w : Bs) (bits : Nat) : tagsT w (bits % 16) = tagsT w bits := by
  unfold tagsT
  rw [tag_mod]
theorem tag_none {bits : Nat} (h : tagN bits 4 0 = []) : bits % 16 = 0 := by
  unfold tagN tagN tagN tagN tagN at h
  simp only [Nat.pow_zero, Nat.reducePow, Nat.reduceAdd, Nat.zero_add, List.append_nil, List.append_eq_nil_iff] at h
  obtain ⟨h0, h1, h2, h3⟩ := h
  have key : ∀ {p : Prop} [Decidable p] {l : Bs}, l ≠ [] → (if p then l else []) = [] → ¬ p := by
    intro p _ l hl h hp
    rw [if_pos hp] at h
    exact hl h
  have k0 := key (by simp) h0
  have k1 := key (by simp) h1
  have k2 := key (by simp) h2
  have k3 := key (by simp) h3
  omega
theorem tagD_head {bits : Nat} : ∀ {f k : Nat}, f + k ≤ 4 → tagN bits f k ≠ [] → ∃ j rest, j < 4 ∧ tagD bits f k = decDigits j :: rest
  | 0, _, _, h => absurd rfl h
  | f + 1, k, hk, h => by
    unfold tagN at h
    unfold tagD
    split
    · exact ⟨k, _, by omega, by rw [decDigits_one (by omega)]; rfl⟩
    · rename_i hb
      rw [if_neg hb] at h
      exact tagD_head (by omega) h
theorem rd_optT {w : Bs} {bits : Nat} {L : List Bs} {r ts : List Tk} (hw : nameP w = true) (hf : Fol L r) (hL : w ∉ L) (h : Tl (tagW w bits) r ts) : optT w ts = .inr (bits % 16, r) ∧ Fol (w :: L) ts := by
  unfold tagW at h
  split at h
  · rename_i hn
    obtain rfl := h.nil
    obtain ⟨t, r', rfl, h2, h3⟩ := hf
    exact ⟨by rw [optT, if_neg (fun e : t.text = w => hL (by rw [← e]; exact h3)), tag_none hn], t, r', rfl, h2, List.mem_cons_of_mem _ h3⟩
  · rename_i hn
    have hF := fol_name (L := w :: L) hw h (List.mem_cons_self ..)
    obtain ⟨t, ts', rfl, h2, h3⟩ := h.cons
    refine ⟨?_, hF⟩
    rw [optT, if_pos (rel_name hw h2).2]
    have h4 := rd_tags bits 4 0 0 0 r ts' (by omega) (by omega) (by obtain ⟨t, r', e, e1, _⟩ := hf; exact ⟨t, r', e, e1⟩) h3
    obtain ⟨j, rest, hj, hd⟩ := tagD_head (by omega) hn
    rw [hd] at h3
    obtain ⟨u, us, rfl, h5, _⟩ := h3.cons
    rw [tok_num (by omega)] at h5
    rw [tag1, if_pos h5.1.symm, h4, bits_all, Nat.zero_add]
/-- A clause, but for what no text has. -/
theorem rd_cla {c : ClD} (hc : c.sound) {r ts : List Tk} (h : Tl (claW c) r ts) : ∃ c', claR ts = .inr (c', r) ∧ lineT c' = lineT c := by
  unfold claW at h
  obtain ⟨t10, h, hs⟩ := h.app
  obtain ⟨t9, h, hp⟩ := h.app
  obtain ⟨t8, h, hm⟩ := h.app
  obtain ⟨t7, h, hcl⟩ := h.app
  obtain ⟨t6, h, hse⟩ := h.app
  obtain ⟨t5, h, hd⟩ := h.app
  obtain ⟨t4, h, hth⟩ := h.app
  obtain ⟨t3, h, hou⟩ := h.app
  obtain ⟨t2, hif, hwi⟩ := h.app
  have f10 : Fol [[59]] t10 := fol_sgn (by decide) hs (by simp)
  obtain ⟨p1, _, k1, e1⟩ := rd_sgn (c := 59) (by decide) hs
  obtain rfl := e1.nil
  obtain ⟨k2, f9⟩ := rd_optN (most := 255) (by decide) hc.p0 (by have := hc.p1; omega) (by omega) f10 (by decide) hp
  obtain ⟨k3, f8⟩ := rd_optN (most := 15) (by decide) hc.m0 (by have := hc.m1; omega) (by omega) f9 (by decide) hm
  obtain ⟨k4, f7⟩ := rd_optT (by decide) f8 (by decide) hcl
  obtain ⟨k5, f6⟩ := rd_optT (by decide) f7 (by decide) hse
  obtain ⟨k6, f5⟩ := rd_optB (by decide) f6 (by decide) hd
  have f4 : Fol [[116, 104, 101, 110]] t4 := fol_name (by decide) hth (by simp)
  obtain ⟨p7, _, k7, e7⟩ := rd_word (by decide) hth
  obtain rfl := e7.nil
  obtain ⟨k8, f3⟩ := rd_optT (by decide) f4 (by decide) hou
  obtain ⟨k9, f2⟩ := rd_optT (by decide) f3 (by decide) hwi
  obtain ⟨p0, u1, k0, hon⟩ := rd_word (by decide) hif
  obtain ⟨t, ts', rfl, h1, h2⟩ := hon.cons
  obtain rfl := h2.nil
  have ho : ∃ o : Bool × Nat × Int, onR (t :: ts') = .inr (o, ts') ∧ ∀ wi ou d se cl m p, onT ⟨o.1, o.2.1, o.2.2, wi, ou, d, se, cl, m, p⟩ = onT c := by
    unfold onT at h1
    split at h1
    · rename_i ha
      refine ⟨(true, 0, 0), by rw [onR, if_pos (rel_name (by decide) h1).2], fun _ _ _ _ _ _ _ => ?_⟩
      unfold onT
      rw [if_pos ha]
      rfl
    · rename_i ha
      have hso := hc.on (by simpa using ha)
      obtain ⟨e1, e2, e3, e4⟩ := rel_pf hso h1
      refine ⟨(false, c.a, c.b), ?_, fun _ _ _ _ _ _ _ => ?_⟩
      · have hne : ¬ t.text = [97, 110, 121] := by
          intro h
          rw [e4] at h
          have h5 := tok_pf (a := c.a) (b := c.b.toNat) (by rw [Int.toNat_of_nonneg (may_bounds hso.1).1]; exact hso.1) hso.2
          have h6 : pfT c.a c.b = textP c.a c.b.toNat := by unfold pfT; rw [if_pos hso.1]
          rw [← h6, h, tok_name (by decide)] at h5
          injection h5 with h5
          cases h5
        rw [onR, if_neg hne, if_pos e1, e2, e3]
      · unfold onT
        rw [if_neg ha]
        rfl
  obtain ⟨o, ko, hot⟩ := ho
  refine ⟨⟨o.1, o.2.1, o.2.2, c.wi % 16, c.ou % 16, c.drop, c.se % 16, c.cl % 16, c.more, c.pref⟩, ?_, ?_⟩
  · unfold claR
    rw [andR_ok k0, andR_ok ko, andR_ok k9, andR_ok k8, andR_ok k7, andR_ok k6, andR_ok k5, andR_ok k4, andR_ok k3, andR_ok k2, andR_ok k1]
  · unfold lineT wordsT
    rw [hot]
    simp only [tagsT_mod]
    rfl
end Go.Proofs.YtejhgifadohbiaaGreatDoor
namespace Go.Proofs.YtejhgifadohbiaaGreatDoor
open Go.Lib

theorem rd_clas : ∀ (cs : List ClD) (n : Nat) (r ts : List Tk), cs.length ≤ n → (∀ c ∈ cs, c.sound) → Fol [[125]] r → Tl (cs.flatMap claW) r ts → ∃ cs', clasR n ts = .inr (cs', r) ∧ cs'.flatMap lineT = cs.flatMap lineT
  | [], n, r, ts, _, _, hf, h => by
    obtain rfl := Tl.nil h
    obtain ⟨t, r', rfl, _, h3⟩ := hf
    refine ⟨[], ?_, rfl⟩
    rw [List.mem_singleton] at h3
    cases n <;> rw [clasR, if_pos h3]
  | c :: cs, 0, _, _, hn, _, _, _ => by simp at hn
  | c :: cs, n + 1, r, ts, hn, hc, hf, h => by
    obtain ⟨ts', h1, h2⟩ := Tl.app (show Tl (claW c ++ cs.flatMap claW) r ts from h)
    obtain ⟨c', k1, e1⟩ := rd_cla (hc c (List.mem_cons_self ..)) h1
    obtain ⟨cs', k2, e2⟩ := rd_clas cs n r ts' (by simpa using hn) (fun x hx => hc x (List.mem_cons_of_mem _ hx)) hf h2
    obtain ⟨t, us, rfl, h3, _⟩ := Tl.cons (w := [105, 102]) (ws := (claW c).tail) h1
    have hne : ¬ t.text = [125] := by
      rw [(rel_name (by decide) h3).2]
      decide
    refine ⟨c' :: cs', ?_, ?_⟩
    · rw [clasR, if_neg hne, andR_ok k1, andR_ok k2]
    · rw [List.flatMap_cons, List.flatMap_cons, e1, e2]
theorem rd_many {α : Type} {w : Bs} {f : List Tk → Res α} {W : α → List Bs} {T : α → Bs} (hw : nameP w = true) {L : List Bs} (hL : w ∉ L) :
    ∀ (xs : List α) (n : Nat) (r ts : List Tk), xs.length ≤ n → (∀ x ∈ xs, (∃ rest, W x = w :: rest) ∧ ∀ r ts, Tl (W x) r ts → ∃ x', f ts = .inr (x', r) ∧ T x' = T x) → Fol L r → Tl (xs.flatMap W) r ts →
      (∃ xs', manyR w f n ts = .inr (xs', r) ∧ xs'.flatMap T = xs.flatMap T) ∧ Fol (w :: L) ts
  | [], n, r, ts, _, _, hf, h => by
    obtain rfl := Tl.nil h
    refine ⟨?_, hf.more fun x hx => List.mem_cons_of_mem _ hx⟩
    obtain ⟨t, r', rfl, _, h3⟩ := hf
    refine ⟨[], ?_, rfl⟩
    have hne : ¬ t.text = w := fun e => hL (by rw [← e]; exact h3)
    cases n <;> rw [manyR, if_neg hne]
  | x :: xs, 0, _, _, hn, _, _, _ => by simp at hn
  | x :: xs, n + 1, r, ts, hn, hx, hf, h => by
    obtain ⟨⟨rest, hW⟩, hx1⟩ := hx x (List.mem_cons_self ..)
    obtain ⟨ts', h1, h2⟩ := Tl.app (show Tl (W x ++ xs.flatMap W) r ts from h)
    obtain ⟨x', k1, e1⟩ := hx1 ts' ts h1
    obtain ⟨⟨xs', k2, e2⟩, _⟩ := rd_many hw hL xs n r ts' (by simpa using hn) (fun y hy => hx y (List.mem_cons_of_mem _ hy)) hf h2
    rw [hW] at h1
    have hF := fol_name (L := w :: L) hw h1 (List.mem_cons_self ..)
    obtain ⟨t, us, rfl, h3, _⟩ := h1.cons
    refine ⟨⟨x' :: xs', ?_, ?_⟩, hF⟩
    · rw [manyR, if_pos (rel_name hw h3).2]
      show andR (f (t :: us)) _ = _
      rw [andR_ok k1, andR_ok k2]
    · rw [List.flatMap_cons, List.flatMap_cons, e1, e2]
theorem rd_map {m : MpD} (hm : m.sound) {r ts : List Tk} (h : Tl (mapW m) r ts) : ∃ m', mapR ts = .inr (m', r) ∧ mapT m' = mapT m := by
  unfold mapW at h
  obtain ⟨t2, h, he⟩ := h.app
  obtain ⟨t1, hd, hc⟩ := h.app
  have f2 : Fol [[125]] t2 := fol_sgn (by decide) he (by simp)
  obtain ⟨p3, u3, k3, e3⟩ := rd_sgn (c := 125) (by decide) he
  obtain ⟨cs', kc, ec⟩ := rd_clas m.cls 16 t2 t1 hm.l hm.c f2 hc
  obtain ⟨p0, u0, k0, hd⟩ := rd_word (by decide) hd
  obtain ⟨u1, k1, hd⟩ := rd_name hm.n hd
  obtain ⟨p2, u2, k2, hd⟩ := rd_sgn (c := 123) (by decide) hd
  have e2 := hd.nil
  have e4 := e3.nil
  subst e2 e4
  refine ⟨⟨m.name, cs', (p0 : Int)⟩, ?_, ?_⟩
  · unfold mapR
    rw [andR_ok k0, andR_ok k1, andR_ok k2, andR_ok kc, andR_ok k3]
  · unfold mapT
    rw [ec]
theorem rd_net {p : Nat × Int} (hp : mayP p.1 p.2 = true ∧ p.1 < 4294967296) {r ts : List Tk} (h : Tl (netW p) r ts) : ∃ p', netR ts = .inr (p', r) ∧ netT p' = netT p := by
  unfold netW at h
  obtain ⟨p0, u0, k0, hd⟩ := rd_word (by decide) h
  obtain ⟨u1, k1, hd1⟩ := rd_pfx hp hd
  obtain ⟨p2, u2, k2, hd2⟩ := rd_sgn (c := 59) (by decide) hd1
  have e2 := hd2.nil
  subst e2
  exact ⟨p, by unfold netR; rw [andR_ok k0, andR_ok k1, andR_ok k2], rfl⟩
theorem rd_lnk {l : LkD} (hl : l.sound) {r ts : List Tk} (h : Tl (lnkW l) r ts) : ∃ l', lnkR ts = .inr (l', r) ∧ linkT l' = linkT l := by
  unfold lnkW at h
  obtain ⟨t3, h, he⟩ := h.app
  obtain ⟨t2, h, hx⟩ := h.app
  obtain ⟨t1, hd, hi⟩ := h.app
  have f3 : Fol [[59]] t3 := fol_sgn (by decide) he (by simp)
  obtain ⟨p9, u9, k9, e9⟩ := rd_sgn (c := 59) (by decide) he
  obtain ⟨kx, f2⟩ := rd_optS (by decide) hl.e f3 (by decide) hx
  obtain ⟨ki, f1⟩ := rd_optS (by decide) hl.i f2 (by decide) hi
  obtain ⟨p0, u0, k0, hd0⟩ := rd_word (by decide) hd
  obtain ⟨u1, k1, hd1⟩ := rd_name hl.n hd0
  obtain ⟨p2, u2, k2, hd2⟩ := rd_word (by decide) hd1
  obtain ⟨u3, k3, hd3⟩ := rd_nbr (most := 1000) hl.c0 (by have := hl.c1; omega) (by omega) hd2
  have e3 := hd3.nil
  have e10 := e9.nil
  subst e3 e10
  refine ⟨⟨l.peer, l.cost, l.imp, l.exp, (p0 : Int)⟩, ?_, rfl⟩
  unfold lnkR
  rw [andR_ok k0, andR_ok k1, andR_ok k2, andR_ok k3, andR_ok ki, andR_ok kx, andR_ok k9]
theorem rd_sta {s : StD} (hs : s.sound) {r ts : List Tk} (h : Tl (staW s) r ts) : ∃ s', staR ts = .inr (s', r) ∧ statT s' = statT s := by
  unfold staW at h
  obtain ⟨p0, u0, k0, hd0⟩ := rd_word (by decide) h
  obtain ⟨u1, k1, hd1⟩ := rd_pfx (p := (s.a, s.b)) hs.p hd0
  obtain ⟨p2, u2, k2, hd2⟩ := rd_word (by decide) hd1
  obtain ⟨u3, k3, hd3⟩ := rd_name hs.n hd2
  obtain ⟨p4, u4, k4, hd4⟩ := rd_sgn (c := 59) (by decide) hd3
  have e4 := hd4.nil
  subst e4
  refine ⟨⟨s.a, s.b, s.via, (p0 : Int)⟩, ?_, rfl⟩
  unfold staR
  rw [andR_ok k0, andR_ok k1, andR_ok k2, andR_ok k3, andR_ok k4]
theorem rd_rou {x : RoD} (hx : x.sound) {r ts : List Tk} (h : Tl (rouW x) r ts) : ∃ x', rouR ts = .inr (x', r) ∧ routT x' = routT x := by
  unfold rouW at h
  obtain ⟨t4, h, he⟩ := h.app
  obtain ⟨t3, h, hs⟩ := h.app
  obtain ⟨t2, h, hl⟩ := h.app
  obtain ⟨t1, hd, hn⟩ := h.app
  have f4 : Fol [[125]] t4 := fol_sgn (by decide) he (by simp)
  obtain ⟨p9, u9, k9, e9⟩ := rd_sgn (c := 125) (by decide) he
  obtain ⟨⟨ss, ks, es⟩, f3⟩ := rd_many (w := [115, 116, 97, 116, 105, 99]) (f := staR) (W := staW) (T := statT) (by decide) (by decide) x.sts 8 t4 t3 hx.sn (fun y hy => ⟨⟨_, rfl⟩, fun r ts h => rd_sta (hx.s y hy) h⟩) f4 hs
  obtain ⟨⟨ls, kl, el⟩, f2⟩ := rd_many (w := [108, 105, 110, 107]) (f := lnkR) (W := lnkW) (T := linkT) (by decide) (by decide) x.lks 64 t3 t2 hx.ln (fun y hy => ⟨⟨_, rfl⟩, fun r ts h => rd_lnk (hx.l y hy) h⟩) f3 hl
  obtain ⟨⟨ns, kn, en⟩, f1⟩ := rd_many (w := [110, 101, 116]) (f := netR) (W := netW) (T := netT) (by decide) (by decide) x.nets 8 t2 t1 hx.tn (fun y hy => ⟨⟨_, rfl⟩, fun r ts h => rd_net (hx.t y hy) h⟩) f2 hn
  obtain ⟨p0, u0, k0, hd0⟩ := rd_word (by decide) hd
  obtain ⟨u1, k1, hd1⟩ := rd_name hx.n hd0
  obtain ⟨p2, u2, k2, hd2⟩ := rd_sgn (c := 123) (by decide) hd1
  have e2 := hd2.nil
  have e10 := e9.nil
  subst e2 e10
  refine ⟨⟨x.name, ns, ls, ss, (p0 : Int)⟩, ?_, ?_⟩
  · unfold rouR
    rw [andR_ok k0, andR_ok k1, andR_ok k2, andR_ok kn, andR_ok kl, andR_ok ks, andR_ok k9]
  · unfold routT
    rw [en, el, es]
/-- The whole. -/
theorem rd_cfg {c : CfD} (hc : c.sound) {t : Tk} {ts : List Tk} (ht : t.kind = 0 ∧ t.text = []) (h : Tl (cfgW c) [t] ts) : ∃ c', cfgR ts = .inr (c', []) ∧ confT c' = confT c := by
  unfold cfgW at h
  obtain ⟨t1, hm, hr⟩ := h.app
  have f2 : Fol [[]] [t] := ⟨t, [], rfl, by omega, by rw [ht.2]; exact List.mem_singleton.2 rfl⟩
  obtain ⟨⟨rs, kr, er⟩, f1⟩ := rd_many (w := [114, 111, 117, 116, 101, 114]) (f := rouR) (W := rouW) (T := routT) (by decide) (by decide) c.ros 64 [t] t1 hc.rl (fun y hy => ⟨⟨_, rfl⟩, fun r ts h => rd_rou (hc.r y hy) h⟩) f2 hr
  obtain ⟨⟨ms, km, em⟩, _⟩ := rd_many (w := [109, 97, 112]) (f := mapR) (W := mapW) (T := mapT) (by decide) (by decide) c.maps 64 t1 ts hc.ml (fun y hy => ⟨⟨_, rfl⟩, fun r ts h => rd_map (hc.m y hy) h⟩) f1 hm
  refine ⟨⟨ms, rs⟩, ?_, ?_⟩
  · unfold cfgR
    rw [andR_ok km, andR_ok kr]
    show andR (endR [t]) _ = _
    rw [endR, if_pos ht.1]
    rfl
  · unfold confT
    rw [em, er]
/-- Tokens that are another list's but for their places are of the same words. -/
theorem relL_trans : ∀ {a b c : List Tk}, RelL a b → RelL b c → RelL a c
  | [], [], [], _, _ => trivial
  | _ :: _, _ :: _, _ :: _, h1, h2 => ⟨⟨h1.1.1.trans h2.1.1, h1.1.2.1.trans h2.1.2.1, h1.1.2.2.1.trans h2.1.2.2.1, h1.1.2.2.2.1.trans h2.1.2.2.2.1, h1.1.2.2.2.2.trans h2.1.2.2.2.2⟩, relL_trans h1.2 h2.2⟩
  | [], _ :: _, _, h, _ => h.elim
  | _ :: _, [], _, h, _ => h.elim
  | [], [], _ :: _, _, h => h.elim
  | _ :: _, _ :: _, [], _, h => h.elim
theorem relL_at (i : Nat) : ∀ (wo : List (Bs × Nat)), RelL ((wo.map (·.1)).map tk0) (wo.map (tkAt i))
  | [] => trivial
  | _ :: r => ⟨⟨rfl, rfl, rfl, rfl, rfl⟩, relL_at i r⟩
theorem relL_end {a us : List Tk} {k : Nat} (h : RelL (a ++ [endT k]) us) : ∃ vs t, us = vs ++ [t] ∧ RelL a vs ∧ t.kind = 0 ∧ t.text = [] := by
  obtain ⟨u, v, rfl, h1, h2⟩ := relL_app h
  match v, h2 with
  | [t], h2 => exact ⟨u, t, rfl, h1, h2.1.1.symm, h2.1.2.1.symm⟩
  | [], h2 => exact h2.elim
  | _ :: _ :: _, h2 => exact h2.2.elim
/-- A sound configuration's text is read, and what is read has it. -/
theorem read_back {c : CfD} (hc : c.sound) (hl : (confT c).length ≤ 65536) : ∃ c', readP (confT c) = .inr c' ∧ confT c' = confT c := by
  obtain ⟨wo, e1, e2⟩ := (conf_words hc).toks
  have hT : Tl (cfgW c) [endT (confT c).length] (wo.map (tkAt 0) ++ [endT (confT c).length]) := ⟨_, rfl, by rw [← e1]; exact relL_at 0 wo⟩
  obtain ⟨c', h1, h2⟩ := rd_cfg hc ⟨rfl, rfl⟩ hT
  refine ⟨c', ?_, h2⟩
  unfold readP
  rw [if_neg (by omega), e2]
  simp only [h1]
/-- So it is with blanks and remarks between. -/
theorem read_blown {c : CfD} (hc : c.sound) {W V : Bs} (hV : Void V) (hW : Void W) (hl : (V ++ blow W (confT c)).length ≤ 65536) : ∃ c', readP (V ++ blow W (confT c)) = .inr c' ∧ confT c' = confT c := by
  obtain ⟨wo, e1, e2⟩ := (conf_words hc).toks
  have hr := blow_rel hW _ (confT c) (Nat.le_refl _) (conf_no35 hc) 0 (0 + V.length)
  rw [e2] at hr
  have hv := hV (blow W (confT c)) 0
  cases hu : toks (blow W (confT c)) 0 (0 + V.length) with
  | inl k => rw [hu] at hr; exact hr.elim
  | inr us =>
    rw [hu] at hr hv
    obtain ⟨vs, t, rfl, h3, h4⟩ := relL_end (show RelL (wo.map (tkAt 0) ++ [endT (confT c).length]) us from hr)
    have hT : Tl (cfgW c) [t] (vs ++ [t]) := ⟨_, rfl, by rw [← e1]; exact relL_trans (relL_at 0 wo) h3⟩
    obtain ⟨c', h1, h2⟩ := rd_cfg hc h4 hT
    refine ⟨c', ?_, h2⟩
    unfold readP
    rw [if_neg (by omega), hv]
    simp only [h1]
end Go.Proofs.YtejhgifadohbiaaGreatDoor
namespace Go.Proofs.YtejhgifadohbiaaGreatDoor
open Go.Lib

/-- A token's kind is right for what it bears. -/
def WfT (t : Tk) : Prop := (t.kind = 1 → nameP t.text = true) ∧ (t.kind = 3 → mayP t.a t.b = true ∧ t.a < 4294967296)
def Wf (ts : List Tk) : Prop := ∀ t ∈ ts, WfT t
theorem Wf.suf {ts r : List Tk} (h : Wf ts) (hs : r <:+ ts) : Wf r := fun t ht => h t (hs.subset ht)
section
variable {ts r : List Tk}
theorem wordR_ok {w : Bs} {p : Nat} (h : wordR w ts = .inr (p, r)) : ∃ t, ts = t :: r ∧ t.text = w ∧ t.pl = p := by
  cases ts with
  | nil => cases h
  | cons t us =>
    rw [wordR] at h
    split at h
    · rename_i ht
      cases h
      exact ⟨t, rfl, ht, rfl⟩
    · cases h
theorem nameR_ok {s : Bs} (h : nameR ts = .inr (s, r)) : ∃ t, ts = t :: r ∧ t.kind = 1 ∧ t.text = s := by
  cases ts with
  | nil => cases h
  | cons t us =>
    rw [nameR] at h
    split at h
    · rename_i ht
      cases h
      exact ⟨t, rfl, ht, rfl⟩
    · cases h
theorem pfxR_ok {p : Nat × Int} (h : pfxR ts = .inr (p, r)) : ∃ t, ts = t :: r ∧ t.kind = 3 ∧ t.a = p.1 ∧ (t.b : Int) = p.2 := by
  cases ts with
  | nil => cases h
  | cons t us =>
    rw [pfxR] at h
    split at h
    · rename_i ht
      cases h
      exact ⟨t, rfl, ht, rfl, rfl⟩
    · cases h
theorem nbrR_ok {most : Nat} {n : Int} (h : nbrR most ts = .inr (n, r)) : ∃ t, ts = t :: r ∧ 1 ≤ n ∧ n ≤ most := by
  cases ts with
  | nil => cases h
  | cons t us =>
    rw [nbrR] at h
    split at h
    · split at h
      · rename_i ht
        cases h
        exact ⟨t, rfl, by omega, by omega⟩
      · cases h
    · cases h
theorem suf_cons {t : Tk} {r : List Tk} : r <:+ t :: r := List.suffix_cons t r
theorem optN_ok {w : Bs} {most : Nat} {n : Int} (h : optN w most ts = .inr (n, r)) : r <:+ ts ∧ 0 ≤ n ∧ n ≤ most := by
  cases ts with
  | nil => cases h; exact ⟨List.suffix_refl _, Int.le_refl _, by omega⟩
  | cons t us =>
    rw [optN] at h
    split at h
    · obtain ⟨u, rfl, h1, h2⟩ := nbrR_ok h
      exact ⟨suf_cons.trans suf_cons, by omega, h2⟩
    · cases h
      exact ⟨List.suffix_refl _, Int.le_refl _, by omega⟩
theorem optS_ok {w s : Bs} (hw : Wf ts) (h : optS w ts = .inr (s, r)) : r <:+ ts ∧ (s ≠ [] → nameP s = true) := by
  cases ts with
  | nil => cases h; exact ⟨List.suffix_refl _, fun h => absurd rfl h⟩
  | cons t us =>
    rw [optS] at h
    split at h
    · obtain ⟨u, rfl, h1, h2⟩ := nameR_ok h
      refine ⟨suf_cons.trans suf_cons, fun _ => ?_⟩
      rw [← h2]
      exact (hw u (by simp)).1 h1
    · cases h
      exact ⟨List.suffix_refl _, fun h => absurd rfl h⟩
theorem optB_ok {w : Bs} {b : Bool} (h : optB w ts = .inr (b, r)) : r <:+ ts := by
  cases ts with
  | nil => cases h; exact List.suffix_refl _
  | cons t us =>
    rw [optB] at h
    split at h
    · cases h; exact suf_cons
    · cases h; exact List.suffix_refl _
theorem tagsR_ok : ∀ {ts : List Tk} {b lo n : Nat} {r : List Tk}, tagsR ts b lo = .inr (n, r) → r <:+ ts
  | [], _, _, _, _, h => by cases h; exact List.suffix_refl _
  | t :: us, b, lo, n, r, h => by
    rw [tagsR] at h
    split at h
    · split at h
      · cases h
      · split at h
        · cases h
        · exact (tagsR_ok h).trans suf_cons
    · cases h; exact List.suffix_refl _
theorem tagsR_lt : ∀ {ts : List Tk} {b lo n : Nat} {r : List Tk}, b < 2 ^ lo → lo ≤ 4 → tagsR ts b lo = .inr (n, r) → n < 256
  | [], b, lo, n, r, hb, hl, h => by
    cases h
    have := Nat.pow_le_pow_right (show 0 < 2 by decide) hl
    omega
  | t :: us, b, lo, n, r, hb, hl, h => by
    rw [tagsR] at h
    split at h
    · split at h
      · cases h
      · split at h
        · cases h
        · have h1 := Nat.pow_le_pow_right (show 0 < 2 by decide) (show lo ≤ t.val by omega)
          exact tagsR_lt (b := b + 2 ^ t.val) (lo := t.val + 1) (by rw [Nat.pow_succ]; omega) (by omega) h
    · cases h
      have := Nat.pow_le_pow_right (show 0 < 2 by decide) hl
      omega
theorem optT_lt {w : Bs} {n : Nat} (h : optT w ts = .inr (n, r)) : n < 256 := by
  cases ts with
  | nil => cases h; decide
  | cons t us =>
    rw [optT] at h
    split at h
    · cases us with
      | nil => cases h
      | cons u us =>
        rw [tag1] at h
        split at h
        · exact tagsR_lt (by decide) (by decide) h
        · cases h
    · cases h; decide
theorem onR_lt {o : Bool × Nat × Int} (hw : Wf ts) (h : onR ts = .inr (o, r)) : o.2.1 < 4294967296 := by
  cases ts with
  | nil => cases h
  | cons t us =>
    rw [onR] at h
    split at h
    · cases h; decide
    · split at h
      · rename_i hk
        cases h
        exact ((hw t (List.mem_cons_self ..)).2 hk).2
      · cases h
theorem optT_ok {w : Bs} {n : Nat} (h : optT w ts = .inr (n, r)) : r <:+ ts := by
  cases ts with
  | nil => cases h; exact List.suffix_refl _
  | cons t us =>
    rw [optT] at h
    split at h
    · cases us with
      | nil => cases h
      | cons u us =>
        rw [tag1] at h
        split at h
        · exact (tagsR_ok h).trans suf_cons
        · cases h
    · cases h; exact List.suffix_refl _
theorem onR_ok {o : Bool × Nat × Int} (hw : Wf ts) (h : onR ts = .inr (o, r)) : r <:+ ts ∧ (o.1 = false → mayP o.2.1 o.2.2 = true ∧ o.2.1 < 4294967296) := by
  cases ts with
  | nil => cases h
  | cons t us =>
    rw [onR] at h
    split at h
    · cases h; exact ⟨suf_cons, fun h => by cases h⟩
    · split at h
      · rename_i hk
        cases h
        exact ⟨suf_cons, fun _ => (hw t (by simp)).2 hk⟩
      · cases h
theorem claR_ok {c : ClD} (hw : Wf ts) (h : claR ts = .inr (c, r)) : r <:+ ts ∧ c.sound := by
  unfold claR at h
  obtain ⟨_, r0, h0, h⟩ := andR_inr h
  obtain ⟨o, r1, h1, h⟩ := andR_inr h
  obtain ⟨_, r2, h2, h⟩ := andR_inr h
  obtain ⟨_, r3, h3, h⟩ := andR_inr h
  obtain ⟨_, r4, h4, h⟩ := andR_inr h
  obtain ⟨_, r5, h5, h⟩ := andR_inr h
  obtain ⟨_, r6, h6, h⟩ := andR_inr h
  obtain ⟨_, r7, h7, h⟩ := andR_inr h
  obtain ⟨m, r8, h8, h⟩ := andR_inr h
  obtain ⟨p, r9, h9, h⟩ := andR_inr h
  obtain ⟨_, r10, h10, h⟩ := andR_inr h
  cases h
  obtain ⟨t0, rfl, _⟩ := wordR_ok h0
  have w0 : Wf r0 := hw.suf suf_cons
  obtain ⟨s1, on⟩ := onR_ok w0 h1
  obtain ⟨t4, rfl, _⟩ := wordR_ok h4
  obtain ⟨s8, m0, m1⟩ := optN_ok h8
  obtain ⟨s9, p0, p1⟩ := optN_ok h9
  obtain ⟨t10, rfl, _⟩ := wordR_ok h10
  have hs : r <:+ r0 := suf_cons.trans (s9.trans (s8.trans ((optT_ok h7).trans ((optT_ok h6).trans ((optB_ok h5).trans (suf_cons.trans ((optT_ok h3).trans ((optT_ok h2).trans s1))))))))
  exact ⟨hs.trans suf_cons, ⟨on, m0, m1, p0, p1, ⟨optT_lt h2, optT_lt h3, optT_lt h6, optT_lt h7⟩, onR_lt w0 h1⟩⟩
theorem clasR_ok : ∀ (n : Nat) (ts r : List Tk) (cs : List ClD), Wf ts → clasR n ts = .inr (cs, r) → r <:+ ts ∧ (∀ c ∈ cs, c.sound) ∧ cs.length ≤ n
  | n, [], r, cs, _, h => by
    cases n <;> (rw [clasR] at h; cases h; exact ⟨List.suffix_refl _, by simp⟩)
  | 0, t :: us, r, cs, _, h => by
    rw [clasR] at h
    split at h
    · cases h; exact ⟨List.suffix_refl _, by simp⟩
    · cases h
  | n + 1, t :: us, r, cs, hw, h => by
    rw [clasR] at h
    split at h
    · cases h; exact ⟨List.suffix_refl _, by simp⟩
    · obtain ⟨c, r1, h1, h⟩ := andR_inr h
      obtain ⟨cs', r2, h2, h⟩ := andR_inr h
      cases h
      obtain ⟨s1, k1⟩ := claR_ok hw h1
      obtain ⟨s2, k2, k3⟩ := clasR_ok n r1 r cs' (hw.suf s1) h2
      refine ⟨s2.trans s1, fun x hx => ?_, by simpa using k3⟩
      rcases List.mem_cons.1 hx with rfl | hx
      · exact k1
      · exact k2 x hx
/-- What is read ends with a brace. -/
def Ends (ts r : List Tk) : Prop := ∃ us t, ts = us ++ t :: r ∧ t.text = [125]
theorem Ends.suf {ts r : List Tk} (h : Ends ts r) : r <:+ ts := by
  obtain ⟨us, t, rfl, _⟩ := h
  exact ⟨us ++ [t], by simp⟩
theorem Ends.of {ts ts' r : List Tk} (h : Ends ts' r) (hs : ts' <:+ ts) : Ends ts r := by
  obtain ⟨us, t, rfl, h1⟩ := h
  obtain ⟨v, rfl⟩ := hs
  exact ⟨v ++ us, t, by simp, h1⟩
theorem manyR_ok {α : Type} {w : Bs} {f : List Tk → Res α} {S : α → Prop} (hf : ∀ ts r x, Wf ts → f ts = .inr (x, r) → r <:+ ts ∧ S x) : ∀ (n : Nat) (ts r : List Tk) (xs : List α), Wf ts → manyR w f n ts = .inr (xs, r) → r <:+ ts ∧ (∀ x ∈ xs, S x) ∧ xs.length ≤ n
  | n, [], r, xs, _, h => by
    cases n <;> (rw [manyR] at h; cases h; exact ⟨List.suffix_refl _, by simp⟩)
  | 0, t :: us, r, xs, _, h => by
    rw [manyR] at h
    split at h
    · cases h
    · cases h; exact ⟨List.suffix_refl _, by simp⟩
  | n + 1, t :: us, r, xs, hw, h => by
    rw [manyR] at h
    split at h
    · obtain ⟨c, r1, h1, h⟩ := andR_inr h
      obtain ⟨cs', r2, h2, h⟩ := andR_inr h
      cases h
      obtain ⟨s1, k1⟩ := hf _ _ _ hw h1
      obtain ⟨s2, k2, k3⟩ := manyR_ok hf n r1 r cs' (hw.suf s1) h2
      refine ⟨s2.trans s1, fun x hx => ?_, by simpa using k3⟩
      rcases List.mem_cons.1 hx with rfl | hx
      · exact k1
      · exact k2 x hx
    · cases h; exact ⟨List.suffix_refl _, by simp⟩
theorem manyR_ends {α : Type} {w : Bs} {f : List Tk → Res α} (hf : ∀ ts r x, Wf ts → f ts = .inr (x, r) → Ends ts r) : ∀ (n : Nat) (ts r : List Tk) (xs : List α), Wf ts → manyR w f n ts = .inr (xs, r) → r = ts ∨ Ends ts r
  | n, [], r, xs, _, h => by
    cases n <;> (rw [manyR] at h; cases h; exact .inl rfl)
  | 0, t :: us, r, xs, _, h => by
    rw [manyR] at h
    split at h
    · cases h
    · cases h; exact .inl rfl
  | n + 1, t :: us, r, xs, hw, h => by
    rw [manyR] at h
    split at h
    · obtain ⟨c, r1, h1, h⟩ := andR_inr h
      obtain ⟨cs', r2, h2, h⟩ := andR_inr h
      cases h
      have e1 := hf _ _ _ hw h1
      rcases manyR_ends hf n r1 r cs' (hw.suf e1.suf) h2 with rfl | e2
      · exact .inr e1
      · exact .inr (e2.of e1.suf)
    · cases h; exact .inl rfl
end
theorem mapR_ok (ts r : List Tk) (m : MpD) (hw : Wf ts) (h : mapR ts = .inr (m, r)) : Ends ts r ∧ m.sound := by
  unfold mapR at h
  obtain ⟨p, r0, h0, h⟩ := andR_inr h
  obtain ⟨n, r1, h1, h⟩ := andR_inr h
  obtain ⟨_, r2, h2, h⟩ := andR_inr h
  obtain ⟨cs, r3, h3, h⟩ := andR_inr h
  obtain ⟨_, r4, h4, h⟩ := andR_inr h
  cases h
  obtain ⟨t0, rfl, _⟩ := wordR_ok h0
  obtain ⟨t1, rfl, k1, rfl⟩ := nameR_ok h1
  obtain ⟨t2, rfl, _⟩ := wordR_ok h2
  have w2 : Wf r2 := hw.suf (suf_cons.trans (suf_cons.trans suf_cons))
  obtain ⟨s3, c1, c2⟩ := clasR_ok 16 r2 r3 cs w2 h3
  obtain ⟨t4, rfl, k4, _⟩ := wordR_ok h4
  refine ⟨Ends.of ⟨[], t4, rfl, k4⟩ (s3.trans (suf_cons.trans (suf_cons.trans suf_cons))), (hw t1 (by simp)).1 k1, c1, c2⟩
theorem netR_ok (ts r : List Tk) (p : Nat × Int) (hw : Wf ts) (h : netR ts = .inr (p, r)) : r <:+ ts ∧ mayP p.1 p.2 = true ∧ p.1 < 4294967296 := by
  unfold netR at h
  obtain ⟨_, r0, h0, h⟩ := andR_inr h
  obtain ⟨x, r1, h1, h⟩ := andR_inr h
  obtain ⟨_, r2, h2, h⟩ := andR_inr h
  cases h
  obtain ⟨t0, rfl, _⟩ := wordR_ok h0
  obtain ⟨t1, rfl, k1, e1, e2⟩ := pfxR_ok h1
  obtain ⟨t2, rfl, _⟩ := wordR_ok h2
  refine ⟨suf_cons.trans (suf_cons.trans suf_cons), ?_⟩
  rw [← e1, ← e2]
  exact (hw t1 (by simp)).2 k1
theorem lnkR_ok (ts r : List Tk) (l : LkD) (hw : Wf ts) (h : lnkR ts = .inr (l, r)) : r <:+ ts ∧ l.sound := by
  unfold lnkR at h
  obtain ⟨p, r0, h0, h⟩ := andR_inr h
  obtain ⟨n, r1, h1, h⟩ := andR_inr h
  obtain ⟨_, r2, h2, h⟩ := andR_inr h
  obtain ⟨c, r3, h3, h⟩ := andR_inr h
  obtain ⟨i, r4, h4, h⟩ := andR_inr h
  obtain ⟨e, r5, h5, h⟩ := andR_inr h
  obtain ⟨_, r6, h6, h⟩ := andR_inr h
  cases h
  obtain ⟨t0, rfl, _⟩ := wordR_ok h0
  obtain ⟨t1, rfl, k1, rfl⟩ := nameR_ok h1
  obtain ⟨t2, rfl, _⟩ := wordR_ok h2
  obtain ⟨t3, rfl, c0, c1⟩ := nbrR_ok h3
  have w3 : Wf r3 := hw.suf (suf_cons.trans (suf_cons.trans (suf_cons.trans suf_cons)))
  obtain ⟨s4, i1⟩ := optS_ok w3 h4
  obtain ⟨s5, i2⟩ := optS_ok (w3.suf s4) h5
  obtain ⟨t6, rfl, _⟩ := wordR_ok h6
  exact ⟨suf_cons.trans (s5.trans (s4.trans (suf_cons.trans (suf_cons.trans (suf_cons.trans suf_cons))))), (hw t1 (by simp)).1 k1, c0, c1, i1, i2⟩
theorem staR_ok (ts r : List Tk) (s : StD) (hw : Wf ts) (h : staR ts = .inr (s, r)) : r <:+ ts ∧ s.sound := by
  unfold staR at h
  obtain ⟨p, r0, h0, h⟩ := andR_inr h
  obtain ⟨x, r1, h1, h⟩ := andR_inr h
  obtain ⟨_, r2, h2, h⟩ := andR_inr h
  obtain ⟨n, r3, h3, h⟩ := andR_inr h
  obtain ⟨_, r4, h4, h⟩ := andR_inr h
  cases h
  obtain ⟨t0, rfl, _⟩ := wordR_ok h0
  obtain ⟨t1, rfl, k1, e1, e2⟩ := pfxR_ok h1
  obtain ⟨t2, rfl, _⟩ := wordR_ok h2
  obtain ⟨t3, rfl, k3, rfl⟩ := nameR_ok h3
  obtain ⟨t4, rfl, _⟩ := wordR_ok h4
  refine ⟨suf_cons.trans (suf_cons.trans (suf_cons.trans (suf_cons.trans suf_cons))), ?_, (hw t3 (by simp)).1 k3⟩
  show mayP x.1 x.2 = true ∧ x.1 < 4294967296
  rw [← e1, ← e2]
  exact (hw t1 (by simp)).2 k1
theorem rouR_ok (ts r : List Tk) (x : RoD) (hw : Wf ts) (h : rouR ts = .inr (x, r)) : Ends ts r ∧ x.sound := by
  unfold rouR at h
  obtain ⟨p, r0, h0, h⟩ := andR_inr h
  obtain ⟨n, r1, h1, h⟩ := andR_inr h
  obtain ⟨_, r2, h2, h⟩ := andR_inr h
  obtain ⟨ns, r3, h3, h⟩ := andR_inr h
  obtain ⟨ls, r4, h4, h⟩ := andR_inr h
  obtain ⟨ss, r5, h5, h⟩ := andR_inr h
  obtain ⟨_, r6, h6, h⟩ := andR_inr h
  cases h
  obtain ⟨t0, rfl, _⟩ := wordR_ok h0
  obtain ⟨t1, rfl, k1, rfl⟩ := nameR_ok h1
  obtain ⟨t2, rfl, _⟩ := wordR_ok h2
  have w2 : Wf r2 := hw.suf (suf_cons.trans (suf_cons.trans suf_cons))
  obtain ⟨s3, a3, b3⟩ := manyR_ok (S := fun p : Nat × Int => mayP p.1 p.2 = true ∧ p.1 < 4294967296) netR_ok 8 r2 r3 ns w2 h3
  obtain ⟨s4, a4, b4⟩ := manyR_ok (S := LkD.sound) lnkR_ok 64 r3 r4 ls (w2.suf s3) h4
  obtain ⟨s5, a5, b5⟩ := manyR_ok (S := StD.sound) staR_ok 8 r4 r5 ss ((w2.suf s3).suf s4) h5
  obtain ⟨t6, rfl, k6, _⟩ := wordR_ok h6
  refine ⟨Ends.of ⟨[], t6, rfl, k6⟩ (s5.trans (s4.trans (s3.trans (suf_cons.trans (suf_cons.trans suf_cons))))), (hw t1 (by simp)).1 k1, a3, a4, a5, b3, b4, b5⟩
theorem cfgR_ok {ts r : List Tk} {c : CfD} (hw : Wf ts) (h : cfgR ts = .inr (c, r)) : c.sound ∧ ∃ us t, ts = us ++ t :: r ∧ t.kind = 0 ∧ (us = [] ∨ ∃ vs u, us = vs ++ [u] ∧ u.text = [125]) := by
  unfold cfgR at h
  obtain ⟨ms, r1, h1, h⟩ := andR_inr h
  obtain ⟨rs, r2, h2, h⟩ := andR_inr h
  obtain ⟨p, r3, h3, h⟩ := andR_inr h
  cases h
  obtain ⟨s1, a1, b1⟩ := manyR_ok (S := MpD.sound) (fun ts r x hw h => by obtain ⟨e, k⟩ := mapR_ok ts r x hw h; exact ⟨e.suf, k⟩) 64 ts r1 ms hw h1
  have e1 := manyR_ends (fun ts r x hw h => (mapR_ok ts r x hw h).1) 64 ts r1 ms hw h1
  have hw1 := hw.suf s1
  obtain ⟨s2, a2, b2⟩ := manyR_ok (S := RoD.sound) (fun ts r x hw h => by obtain ⟨e, k⟩ := rouR_ok ts r x hw h; exact ⟨e.suf, k⟩) 64 r1 r2 rs hw1 h2
  have e2 := manyR_ends (fun ts r x hw h => (rouR_ok ts r x hw h).1) 64 r1 r2 rs hw1 h2
  refine ⟨⟨a1, a2, b1, b2⟩, ?_⟩
  cases r2 with
  | nil => cases h3
  | cons t r2 =>
    rw [endR] at h3
    split at h3
    · rename_i hk
      cases h3
      have key : Ends ts (t :: r) ∨ t :: r = ts := by
        rcases e2 with e2 | e2
        · rcases e1 with e1 | e1
          · exact .inr (e2.trans e1)
          · exact .inl (by rw [e2]; exact e1)
        · exact .inl (e2.of s1)
      rcases key with ⟨us, u, rfl, hu⟩ | rfl
      · exact ⟨us ++ [u], t, by simp, hk, .inr ⟨us, u, rfl, hu⟩⟩
      · exact ⟨[], t, rfl, hk, .inl rfl⟩
    · cases h3
theorem wf_of {t : Tk} (h1 : t.kind ≠ 1) (h3 : t.kind ≠ 3) : WfT t := ⟨fun h => absurd h h1, fun h => absurd h h3⟩
/-- A text's tokens are right for what they bear. -/
theorem piece_wf {l : Bs} {q : Tk} (h : pieceP l = some q) : WfT q ∧ q.kind ≠ 0 := by
  unfold pieceP at h
  split at h
  · rename_i hn
    cases h
    exact ⟨⟨fun _ => hn, (fun h => by cases h)⟩, Nat.one_ne_zero⟩
  · split at h
    · rename_i r hr
      cases h
      obtain ⟨a, b⟩ := r
      obtain ⟨h1, h2, _⟩ := parse_is hr
      exact ⟨⟨(fun h => by cases h), fun _ => ⟨h1, h2⟩⟩, (fun h => by cases h)⟩
    · split at h
      · cases h
        exact ⟨wf_of (fun h => by cases h) (fun h => by cases h), (fun h => by cases h)⟩
      · cases h
theorem toks_wf : ∀ (n : Nat) (l : Bs), l.length ≤ n → ∀ k i ts, toks l k i = .inr ts → ∃ us, ts = us ++ [endT (i + l.length)] ∧ ∀ t ∈ us, WfT t ∧ t.kind ≠ 0 ∧ i ≤ t.pl ∧ t.pl ≤ i + l.length
  | n, [], _, k, i, ts, h => by
    rw [toks] at h
    cases h
    exact ⟨[], by simp, by simp⟩
  | 0, c :: r, hn, _, _, _, _ => by simp at hn
  | n + 1, c :: r, hn, k + 1, i, ts, h => by
    rw [toks] at h
    obtain ⟨us, e, hu⟩ := toks_wf n r (by simpa using hn) k (i + 1) ts h
    refine ⟨us, by rw [e, List.length_cons]; congr 3; omega, fun t ht => ?_⟩
    obtain ⟨h1, h2, h3, h4⟩ := hu t ht
    rw [List.length_cons]
    exact ⟨h1, h2, by omega, by omega⟩
  | n + 1, c :: r, hn, 0, i, ts, h => by
    have hrn : r.length ≤ n := by simpa using hn
    have step : ∀ k ts', toks r k (i + 1) = .inr ts' → ∃ us, ts' = us ++ [endT (i + (c :: r).length)] ∧ ∀ t ∈ us, WfT t ∧ t.kind ≠ 0 ∧ i ≤ t.pl ∧ t.pl ≤ i + (c :: r).length := by
      intro k ts' h'
      obtain ⟨us, e, hu⟩ := toks_wf n r hrn k (i + 1) ts' h'
      refine ⟨us, by rw [e, List.length_cons]; congr 3; omega, fun t ht => ?_⟩
      obtain ⟨h1, h2, h3, h4⟩ := hu t ht
      rw [List.length_cons]
      exact ⟨h1, h2, by omega, by omega⟩
    have add : ∀ (t : Tk) k, (WfT t ∧ t.kind ≠ 0 ∧ t.pl = i) → addT [t] (toks r k (i + 1)) = .inr ts → ∃ us, ts = us ++ [endT (i + (c :: r).length)] ∧ ∀ t ∈ us, WfT t ∧ t.kind ≠ 0 ∧ i ≤ t.pl ∧ t.pl ≤ i + (c :: r).length := by
      intro t k ht h'
      cases hq : toks r k (i + 1) with
      | inl x => rw [hq] at h'; cases h'
      | inr us =>
        rw [hq] at h'
        cases h'
        obtain ⟨vs, e, hv⟩ := step k us hq
        refine ⟨t :: vs, by rw [e]; rfl, fun x hx => ?_⟩
        rcases List.mem_cons.1 hx with rfl | hx
        · exact ⟨ht.1, ht.2.1, by omega, by omega⟩
        · exact hv x hx
    rw [toks] at h
    split at h
    · exact step 0 ts h
    · split at h
      · exact step _ ts h
      · split at h
        · exact add _ 0 ⟨wf_of (fun h => by cases h) (fun h => by cases h), (fun h => by cases h), rfl⟩ h
        · split at h
          · cases h
          · rename_i q hq
            obtain ⟨h1, h2⟩ := piece_wf hq
            exact add (atT q i) _ ⟨h1, h2, rfl⟩ h
/-- What is read of a text is sound, and ends with a brace, or is none. -/
theorem read_ok {l : Bs} {c : CfD} (h : readP l = .inr c) : c.sound ∧ l.length ≤ 65536 ∧ ∃ us, toks l 0 0 = .inr (us ++ [endT l.length]) ∧ (us = [] ∨ ∃ vs u, us = vs ++ [u] ∧ u.text = [125]) := by
  unfold readP at h
  split at h
  · cases h
  · rename_i hl
    cases ht : toks l 0 0 with
    | inl k => rw [ht] at h; cases h
    | inr ts =>
      rw [ht] at h
      simp only at h
      obtain ⟨us, e, hu⟩ := toks_wf _ l (Nat.le_refl _) 0 0 ts ht
      have hw : Wf ts := by
        intro t ht
        rw [e] at ht
        rcases List.mem_append.1 ht with ht | ht
        · exact (hu t ht).1
        · rw [List.mem_singleton] at ht
          subst ht
          exact wf_of (fun h => by cases h) (fun h => by cases h)
      cases hc : cfgR ts with
      | inl x => rw [hc] at h; cases h
      | inr y =>
        rw [hc] at h
        cases h
        obtain ⟨hs, vs, t, e2, hk, hv⟩ := cfgR_ok hw (r := y.2) (c := y.1) hc
        have hvu : vs = us := by
          rw [e] at e2
          rcases List.append_eq_append_iff.1 e2 with ⟨xs, h1, h2⟩ | ⟨bs, h1, h2⟩
          · cases xs with
            | nil => simpa using h1
            | cons a xs =>
              have := congrArg List.length h2
              simp at this
          · cases bs with
            | nil => simpa using h1.symm
            | cons b bs =>
              rw [List.cons_append] at h2
              injection h2 with h2 _
              subst h2
              exact absurd hk (hu t (by rw [h1]; simp)).2.1
        subst hvu
        exact ⟨hs, by omega, vs, by rw [e, Nat.zero_add], hv⟩
end Go.Proofs.YtejhgifadohbiaaGreatDoor
namespace Go.Proofs.YtejhgifadohbiaaGreatDoor
open Go.Lib

/-- An error that may be told of tokens, at one of them. -/
def ErrAt (ts : List Tk) (e : Nat × Nat) : Prop := (e.1 = 2 ∨ e.1 = 4 ∨ e.1 = 6 ∨ e.1 = 7) ∧ (e.2 = 0 ∨ ∃ t ∈ ts, t.pl = e.2)
theorem ErrAt.suf {ts r : List Tk} {e : Nat × Nat} (h : ErrAt r e) (hs : r <:+ ts) : ErrAt ts e := ⟨h.1, h.2.imp id fun ⟨t, ht, hp⟩ => ⟨t, hs.subset ht, hp⟩⟩
theorem andR_inl {α β : Type} {x : Res α} {f : α → List Tk → Res β} {e : Nat × Nat} (h : andR x f = .inl e) : x = .inl e ∨ ∃ a r, x = .inr (a, r) ∧ f a r = .inl e := by
  cases x with
  | inl e' => exact .inl (by rw [show (Sum.inl e' : Res α) = .inl e' from rfl]; exact congrArg Sum.inl (Sum.inl.inj h))
  | inr p => exact .inr ⟨p.1, p.2, rfl, h⟩
theorem err_nil (ts : List Tk) : ErrAt ts (2, 0) := ⟨.inl rfl, .inl rfl⟩
theorem err_at {n : Nat} {t : Tk} {r : List Tk} (h : n = 2 ∨ n = 4 ∨ n = 6 ∨ n = 7) : ErrAt (t :: r) (n, t.pl) := ⟨h, .inr ⟨t, by simp, rfl⟩⟩
section
variable {ts : List Tk} {e : Nat × Nat}
theorem wordR_err {w : Bs} (h : wordR w ts = .inl e) : ErrAt ts e := by
  cases ts with
  | nil => cases h; exact err_nil _
  | cons t us =>
    rw [wordR] at h
    split at h
    · cases h
    · cases h; exact err_at (.inl rfl)
theorem nameR_err (h : nameR ts = .inl e) : ErrAt ts e := by
  cases ts with
  | nil => cases h; exact err_nil _
  | cons t us =>
    rw [nameR] at h
    split at h
    · cases h
    · cases h; exact err_at (.inl rfl)
theorem pfxR_err (h : pfxR ts = .inl e) : ErrAt ts e := by
  cases ts with
  | nil => cases h; exact err_nil _
  | cons t us =>
    rw [pfxR] at h
    split at h
    · cases h
    · cases h; exact err_at (.inl rfl)
theorem nbrR_err {most : Nat} (h : nbrR most ts = .inl e) : ErrAt ts e := by
  cases ts with
  | nil => cases h; exact err_nil _
  | cons t us =>
    rw [nbrR] at h
    split at h
    · split at h
      · cases h
      · cases h; exact err_at (.inr (.inr (.inl rfl)))
    · cases h; exact err_at (.inl rfl)
theorem optN_err {w : Bs} {most : Nat} (h : optN w most ts = .inl e) : ErrAt ts e := by
  cases ts with
  | nil => cases h
  | cons t us =>
    rw [optN] at h
    split at h
    · exact (nbrR_err h).suf suf_cons
    · cases h
theorem optS_err {w : Bs} (h : optS w ts = .inl e) : ErrAt ts e := by
  cases ts with
  | nil => cases h
  | cons t us =>
    rw [optS] at h
    split at h
    · exact (nameR_err h).suf suf_cons
    · cases h
theorem optB_err {w : Bs} (h : optB w ts = .inl e) : ErrAt ts e := by
  cases ts with
  | nil => cases h
  | cons t us =>
    rw [optB] at h
    split at h
    · cases h
    · cases h
theorem tagsR_err : ∀ {ts : List Tk} {b lo : Nat} {e : Nat × Nat}, tagsR ts b lo = .inl e → ErrAt ts e
  | [], _, _, _, h => by cases h
  | t :: us, b, lo, e, h => by
    rw [tagsR] at h
    split at h
    · split at h
      · cases h; exact err_at (.inr (.inr (.inl rfl)))
      · split at h
        · cases h; exact err_at (.inr (.inl rfl))
        · exact (tagsR_err h).suf suf_cons
    · cases h
theorem optT_err {w : Bs} (h : optT w ts = .inl e) : ErrAt ts e := by
  cases ts with
  | nil => cases h
  | cons t us =>
    rw [optT] at h
    split at h
    · cases us with
      | nil => cases h; exact err_nil _
      | cons u us =>
        rw [tag1] at h
        split at h
        · exact (tagsR_err h).suf suf_cons
        · cases h; exact (err_at (t := u) (.inl rfl)).suf suf_cons
    · cases h
theorem onR_err (h : onR ts = .inl e) : ErrAt ts e := by
  cases ts with
  | nil => cases h; exact err_nil _
  | cons t us =>
    rw [onR] at h
    split at h
    · cases h
    · split at h
      · cases h
      · cases h; exact err_at (.inl rfl)
theorem claR_err (hw : Wf ts) (h : claR ts = .inl e) : ErrAt ts e := by
  unfold claR at h
  rcases andR_inl h with g | ⟨_, r0, h0, g0⟩
  · exact wordR_err g
  obtain ⟨t0, rfl, _⟩ := wordR_ok h0
  refine ErrAt.suf ?_ (suf_cons (r := r0))
  have w0 : Wf r0 := hw.suf suf_cons
  rcases andR_inl g0 with g | ⟨o, r1, h1, g1⟩
  · exact onR_err g
  refine ErrAt.suf ?_ (onR_ok w0 h1).1
  rcases andR_inl g1 with g | ⟨_, r2, h2, g2⟩
  · exact optT_err g
  refine ErrAt.suf ?_ (optT_ok h2)
  rcases andR_inl g2 with g | ⟨_, r3, h3, g3⟩
  · exact optT_err g
  refine ErrAt.suf ?_ (optT_ok h3)
  rcases andR_inl g3 with g | ⟨_, r4, h4, g4⟩
  · exact wordR_err g
  obtain ⟨t4, rfl, _⟩ := wordR_ok h4
  refine ErrAt.suf ?_ (suf_cons (r := r4))
  rcases andR_inl g4 with g | ⟨_, r5, h5, g5⟩
  · exact optB_err g
  refine ErrAt.suf ?_ (optB_ok h5)
  rcases andR_inl g5 with g | ⟨_, r6, h6, g6⟩
  · exact optT_err g
  refine ErrAt.suf ?_ (optT_ok h6)
  rcases andR_inl g6 with g | ⟨_, r7, h7, g7⟩
  · exact optT_err g
  refine ErrAt.suf ?_ (optT_ok h7)
  rcases andR_inl g7 with g | ⟨_, r8, h8, g8⟩
  · exact optN_err g
  refine ErrAt.suf ?_ (optN_ok h8).1
  rcases andR_inl g8 with g | ⟨_, r9, h9, g9⟩
  · exact optN_err g
  refine ErrAt.suf ?_ (optN_ok h9).1
  rcases andR_inl g9 with g | ⟨_, r10, h10, g10⟩
  · exact wordR_err g
  cases g10
end
theorem clasR_err : ∀ (n : Nat) (ts : List Tk) (e : Nat × Nat), Wf ts → clasR n ts = .inl e → ErrAt ts e
  | n, [], e, _, h => by cases n <;> (rw [clasR] at h; cases h)
  | 0, t :: us, e, _, h => by
    rw [clasR] at h
    split at h
    · cases h
    · cases h; exact err_at (.inr (.inr (.inr rfl)))
  | n + 1, t :: us, e, hw, h => by
    rw [clasR] at h
    split at h
    · cases h
    · rcases andR_inl h with h | ⟨c, r1, h1, h⟩
      · exact claR_err hw h
      have s1 := (claR_ok hw h1).1
      rcases andR_inl h with h | ⟨cs, r2, h2, h⟩
      · exact (clasR_err n r1 e (hw.suf s1) h).suf s1
      · cases h
theorem manyR_err {α : Type} {w : Bs} {f : List Tk → Res α} (hf : ∀ ts r x, Wf ts → f ts = .inr (x, r) → r <:+ ts) (he : ∀ ts e, Wf ts → f ts = .inl e → ErrAt ts e) : ∀ (n : Nat) (ts : List Tk) (e : Nat × Nat), Wf ts → manyR w f n ts = .inl e → ErrAt ts e
  | n, [], e, _, h => by cases n <;> (rw [manyR] at h; cases h)
  | 0, t :: us, e, _, h => by
    rw [manyR] at h
    split at h
    · cases h; exact err_at (.inr (.inr (.inr rfl)))
    · cases h
  | n + 1, t :: us, e, hw, h => by
    rw [manyR] at h
    split at h
    · rcases andR_inl h with h | ⟨c, r1, h1, h⟩
      · exact he _ _ hw h
      have s1 := hf _ _ _ hw h1
      rcases andR_inl h with h | ⟨cs, r2, h2, h⟩
      · exact (manyR_err hf he n r1 e (hw.suf s1) h).suf s1
      · cases h
    · cases h
theorem mapR_err (ts : List Tk) (e : Nat × Nat) (hw : Wf ts) (h : mapR ts = .inl e) : ErrAt ts e := by
  unfold mapR at h
  rcases andR_inl h with g | ⟨p, r0, h0, g0⟩
  · exact wordR_err g
  obtain ⟨t0, rfl, _⟩ := wordR_ok h0
  refine ErrAt.suf ?_ (suf_cons (r := r0))
  have w0 : Wf r0 := hw.suf suf_cons
  rcases andR_inl g0 with g | ⟨n, r1, h1, g1⟩
  · exact nameR_err g
  obtain ⟨t1, rfl, _⟩ := nameR_ok h1
  refine ErrAt.suf ?_ (suf_cons (r := r1))
  have w1 : Wf r1 := w0.suf suf_cons
  rcases andR_inl g1 with g | ⟨_, r2, h2, g2⟩
  · exact wordR_err g
  obtain ⟨t2, rfl, _⟩ := wordR_ok h2
  refine ErrAt.suf ?_ (suf_cons (r := r2))
  have w2 : Wf r2 := w1.suf suf_cons
  rcases andR_inl g2 with g | ⟨cs, r3, h3, g3⟩
  · exact clasR_err _ _ _ w2 g
  refine ErrAt.suf ?_ (clasR_ok _ _ _ _ w2 h3).1
  rcases andR_inl g3 with g | ⟨_, r4, h4, g4⟩
  · exact wordR_err g
  cases g4
theorem netR_err (ts : List Tk) (e : Nat × Nat) (_ : Wf ts) (h : netR ts = .inl e) : ErrAt ts e := by
  unfold netR at h
  rcases andR_inl h with g | ⟨p, r0, h0, g0⟩
  · exact wordR_err g
  obtain ⟨t0, rfl, _⟩ := wordR_ok h0
  refine ErrAt.suf ?_ (suf_cons (r := r0))
  rcases andR_inl g0 with g | ⟨n, r1, h1, g1⟩
  · exact pfxR_err g
  obtain ⟨t1, rfl, _⟩ := pfxR_ok h1
  refine ErrAt.suf ?_ (suf_cons (r := r1))
  rcases andR_inl g1 with g | ⟨_, r2, h2, g2⟩
  · exact wordR_err g
  cases g2
theorem lnkR_err (ts : List Tk) (e : Nat × Nat) (hw : Wf ts) (h : lnkR ts = .inl e) : ErrAt ts e := by
  unfold lnkR at h
  rcases andR_inl h with g | ⟨p, r0, h0, g0⟩
  · exact wordR_err g
  obtain ⟨t0, rfl, _⟩ := wordR_ok h0
  refine ErrAt.suf ?_ (suf_cons (r := r0))
  have w0 : Wf r0 := hw.suf suf_cons
  rcases andR_inl g0 with g | ⟨n, r1, h1, g1⟩
  · exact nameR_err g
  obtain ⟨t1, rfl, _⟩ := nameR_ok h1
  refine ErrAt.suf ?_ (suf_cons (r := r1))
  have w1 : Wf r1 := w0.suf suf_cons
  rcases andR_inl g1 with g | ⟨_, r2, h2, g2⟩
  · exact wordR_err g
  obtain ⟨t2, rfl, _⟩ := wordR_ok h2
  refine ErrAt.suf ?_ (suf_cons (r := r2))
  have w2 : Wf r2 := w1.suf suf_cons
  rcases andR_inl g2 with g | ⟨c, r3, h3, g3⟩
  · exact nbrR_err g
  obtain ⟨t3, rfl, _⟩ := nbrR_ok h3
  refine ErrAt.suf ?_ (suf_cons (r := r3))
  have w3 : Wf r3 := w2.suf suf_cons
  rcases andR_inl g3 with g | ⟨i, r4, h4, g4⟩
  · exact optS_err g
  have s4 := (optS_ok w3 h4).1
  refine ErrAt.suf ?_ s4
  rcases andR_inl g4 with g | ⟨x, r5, h5, g5⟩
  · exact optS_err g
  refine ErrAt.suf ?_ (optS_ok (w3.suf s4) h5).1
  rcases andR_inl g5 with g | ⟨_, r6, h6, g6⟩
  · exact wordR_err g
  cases g6
theorem staR_err (ts : List Tk) (e : Nat × Nat) (_ : Wf ts) (h : staR ts = .inl e) : ErrAt ts e := by
  unfold staR at h
  rcases andR_inl h with g | ⟨p, r0, h0, g0⟩
  · exact wordR_err g
  obtain ⟨t0, rfl, _⟩ := wordR_ok h0
  refine ErrAt.suf ?_ (suf_cons (r := r0))
  rcases andR_inl g0 with g | ⟨n, r1, h1, g1⟩
  · exact pfxR_err g
  obtain ⟨t1, rfl, _⟩ := pfxR_ok h1
  refine ErrAt.suf ?_ (suf_cons (r := r1))
  rcases andR_inl g1 with g | ⟨_, r2, h2, g2⟩
  · exact wordR_err g
  obtain ⟨t2, rfl, _⟩ := wordR_ok h2
  refine ErrAt.suf ?_ (suf_cons (r := r2))
  rcases andR_inl g2 with g | ⟨_, r3, h3, g3⟩
  · exact nameR_err g
  obtain ⟨t3, rfl, _⟩ := nameR_ok h3
  refine ErrAt.suf ?_ (suf_cons (r := r3))
  rcases andR_inl g3 with g | ⟨_, r4, h4, g4⟩
  · exact wordR_err g
  cases g4
theorem rouR_err (ts : List Tk) (e : Nat × Nat) (hw : Wf ts) (h : rouR ts = .inl e) : ErrAt ts e := by
  unfold rouR at h
  rcases andR_inl h with g | ⟨p, r0, h0, g0⟩
  · exact wordR_err g
  obtain ⟨t0, rfl, _⟩ := wordR_ok h0
  refine ErrAt.suf ?_ (suf_cons (r := r0))
  have w0 : Wf r0 := hw.suf suf_cons
  rcases andR_inl g0 with g | ⟨n, r1, h1, g1⟩
  · exact nameR_err g
  obtain ⟨t1, rfl, _⟩ := nameR_ok h1
  refine ErrAt.suf ?_ (suf_cons (r := r1))
  have w1 : Wf r1 := w0.suf suf_cons
  rcases andR_inl g1 with g | ⟨_, r2, h2, g2⟩
  · exact wordR_err g
  obtain ⟨t2, rfl, _⟩ := wordR_ok h2
  refine ErrAt.suf ?_ (suf_cons (r := r2))
  have w2 : Wf r2 := w1.suf suf_cons
  rcases andR_inl g2 with g | ⟨ns, r3, h3, g3⟩
  · exact manyR_err (fun ts r x hw h => (netR_ok ts r x hw h).1) netR_err _ _ _ w2 g
  have s3 := (manyR_ok (S := fun _ => True) (fun ts r x hw h => ⟨(netR_ok ts r x hw h).1, trivial⟩) _ _ _ _ w2 h3).1
  refine ErrAt.suf ?_ s3
  have w3 := w2.suf s3
  rcases andR_inl g3 with g | ⟨ls, r4, h4, g4⟩
  · exact manyR_err (fun ts r x hw h => (lnkR_ok ts r x hw h).1) lnkR_err _ _ _ w3 g
  have s4 := (manyR_ok (S := fun _ => True) (fun ts r x hw h => ⟨(lnkR_ok ts r x hw h).1, trivial⟩) _ _ _ _ w3 h4).1
  refine ErrAt.suf ?_ s4
  have w4 := w3.suf s4
  rcases andR_inl g4 with g | ⟨ss, r5, h5, g5⟩
  · exact manyR_err (fun ts r x hw h => (staR_ok ts r x hw h).1) staR_err _ _ _ w4 g
  have s5 := (manyR_ok (S := fun _ => True) (fun ts r x hw h => ⟨(staR_ok ts r x hw h).1, trivial⟩) _ _ _ _ w4 h5).1
  refine ErrAt.suf ?_ s5
  rcases andR_inl g5 with g | ⟨_, r6, h6, g6⟩
  · exact wordR_err g
  cases g6
theorem cfgR_err {ts : List Tk} {e : Nat × Nat} (hw : Wf ts) (h : cfgR ts = .inl e) : ErrAt ts e := by
  unfold cfgR at h
  rcases andR_inl h with g | ⟨ms, r1, h1, g0⟩
  · exact manyR_err (fun ts r x hw h => (mapR_ok ts r x hw h).1.suf) mapR_err _ _ _ hw g
  have s1 := (manyR_ok (S := fun _ => True) (fun ts r x hw h => ⟨(mapR_ok ts r x hw h).1.suf, trivial⟩) _ _ _ _ hw h1).1
  refine ErrAt.suf ?_ s1
  have w1 := hw.suf s1
  rcases andR_inl g0 with g | ⟨rs, r2, h2, g1⟩
  · exact manyR_err (fun ts r x hw h => (rouR_ok ts r x hw h).1.suf) rouR_err _ _ _ w1 g
  have s2 := (manyR_ok (S := fun _ => True) (fun ts r x hw h => ⟨(rouR_ok ts r x hw h).1.suf, trivial⟩) _ _ _ _ w1 h2).1
  refine ErrAt.suf ?_ s2
  rcases andR_inl g1 with g | ⟨_, r3, h3, g2⟩
  · cases r2 with
    | nil => cases g; exact err_nil _
    | cons t us =>
      rw [endR] at g
      split at g
      · cases g
      · cases g; exact err_at (.inl rfl)
  cases g2
theorem toks_bad : ∀ (n : Nat) (l : Bs), l.length ≤ n → ∀ k i p, toks l k i = .inl p → p ≤ i + l.length
  | n, [], _, k, i, p, h => by rw [toks] at h; cases h
  | 0, c :: r, hn, _, _, _, _ => by simp at hn
  | n + 1, c :: r, hn, k + 1, i, p, h => by
    rw [toks] at h
    have := toks_bad n r (by simpa using hn) k (i + 1) p h
    rw [List.length_cons]
    omega
  | n + 1, c :: r, hn, 0, i, p, h => by
    have hrn : r.length ≤ n := by simpa using hn
    have step : ∀ k, toks r k (i + 1) = .inl p → p ≤ i + (c :: r).length := by
      intro k h'
      have := toks_bad n r hrn k (i + 1) p h'
      rw [List.length_cons]
      omega
    have add : ∀ (t : Tk) k, addT [t] (toks r k (i + 1)) = .inl p → p ≤ i + (c :: r).length := by
      intro t k h'
      cases hq : toks r k (i + 1) with
      | inl x => rw [hq] at h'; cases h'; exact step k hq
      | inr us => rw [hq] at h'; cases h'
    rw [toks] at h
    split at h
    · exact step 0 h
    · split at h
      · exact step _ h
      · split at h
        · exact add _ 0 h
        · split at h
          · cases h; omega
          · exact add _ _ h
/-- Which error is told of a text that is short enough, and where. -/
theorem read_err {l : Bs} {e : Nat × Nat} (h : readP l = .inl e) : (e.1 = 1 ∨ e.1 = 2 ∨ e.1 = 4 ∨ e.1 = 6 ∨ e.1 = 7) ∧ e.2 ≤ l.length := by
  unfold readP at h
  split at h
  · cases h; exact ⟨.inr (.inr (.inr (.inr rfl))), Nat.zero_le _⟩
  · cases ht : toks l 0 0 with
    | inl k =>
      rw [ht] at h
      cases h
      exact ⟨.inl rfl, by have := toks_bad _ l (Nat.le_refl _) 0 0 k ht; omega⟩
    | inr ts =>
      rw [ht] at h
      simp only at h
      obtain ⟨us, eu, hu⟩ := toks_wf _ l (Nat.le_refl _) 0 0 ts ht
      have hw : Wf ts ∧ ∀ t ∈ ts, t.pl ≤ l.length := by
        refine ⟨fun t ht => ?_, fun t ht => ?_⟩
        all_goals
          rw [eu] at ht
          rcases List.mem_append.1 ht with ht | ht
        · exact (hu t ht).1
        · rw [List.mem_singleton] at ht
          subst ht
          exact wf_of (fun h => by cases h) (fun h => by cases h)
        · have := (hu t ht).2.2.2
          omega
        · rw [List.mem_singleton] at ht
          subst ht
          show 0 + l.length ≤ l.length
          omega
      cases hc : cfgR ts with
      | inr y => rw [hc] at h; cases h
      | inl x =>
        rw [hc] at h
        cases h
        obtain ⟨h1, h2⟩ := cfgR_err hw.1 hc
        refine ⟨.inr h1, ?_⟩
        rcases h2 with h2 | ⟨t, ht, h2⟩
        · omega
        · rw [← h2]
          exact hw.2 t ht
end Go.Proofs.YtejhgifadohbiaaGreatDoor
namespace Go.Proofs.YtejhgifadohbiaaGreatDoor
open Go.Lib

/-- No closing brace. -/
def okC (c : UInt8) : Bool := prtP c || blkP c || decide (c.toNat = 59) || decide (c.toNat = 123)
def AllC (l : Bs) : Prop := ∀ c ∈ l, okC c = true
theorem AllC.app {a b : Bs} (h1 : AllC a) (h2 : AllC b) : AllC (a ++ b) := fun c hc => (List.mem_append.1 hc).elim (h1 c) (h2 c)
theorem AllC.cons {c : UInt8} {b : Bs} (h1 : okC c = true) (h2 : AllC b) : AllC (c :: b) := fun x hx => (List.mem_cons.1 hx).elim (fun h => h ▸ h1) (h2 x)
theorem AllC.nil : AllC [] := fun c hc => by cases hc
theorem AllC.prt {x : Bs} (h : ∀ c ∈ x, prtP c = true) : AllC x := fun c hc => by unfold okC; rw [h c hc]; rfl
theorem AllC.dec {x : Bs} (h : x.all okC = true) : AllC x := fun c hc => List.all_eq_true.1 h c hc
theorem AllC.flat {α : Type} {f : α → Bs} {l : List α} (h : ∀ x ∈ l, AllC (f x)) : AllC (l.flatMap f) := fun c hc => by
  obtain ⟨x, hx, hc⟩ := List.mem_flatMap.1 hc
  exact h x hx c hc
theorem allC_name {x : Bs} (h : nameP x = true) : AllC x := AllC.prt (name_prt h)
theorem allC_itoa {n : Int} (h : 0 ≤ n) : AllC (itoa n) := by
  rw [itoa_at h]
  exact AllC.prt fun c hc => dig_prt (dec_dig _ c hc)
theorem allC_pf (a : Nat) (b : Int) : AllC (pfT a b) := by
  unfold pfT
  split
  · exact AllC.prt text_prt
  · exact AllC.nil
theorem tag_digsC : ∀ k : Fin 4, okC (UInt8.ofNat (48 + k.val)) = true := by decide
theorem allC_tag (bits : Nat) : ∀ f k, f + k ≤ 4 → AllC (tagN bits f k)
  | 0, _, _ => AllC.nil
  | f + 1, k, h => by
    unfold tagN
    refine AllC.app ?_ (allC_tag bits f (k + 1) (by omega))
    split
    · exact AllC.cons (by decide) (AllC.cons (tag_digsC ⟨k, by omega⟩) AllC.nil)
    · exact AllC.nil
theorem allC_tags {word : Bs} (h : AllC word) (bits : Nat) : AllC (tagsT word bits) := by
  unfold tagsT
  split
  · exact AllC.nil
  · exact (AllC.cons (by decide) h).app (allC_tag bits 4 0 (by omega))
theorem allC_num {word : Bs} (h : AllC word) {n : Int} (h0 : 0 ≤ n) : AllC (numT word n) := by
  unfold numT
  split
  · exact AllC.nil
  · exact (AllC.cons (by decide) h).app (AllC.cons (by decide) (allC_itoa h0))
theorem allC_nm {word s : Bs} (h : AllC word) (hs : s ≠ [] → nameP s = true) : AllC (nmT word s) := by
  unfold nmT
  split
  · exact AllC.nil
  · rename_i h2
    exact (AllC.cons (by decide) h).app (AllC.cons (by decide) (allC_name (hs h2)))
theorem allC_inn {l : Bs} (h : AllC l) : AllC (innT l) := (AllC.cons (by decide) h).app (AllC.dec (by decide))
theorem allC_line {c : ClD} (h : c.sound) : AllC (lineT c) := by
  have h1 : AllC (onT c) := by
    unfold onT
    split
    · exact AllC.dec (by decide)
    · exact allC_pf _ _
  have h2 : AllC (dropT c) := by unfold dropT; split <;> exact AllC.dec (by decide)
  exact allC_inn (((((((((AllC.dec (by decide) : AllC [105, 102, 32]).app h1).app (allC_tags (AllC.dec (by decide)) _)).app (allC_tags (AllC.dec (by decide)) _)).app (AllC.dec (by decide))).app h2).app (allC_tags (AllC.dec (by decide)) _)).app
    (allC_tags (AllC.dec (by decide)) _)).app (allC_num (AllC.dec (by decide)) h.m0) |>.app (allC_num (AllC.dec (by decide)) h.p0))
theorem allC_head {kind name : Bs} (h : AllC kind) (hn : nameP name = true) : AllC (headT kind name) := (h.app (AllC.cons (by decide) (allC_name hn))).app (AllC.dec (by decide))

def mapB (m : MpD) : Bs := headT [109, 97, 112] m.name ++ m.cls.flatMap lineT
def rouB (r : RoD) : Bs := headT [114, 111, 117, 116, 101, 114] r.name ++ r.nets.flatMap netT ++ r.lks.flatMap linkT ++ r.sts.flatMap statT
theorem allC_map {m : MpD} (hs : m.sound) : AllC (mapB m) := (allC_head (AllC.dec (by decide)) hs.n).app (AllC.flat fun c hc => allC_line (hs.c c hc))
theorem allC_rou {r : RoD} (hs : r.sound) : AllC (rouB r) := by
  refine (((allC_head (AllC.dec (by decide)) hs.n).app (AllC.flat fun p hp => ?_)).app (AllC.flat fun l hl => ?_)).app (AllC.flat fun x hx => ?_)
  · exact allC_inn ((AllC.dec (by decide) : AllC [110, 101, 116, 32]).app (allC_pf _ _))
  · have hk := hs.l l hl
    exact allC_inn ((((((AllC.dec (by decide) : AllC [108, 105, 110, 107, 32]).app (allC_name hk.n)).app (AllC.dec (by decide))).app (allC_itoa (by have := hk.c0; omega))).app (allC_nm (AllC.dec (by decide)) hk.i)).app (allC_nm (AllC.dec (by decide)) hk.e))
  · have hk := hs.s x hx
    exact allC_inn ((((AllC.dec (by decide) : AllC [115, 116, 97, 116, 105, 99, 32]).app (allC_pf _ _)).app (AllC.dec (by decide))).app (allC_name hk.n))
/-- A block's body, and its words. -/
structure BlkOk (p : Bs × List Bs) : Prop where
  n : (125 : UInt8) ∉ p.1
  h : ∃ c r, p.1 = c :: r ∧ prtP c = true
  w : Words true (p.1 ++ [125]) p.2
theorem no125 {l : Bs} (h : AllC l) : (125 : UInt8) ∉ l := fun h' => by
  have := h 125 h'
  revert this
  decide
def blocks (c : CfD) : List (Bs × List Bs) := c.maps.map (fun m => (mapB m, mapW m)) ++ c.ros.map fun r => (rouB r, rouW r)
theorem words_close {l : Bs} {ws : List Bs} (h : Words true l ws) : Words true (l ++ [125]) (ws ++ [[125]]) := h.app (words_sgn (c := 125) (by decide)) (.inl rfl)
theorem map_blk {m : MpD} (h : m.sound) : BlkOk (mapB m, mapW m) :=
  ⟨no125 (allC_map h), ⟨109, _, rfl, by decide⟩, words_close ((head_words (by decide) h.n).app (flat_words lineT claW m.cls fun c hc => line_words (h.c c hc)) (.inl rfl))⟩
theorem rou_blk {r : RoD} (h : r.sound) : BlkOk (rouB r, rouW r) :=
  ⟨no125 (allC_rou h), ⟨114, _, rfl, by decide⟩, words_close ((((head_words (by decide) h.n).app (flat_words netT netW r.nets fun p hp => net_words (h.t p hp)) (.inl rfl)).app (flat_words linkT lnkW r.lks fun l hl => link_words (h.l l hl)) (.inl rfl)).app
    (flat_words statT staW r.sts fun s hs => stat_words (h.s s hs)) (.inl rfl))⟩
theorem blocks_ok {c : CfD} (h : c.sound) : ∀ p ∈ blocks c, BlkOk p := by
  intro p hp
  unfold blocks at hp
  rcases List.mem_append.1 hp with hp | hp
  · obtain ⟨m, hm, rfl⟩ := List.mem_map.1 hp
    exact map_blk (h.m m hm)
  · obtain ⟨r, hr, rfl⟩ := List.mem_map.1 hp
    exact rou_blk (h.r r hr)
def textOf (ps : List (Bs × List Bs)) : Bs := ps.flatMap fun p => p.1 ++ [125, 10]
def wordsOf (ps : List (Bs × List Bs)) : List Bs := ps.flatMap (·.2)
theorem blocks_text (c : CfD) : textOf (blocks c) = confT c := by
  unfold textOf blocks confT
  rw [List.flatMap_append, List.flatMap_map, List.flatMap_map]
  rfl
theorem blocks_words (c : CfD) : wordsOf (blocks c) = cfgW c := by
  unfold wordsOf blocks cfgW
  rw [List.flatMap_append, List.flatMap_map, List.flatMap_map]
/-- The first so many maps and routers. -/
def upto (c : CfD) (j : Nat) : CfD := ⟨c.maps.take j, c.ros.take (j - c.maps.length)⟩
theorem upto_sound {c : CfD} (h : c.sound) (j : Nat) : (upto c j).sound :=
  ⟨fun m hm => h.m m (List.mem_of_mem_take hm), fun r hr => h.r r (List.mem_of_mem_take hr), Nat.le_trans (by unfold upto; simp; omega) h.ml, Nat.le_trans (by unfold upto; simp; omega) h.rl⟩
theorem upto_blocks (c : CfD) (j : Nat) : blocks (upto c j) = (blocks c).take j := by
  unfold blocks upto
  rw [List.take_append, List.length_map, List.map_take, List.map_take]
/-- Blocks, one behind the other; the last without its line's end or not. -/
theorem text_words : ∀ (ps : List (Bs × List Bs)), (∀ p ∈ ps, BlkOk p) → Words true (textOf ps) (wordsOf ps)
  | [], _ => Words.nil
  | p :: ps, h => by
    have h1 := ((h p (List.mem_cons_self ..)).w.app (words_blk (c := 10) (by decide)) (.inl rfl)).app (text_words ps fun q hq => h q (List.mem_cons_of_mem _ hq)) (.inl rfl)
    have e : textOf (p :: ps) = p.1 ++ [125] ++ [10] ++ textOf ps := by simp [textOf]
    rw [e]
    have e2 : wordsOf (p :: ps) = p.2 ++ [] ++ wordsOf ps := by simp [wordsOf]
    rw [e2]
    exact h1
/-- Where the end is cut off. -/
theorem cutoff_at : ∀ (ps : List (Bs × List Bs)) (k : Nat), k ≤ (textOf ps).length →
    (∃ j, j ≤ ps.length ∧ (textOf ps).take k = textOf (ps.take j)) ∨ ∃ j, ∃ h : j < ps.length, (textOf ps).take k = textOf (ps.take j) ++ (ps[j].1 ++ [125]) ∨ ∃ r, r ≠ [] ∧ r <+: ps[j].1 ∧ (textOf ps).take k = textOf (ps.take j) ++ r
  | [], k, _ => .inl ⟨0, Nat.le_refl _, by simp [textOf]⟩
  | p :: ps, k, hk => by
    have e : textOf (p :: ps) = (p.1 ++ [125, 10]) ++ textOf ps := rfl
    have hlen : (textOf (p :: ps)).length = p.1.length + 2 + (textOf ps).length := by rw [e]; simp; omega
    by_cases h1 : p.1.length + 2 ≤ k
    · have ht : (textOf (p :: ps)).take k = (p.1 ++ [125, 10]) ++ (textOf ps).take (k - (p.1.length + 2)) := by
        rw [e, List.take_append, List.take_of_length_le (by simp; omega)]
        simp
      rcases cutoff_at ps (k - (p.1.length + 2)) (by omega) with ⟨j, hj, h2⟩ | ⟨j, hj, h2⟩
      · exact .inl ⟨j + 1, by simpa using hj, by rw [ht, h2]; rfl⟩
      · refine .inr ⟨j + 1, by simpa using hj, ?_⟩
        rcases h2 with h2 | ⟨r, hr0, hr, h2⟩
        · exact .inl (by rw [ht, h2]; simp [textOf])
        · exact .inr ⟨r, hr0, hr, by rw [ht, h2]; simp [textOf]⟩
    · have ht : (textOf (p :: ps)).take k = (p.1 ++ [125]).take k := by
        have e3 : textOf (p :: ps) = (p.1 ++ [125]) ++ ([10] ++ textOf ps) := by rw [e]; simp
        rw [e3, List.take_append_of_le_length (by simp; omega)]
      by_cases h0 : k = 0
      · subst h0
        exact .inl ⟨0, Nat.zero_le _, by simp [textOf]⟩
      · refine .inr ⟨0, by simp, ?_⟩
        by_cases h2 : k = p.1.length + 1
        · exact .inl (by rw [ht, h2, List.take_of_length_le (by simp)]; simp [textOf])
        · refine .inr ⟨p.1.take k, ?_, List.take_prefix _ _, ?_⟩
          · intro h
            have := congrArg List.length h
            rw [List.length_take] at this
            simp at this
            rcases this with h' | h'
            · exact h0 h'
            · rw [h'] at h1 h2
              simp at h1 h2
              omega
          · rw [ht, List.take_append_of_le_length (by omega)]
            simp [textOf]
/-- A token's letters are the text's. -/
theorem toks_sub : ∀ (n : Nat) (l : Bs), l.length ≤ n → ∀ k i ts, toks l k i = .inr ts → ∀ t ∈ ts, ∀ c ∈ t.text, c ∈ l
  | n, [], _, k, i, ts, h => by
    rw [toks] at h
    cases h
    intro t ht c hc
    rw [List.mem_singleton] at ht
    subst ht
    cases hc
  | 0, c :: r, hn, _, _, _, _ => by simp at hn
  | n + 1, c :: r, hn, k + 1, i, ts, h => by
    rw [toks] at h
    intro t ht x hx
    exact List.mem_cons_of_mem _ (toks_sub n r (by simpa using hn) k (i + 1) ts h t ht x hx)
  | n + 1, c :: r, hn, 0, i, ts, h => by
    have hrn : r.length ≤ n := by simpa using hn
    have step : ∀ k, toks r k (i + 1) = .inr ts → ∀ t ∈ ts, ∀ x ∈ t.text, x ∈ c :: r := fun k h' t ht x hx => List.mem_cons_of_mem _ (toks_sub n r hrn k (i + 1) ts h' t ht x hx)
    have add : ∀ (t : Tk) k, (∀ x ∈ t.text, x ∈ c :: r) → addT [t] (toks r k (i + 1)) = .inr ts → ∀ t ∈ ts, ∀ x ∈ t.text, x ∈ c :: r := by
      intro t k ht h'
      cases hq : toks r k (i + 1) with
      | inl x => rw [hq] at h'; cases h'
      | inr us =>
        rw [hq] at h'
        cases h'
        intro u hu x hx
        rcases List.mem_cons.1 hu with rfl | hu
        · exact ht x hx
        · exact List.mem_cons_of_mem _ (toks_sub n r hrn k (i + 1) us hq u hu x hx)
    rw [toks] at h
    split at h
    · exact step 0 h
    · split at h
      · exact step _ h
      · split at h
        · exact add _ 0 (fun x hx => by rw [List.mem_singleton] at hx; subst hx; exact List.mem_cons_self ..) h
        · split at h
          · cases h
          · rename_i q hq
            exact add (atT q i) _ (fun x hx => by
              have e := piece_text hq
              have hx' : x ∈ q.text := hx
              rw [e] at hx'
              exact List.mem_of_mem_take hx') h
/-- Blocks, and the beginning of one: not read. -/
theorem cut_bad {ps : List (Bs × List Bs)} (hp : ∀ p ∈ ps, BlkOk p) {b r : Bs} (hb : (125 : UInt8) ∉ b) (hh : ∃ c s, b = c :: s ∧ prtP c = true) (hr : r <+: b) (hr0 : r ≠ []) : ∀ d, readP (textOf ps ++ r) ≠ .inr d := by
  intro d h
  obtain ⟨_, _, us, ht, hu⟩ := read_ok h
  obtain ⟨wo, e1, hL⟩ := text_words ps hp
  rw [hL r 0 (.inl rfl)] at ht
  have hr125 : (125 : UInt8) ∉ r := fun h => hb (hr.subset h)
  obtain ⟨c, s, hcs, hc⟩ : ∃ c s, r = c :: s ∧ prtP c = true := by
    obtain ⟨c, s, rfl, hc⟩ := hh
    cases r with
    | nil => exact absurd rfl hr0
    | cons x y =>
      obtain ⟨z, hz⟩ := hr
      injection hz with hz _
      exact ⟨x, y, rfl, by rw [hz]; exact hc⟩
  cases hq : toks r 0 (0 + (textOf ps).length) with
  | inl x => rw [hq] at ht; cases ht
  | inr ts =>
    rw [hq] at ht
    have ht' : wo.map (tkAt 0) ++ ts = us ++ [endT (textOf ps ++ r).length] := Sum.inr.inj ht
    obtain ⟨vs, e2, hv⟩ := toks_wf _ r (Nat.le_refl _) 0 _ ts hq
    have hsub := toks_sub _ r (Nat.le_refl _) 0 _ ts hq
    have hv0 : vs ≠ [] := by
      intro h0
      obtain ⟨p1, p2, p3⟩ := prt_not hc
      rw [hcs, toks, if_neg (by rw [p1]; simp), if_neg p2, if_neg (by rw [p3]; simp)] at hq
      split at hq
      · cases hq
      · cases hx : toks s (spanN prtP (c :: s) - 1) (0 + (textOf ps).length + 1) with
        | inl x => rw [hx] at hq; cases hq
        | inr zs =>
          rw [hx] at hq
          have hz := Sum.inr.inj hq
          obtain ⟨ws, e3, _⟩ := toks_wf _ s (Nat.le_refl _) _ _ zs hx
          rw [e2, h0, e3] at hz
          have := congrArg List.length hz
          simp at this
    obtain ⟨v, vl, rfl⟩ : ∃ v vl, vs = v ++ [vl] := ⟨vs.dropLast, vs.getLast hv0, (List.dropLast_concat_getLast hv0).symm⟩
    have e4 : us = wo.map (tkAt 0) ++ v ++ [vl] := by
      rw [e2] at ht'
      have h5 : (wo.map (tkAt 0) ++ v ++ [vl]) ++ [endT (0 + (textOf ps).length + r.length)] = us ++ [endT (textOf ps ++ r).length] := by rw [← ht']; simp
      exact (List.append_inj' h5 rfl).1.symm
    rcases hu with hu | ⟨xs, u, hu, hu2⟩
    · rw [e4] at hu
      simp at hu
    · rw [e4] at hu
      have h6 := (List.append_inj' hu rfl).2
      injection h6 with h6 _
      subst h6
      exact hr125 (hsub vl (by rw [e2]; simp) 125 (by rw [hu2]; exact List.mem_singleton.2 rfl))
/-- Words of a sound configuration, from its own text or another one. -/
theorem words_read {c : CfD} (hc : c.sound) {l : Bs} (h : Words true l (cfgW c)) (hl : l.length ≤ 65536) : ∃ d, readP l = .inr d := by
  obtain ⟨wo, e1, e2⟩ := h.toks
  have hT : Tl (cfgW c) [endT l.length] (wo.map (tkAt 0) ++ [endT l.length]) := ⟨_, rfl, by rw [← e1]; exact relL_at 0 wo⟩
  obtain ⟨c', h1, _⟩ := rd_cfg hc ⟨rfl, rfl⟩ hT
  refine ⟨c', ?_⟩
  unfold readP
  rw [if_neg (by omega), e2]
  simp only [h1]
/-- Nothing but whole maps and routers is left. -/
def wholeP (p : Bs) : Prop := p = [] ∨ (∃ q, p = q ++ [125]) ∨ ∃ q, p = q ++ [125, 10]
theorem cut_read {c : CfD} (hc : c.sound) (hl : (confT c).length ≤ 65536) {k : Nat} (hk : k ≤ (confT c).length) : (∃ d, readP ((confT c).take k) = .inr d) ↔ wholeP ((confT c).take k) := by
  have hB := blocks_ok hc
  have hlen : ((confT c).take k).length ≤ 65536 := by rw [List.length_take]; omega
  have hsub : ∀ j, ∀ p ∈ (blocks c).take j, BlkOk p := fun j p hp => hB p (List.mem_of_mem_take hp)
  have hcut := cutoff_at (blocks c) k (by rw [blocks_text]; exact hk)
  rw [blocks_text] at hcut
  rcases hcut with ⟨j, hj, h1⟩ | ⟨j, hj, h1 | ⟨r, hr0, hr, h1⟩⟩
  · refine ⟨fun _ => ?_, fun _ => ?_⟩
    · rw [h1]
      rcases List.eq_nil_or_concat ((blocks c).take j) with h0 | ⟨ps, p, h0⟩
      · rw [h0]; exact .inl rfl
      · refine .inr (.inr ⟨textOf ps ++ p.1, ?_⟩)
        rw [h0]
        simp [textOf]
    · refine words_read (upto_sound hc j) ?_ hlen
      rw [h1, ← blocks_words, upto_blocks]
      exact text_words _ (hsub j)
  · refine ⟨fun _ => .inr (.inl ⟨textOf ((blocks c).take j) ++ (blocks c)[j].1, by rw [h1]; simp⟩), fun _ => ?_⟩
    refine words_read (upto_sound hc (j + 1)) ?_ hlen
    have e : wordsOf ((blocks c).take (j + 1)) = wordsOf ((blocks c).take j) ++ (blocks c)[j].2 := by
      unfold wordsOf
      rw [List.take_succ_eq_append_getElem hj, List.flatMap_append, List.flatMap_singleton]
    rw [h1, ← blocks_words, upto_blocks, e]
    exact (text_words _ (hsub j)).app (hB _ (List.getElem_mem hj)).w (.inl rfl)
  · have hb := hB _ (List.getElem_mem hj)
    refine ⟨fun ⟨d, h⟩ => ?_, fun h => ?_⟩
    · rw [h1] at h
      exact absurd h (cut_bad (hsub j) hb.n hb.h hr hr0 d)
    · exfalso
      have hr125 : (125 : UInt8) ∉ r := fun h => hb.n (hr.subset h)
      obtain ⟨c0, s0, hcs, hc0⟩ : ∃ c s, r = c :: s ∧ prtP c = true := by
        obtain ⟨c, s, hcs, hc⟩ := hb.h
        cases r with
        | nil => exact absurd rfl hr0
        | cons x y =>
          obtain ⟨z, hz⟩ := hr
          rw [hcs] at hz
          injection hz with hz _
          exact ⟨x, y, rfl, by rw [hz]; exact hc⟩
      obtain ⟨v, vl, hv⟩ : ∃ v vl, r = v ++ [vl] := ⟨r.dropLast, r.getLast hr0, (List.dropLast_concat_getLast hr0).symm⟩
      rw [h1] at h
      rcases h with h | ⟨q, h⟩ | ⟨q, h⟩
      · rw [hv] at h
        simp at h
      · rw [hv, ← List.append_assoc] at h
        have h6 := (List.append_inj' h rfl).2
        injection h6 with h6 _
        exact hr125 (by rw [hv, h6]; simp)
      · have h7 : q ++ [125, 10] = (q ++ [125]) ++ [10] := by simp
        rw [hv, ← List.append_assoc, h7] at h
        have h6 := (List.append_inj' h rfl).2
        have h8 := (List.append_inj' h rfl).1
        injection h6 with h6 _
        cases v with
        | nil =>
          rw [hcs, h6] at hv
          injection hv with hv _
          rw [hv] at hc0
          revert hc0
          decide
        | cons x y =>
          obtain ⟨y', yl, hy⟩ : ∃ v vl, x :: y = v ++ [vl] := ⟨(x :: y).dropLast, (x :: y).getLast (by simp), (List.dropLast_concat_getLast (by simp)).symm⟩
          rw [hy, ← List.append_assoc] at h8
          have h9 := (List.append_inj' h8 rfl).2
          injection h9 with h9 _
          exact hr125 (by rw [hv, hy, h9]; simp)
end Go.Proofs.YtejhgifadohbiaaGreatDoor
namespace Go.Proofs.YtejhgifadohbiaaGreatDoor
open Go.Lib

def wtW (ws : List Bs) : Nat := (ws.map fun w => w.length + 3).sum
def wtT (ts : List Tk) : Nat := (ts.map fun t => t.text.length + 3).sum
theorem wtW_app (a b : List Bs) : wtW (a ++ b) = wtW a + wtW b := by unfold wtW; rw [List.map_append, List.sum_append]
theorem wtW_cons (w : Bs) (b : List Bs) : wtW (w :: b) = w.length + 3 + wtW b := by unfold wtW; rw [List.map_cons, List.sum_cons]
theorem wtW_nil : wtW [] = 0 := rfl
theorem wtT_cons (t : Tk) (b : List Tk) : wtT (t :: b) = t.text.length + 3 + wtT b := by unfold wtT; rw [List.map_cons, List.sum_cons]
theorem wtT_app (a b : List Tk) : wtT (a ++ b) = wtT a + wtT b := by unfold wtT; rw [List.map_append, List.sum_append]
theorem acc_lt : ∀ (l : List UInt8) (m n : Nat), accP m l = some n → n < (m + 1) * 10 ^ l.length
  | [], m, n, h => by
    rw [accP] at h
    cases h
    simp
  | c :: r, m, n, h => by
    rw [accP] at h
    split at h
    · cases h
    · rename_i hc
      have := acc_lt r _ n h
      have h57 : c.toNat ≤ 57 := by
        have h1 : ¬ (57 : UInt8) < c := fun h => hc (.inr h)
        rw [UInt8.lt_iff_toNat_lt] at h1
        simpa using h1
      refine Nat.lt_of_lt_of_le this ?_
      rw [List.length_cons, Nat.pow_succ, Nat.mul_comm (10 ^ r.length) 10, ← Nat.mul_assoc]
      refine Nat.mul_le_mul_right _ ?_
      omega
/-- A number's text is no longer than what it is read of; a net's is that. -/
def WfX (t : Tk) : Prop := (t.kind = 2 → (decDigits t.val).length ≤ t.text.length ∧ 1 ≤ t.text.length) ∧ (t.kind = 3 → t.text = textP t.a t.b ∧ mayP t.a t.b = true)
def WfY (ts : List Tk) : Prop := ∀ t ∈ ts, WfX t
theorem WfY.suf {ts r : List Tk} (h : WfY ts) (hs : r <:+ ts) : WfY r := fun t ht => h t (hs.subset ht)
theorem piece_wfx {l : Bs} {q : Tk} (h : pieceP l = some q) : WfX q := by
  unfold pieceP at h
  split at h
  · cases h
    exact ⟨(fun h => by cases h), (fun h => by cases h)⟩
  · split at h
    · rename_i r hr
      cases h
      obtain ⟨a, b⟩ := r
      obtain ⟨h1, _, h2⟩ := parse_is hr
      exact ⟨(fun h => by cases h), fun _ => ⟨h2, h1⟩⟩
    · split at h
      · rename_i n hn
        cases h
        refine ⟨fun _ => ?_, (fun h => by cases h)⟩
        unfold tnP at hn
        split at hn
        · cases hn
        · rename_i hl
          have hlt := acc_lt l 0 n hn
          have h1 : 1 ≤ l.length := by omega
          show (decDigits n).length ≤ l.length ∧ 1 ≤ l.length
          obtain ⟨k, hk⟩ : ∃ k, l.length = k + 1 := ⟨l.length - 1, by omega⟩
          have := dig_len k n (by rw [hk] at hlt; simpa using hlt)
          omega
      · cases h
section
variable {ts r : List Tk}
theorem w_word {w : Bs} {p : Nat} (h : wordR w ts = .inr (p, r)) : wtT ts = w.length + 3 + wtT r := by
  obtain ⟨t, rfl, h1, _⟩ := wordR_ok h
  rw [wtT_cons, h1]
theorem w_name {s : Bs} (h : nameR ts = .inr (s, r)) : wtT ts = s.length + 3 + wtT r := by
  obtain ⟨t, rfl, _, h1⟩ := nameR_ok h
  rw [wtT_cons, h1]
theorem w_pfx {p : Nat × Int} (hw : WfY ts) (h : pfxR ts = .inr (p, r)) : wtT ts = (pfT p.1 p.2).length + 3 + wtT r := by
  obtain ⟨t, rfl, hk, h1, h2⟩ := pfxR_ok h
  obtain ⟨e, hm⟩ := (hw t (by simp)).2 hk
  rw [wtT_cons, e, ← h1, ← h2]
  unfold pfT
  rw [if_pos hm]
  rfl
theorem w_nbr {most : Nat} {n : Int} (hw : WfY ts) (h : nbrR most ts = .inr (n, r)) : (itoa n).length + 3 + wtT r ≤ wtT ts := by
  cases ts with
  | nil => cases h
  | cons t us =>
    rw [nbrR] at h
    split at h
    · rename_i hk
      split at h
      · cases h
        have := (hw t (by simp)).1 hk
        rw [wtT_cons, itoa_at (by omega), show ((t.val : Int)).toNat = t.val from rfl]
        omega
      · cases h
    · cases h
theorem w_optN {w : Bs} {most : Nat} {n : Int} (hw : WfY ts) (h : optN w most ts = .inr (n, r)) : wtW (numW w n) + wtT r ≤ wtT ts := by
  cases ts with
  | nil => cases h; exact Nat.le_refl _
  | cons t us =>
    rw [optN] at h
    split at h
    · rename_i ht
      have := w_nbr (hw.suf suf_cons) h
      rw [wtT_cons, ht]
      unfold numW
      split
      · rw [wtW_nil]; omega
      · rw [wtW_cons, wtW_cons, wtW_nil]; omega
    · cases h
      show 0 + _ ≤ _
      omega
theorem w_optS {w s : Bs} (h : optS w ts = .inr (s, r)) : wtW (nmW w s) + wtT r ≤ wtT ts := by
  cases ts with
  | nil => cases h; exact Nat.le_refl _
  | cons t us =>
    rw [optS] at h
    split at h
    · rename_i ht
      have := w_name h
      rw [wtT_cons, ht]
      unfold nmW
      split
      · rw [wtW_nil]; omega
      · rw [wtW_cons, wtW_cons, wtW_nil]; omega
    · cases h
      show 0 + _ ≤ _
      omega
theorem w_optB {w : Bs} {b : Bool} (h : optB w ts = .inr (b, r)) : wtW (if b = true then [w] else []) + wtT r ≤ wtT ts := by
  cases ts with
  | nil => cases h; exact Nat.le_refl _
  | cons t us =>
    rw [optB] at h
    split at h
    · rename_i ht
      cases h
      rw [wtT_cons, ht]
      show wtW [w] + _ ≤ _
      rw [wtW_cons, wtW_nil]
      omega
    · cases h
      show 0 + _ ≤ _
      omega
theorem tagD_wt (bits : Nat) : ∀ f k, wtW (tagD bits f k) = 4 * (tagD bits f k).length
  | 0, _ => rfl
  | f + 1, k => by
    unfold tagD
    rw [wtW_app, tagD_wt bits f (k + 1), List.length_append]
    split
    · rw [wtW_cons, wtW_nil]; simp; omega
    · rw [wtW_nil]; simp
theorem pop_next : ∀ (a : Fin 16) (v : Fin 4), a.val < 2 ^ v.val → (tagD (a.val + 2 ^ v.val) 4 0).length = (tagD a.val 4 0).length + 1 := by decide
theorem w_tags : ∀ {ts : List Tk} {b lo n : Nat} {r : List Tk}, WfY ts → lo ≤ 4 → b < 2 ^ lo → tagsR ts b lo = .inr (n, r) → wtW (tagD n 4 0) + wtT r ≤ wtW (tagD b 4 0) + wtT ts
  | [], _, _, _, _, _, _, _, h => by cases h; exact Nat.le_refl _
  | t :: us, b, lo, n, r, hw, hlo, hb, h => by
    rw [tagsR] at h
    split at h
    · rename_i hk
      split at h
      · cases h
      · split at h
        · cases h
        · rename_i h3 h4
          have hp1 : 2 ^ lo ≤ 2 ^ t.val := Nat.pow_le_pow_right (by omega) (by omega)
          have hp2 : 2 ^ t.val ≤ 2 ^ 3 := Nat.pow_le_pow_right (by omega) (by omega)
          have h5 := w_tags (hw.suf suf_cons) (by omega) (by rw [Nat.pow_succ]; omega) h
          have h6 := pop_next ⟨b, by omega⟩ ⟨t.val, by omega⟩ (by show b < 2 ^ t.val; omega)
          dsimp only at h6
          have h7 := (hw t (by simp)).1 hk
          rw [tagD_wt, tagD_wt, h6] at h5
          rw [tagD_wt, tagD_wt, wtT_cons]
          omega
    · cases h; exact Nat.le_refl _
theorem w_optT {w : Bs} {n : Nat} (hw : WfY ts) (h : optT w ts = .inr (n, r)) : wtW (tagW w n) + wtT r ≤ wtT ts := by
  cases ts with
  | nil => cases h; exact Nat.le_refl _
  | cons t us =>
    rw [optT] at h
    split at h
    · rename_i ht
      cases us with
      | nil => cases h
      | cons u us =>
        rw [tag1] at h
        split at h
        · have h1 := w_tags (hw.suf suf_cons) (by omega) (by decide) h
          have h0 : wtW (tagD 0 4 0) = 0 := by decide
          rw [wtT_cons, ht]
          unfold tagW
          split
          · rw [wtW_nil]; omega
          · rw [wtW_cons]; omega
        · cases h
    · cases h
      show wtW [] + _ ≤ _
      rw [wtW_nil]
      omega
theorem w_on {o : Bool × Nat × Int} (hw : WfY ts) (h : onR ts = .inr (o, r)) : ∀ wi ou d se cl m p, (onT ⟨o.1, o.2.1, o.2.2, wi, ou, d, se, cl, m, p⟩).length + 3 + wtT r ≤ wtT ts := by
  intro wi ou d se cl m p
  cases ts with
  | nil => cases h
  | cons t us =>
    rw [onR] at h
    split at h
    · rename_i ht
      cases h
      rw [wtT_cons, ht]
      exact Nat.le_refl _
    · split at h
      · rename_i hk
        cases h
        obtain ⟨e, hm⟩ := (hw t (by simp)).2 hk
        rw [wtT_cons, e]
        show (pfT t.a (t.b : Int)).length + 3 + _ ≤ _
        unfold pfT
        rw [if_pos hm]
        exact Nat.le_refl _
      · cases h
theorem w_cla {c : ClD} (hw : Wf ts) (hx : WfY ts) (h : claR ts = .inr (c, r)) : wtW (claW c) + wtT r ≤ wtT ts := by
  unfold claR at h
  obtain ⟨_, r0, h0, h⟩ := andR_inr h
  obtain ⟨o, r1, h1, h⟩ := andR_inr h
  obtain ⟨wi, r2, h2, h⟩ := andR_inr h
  obtain ⟨ou, r3, h3, h⟩ := andR_inr h
  obtain ⟨_, r4, h4, h⟩ := andR_inr h
  obtain ⟨d, r5, h5, h⟩ := andR_inr h
  obtain ⟨se, r6, h6, h⟩ := andR_inr h
  obtain ⟨cl, r7, h7, h⟩ := andR_inr h
  obtain ⟨m, r8, h8, h⟩ := andR_inr h
  obtain ⟨p, r9, h9, h⟩ := andR_inr h
  obtain ⟨_, r10, h10, h⟩ := andR_inr h
  cases h
  have s0 : r0 <:+ ts := by obtain ⟨t, rfl, _⟩ := wordR_ok h0; exact suf_cons
  have s1 := (onR_ok (hw.suf s0) h1).1.trans s0
  have s2 := (optT_ok h2).trans s1
  have s3 := (optT_ok h3).trans s2
  have s4 : r4 <:+ ts := by obtain ⟨t, rfl, _⟩ := wordR_ok h4; exact suf_cons.trans s3
  have s5 := (optB_ok h5).trans s4
  have s6 := (optT_ok h6).trans s5
  have s7 := (optT_ok h7).trans s6
  have s8 := (optN_ok h8).1.trans s7
  have w0 := w_word h0
  have w1 := w_on (hx.suf s0) h1 wi ou d se cl m p
  have w2 := w_optT (hx.suf s1) h2
  have w3 := w_optT (hx.suf s2) h3
  have w4 := w_word h4
  have w5 := w_optB h5
  have w6 := w_optT (hx.suf s5) h6
  have w7 := w_optT (hx.suf s6) h7
  have w8 := w_optN (hx.suf s7) h8
  have w9 := w_optN (hx.suf s8) h9
  have w10 := w_word h10
  unfold claW
  simp only [wtW_app, wtW_cons, wtW_nil]
  simp only [List.length_cons, List.length_nil] at *
  omega
theorem w_clas : ∀ (n : Nat) (ts r : List Tk) (cs : List ClD), Wf ts → WfY ts → clasR n ts = .inr (cs, r) → wtW (cs.flatMap claW) + wtT r ≤ wtT ts
  | n, [], r, cs, _, _, h => by
    cases n <;> (rw [clasR] at h; cases h; exact Nat.le_refl _)
  | 0, t :: us, r, cs, _, _, h => by
    rw [clasR] at h
    split at h
    · cases h; show 0 + _ ≤ _; omega
    · cases h
  | n + 1, t :: us, r, cs, hw, hx, h => by
    rw [clasR] at h
    split at h
    · cases h; show 0 + _ ≤ _; omega
    · obtain ⟨c, r1, h1, h⟩ := andR_inr h
      obtain ⟨cs', r2, h2, h⟩ := andR_inr h
      cases h
      have s1 := (claR_ok hw h1).1
      have w1 := w_cla hw hx h1
      have w2 := w_clas n r1 r cs' (hw.suf s1) (hx.suf s1) h2
      rw [List.flatMap_cons, wtW_app]
      omega
theorem w_many {α : Type} {w : Bs} {f : List Tk → Res α} {W : α → List Bs} (hf : ∀ ts r x, Wf ts → f ts = .inr (x, r) → r <:+ ts) (hW : ∀ ts r x, Wf ts → WfY ts → f ts = .inr (x, r) → wtW (W x) + wtT r ≤ wtT ts) :
    ∀ (n : Nat) (ts r : List Tk) (xs : List α), Wf ts → WfY ts → manyR w f n ts = .inr (xs, r) → wtW (xs.flatMap W) + wtT r ≤ wtT ts
  | n, [], r, xs, _, _, h => by
    cases n <;> (rw [manyR] at h; cases h; exact Nat.le_refl _)
  | 0, t :: us, r, xs, _, _, h => by
    rw [manyR] at h
    split at h
    · cases h
    · cases h; show 0 + _ ≤ _; omega
  | n + 1, t :: us, r, xs, hw, hx, h => by
    rw [manyR] at h
    split at h
    · obtain ⟨c, r1, h1, h⟩ := andR_inr h
      obtain ⟨cs', r2, h2, h⟩ := andR_inr h
      cases h
      have s1 := hf _ _ _ hw h1
      have w1 := hW _ _ _ hw hx h1
      have w2 := w_many hf hW n r1 r cs' (hw.suf s1) (hx.suf s1) h2
      rw [List.flatMap_cons, wtW_app]
      omega
    · cases h; show 0 + _ ≤ _; omega
end
theorem w_map (ts r : List Tk) (m : MpD) (hw : Wf ts) (hx : WfY ts) (h : mapR ts = .inr (m, r)) : wtW (mapW m) + wtT r ≤ wtT ts := by
  unfold mapR at h
  obtain ⟨p, r0, h0, h⟩ := andR_inr h
  obtain ⟨n, r1, h1, h⟩ := andR_inr h
  obtain ⟨_, r2, h2, h⟩ := andR_inr h
  obtain ⟨cs, r3, h3, h⟩ := andR_inr h
  obtain ⟨_, r4, h4, h⟩ := andR_inr h
  cases h
  have s2 : r2 <:+ ts := by
    obtain ⟨t0, rfl, _⟩ := wordR_ok h0
    obtain ⟨t1, rfl, _⟩ := nameR_ok h1
    obtain ⟨t2, rfl, _⟩ := wordR_ok h2
    exact suf_cons.trans (suf_cons.trans suf_cons)
  have w0 := w_word h0
  have w1 := w_name h1
  have w2 := w_word h2
  have w3 := w_clas 16 r2 r3 cs (hw.suf s2) (hx.suf s2) h3
  have w4 := w_word h4
  unfold mapW
  simp only [wtW_app, wtW_cons, wtW_nil]
  simp only [List.length_cons, List.length_nil] at *
  omega
theorem w_net (ts r : List Tk) (p : Nat × Int) (_ : Wf ts) (hx : WfY ts) (h : netR ts = .inr (p, r)) : wtW (netW p) + wtT r ≤ wtT ts := by
  unfold netR at h
  obtain ⟨_, r0, h0, h⟩ := andR_inr h
  obtain ⟨x, r1, h1, h⟩ := andR_inr h
  obtain ⟨_, r2, h2, h⟩ := andR_inr h
  cases h
  have s0 : r0 <:+ ts := by obtain ⟨t, rfl, _⟩ := wordR_ok h0; exact suf_cons
  have w0 := w_word h0
  have w1 := w_pfx (hx.suf s0) h1
  have w2 := w_word h2
  unfold netW
  simp only [wtW_cons, wtW_nil]
  simp only [List.length_cons, List.length_nil] at *
  omega
theorem w_lnk (ts r : List Tk) (l : LkD) (hw : Wf ts) (hx : WfY ts) (h : lnkR ts = .inr (l, r)) : wtW (lnkW l) + wtT r ≤ wtT ts := by
  unfold lnkR at h
  obtain ⟨p, r0, h0, h⟩ := andR_inr h
  obtain ⟨n, r1, h1, h⟩ := andR_inr h
  obtain ⟨_, r2, h2, h⟩ := andR_inr h
  obtain ⟨c, r3, h3, h⟩ := andR_inr h
  obtain ⟨i, r4, h4, h⟩ := andR_inr h
  obtain ⟨e, r5, h5, h⟩ := andR_inr h
  obtain ⟨_, r6, h6, h⟩ := andR_inr h
  cases h
  have s2 : r2 <:+ ts := by
    obtain ⟨t0, rfl, _⟩ := wordR_ok h0
    obtain ⟨t1, rfl, _⟩ := nameR_ok h1
    obtain ⟨t2, rfl, _⟩ := wordR_ok h2
    exact suf_cons.trans (suf_cons.trans suf_cons)
  have w0 := w_word h0
  have w1 := w_name h1
  have w2 := w_word h2
  have w3 := w_nbr (hx.suf s2) h3
  have w4 := w_optS h4
  have w5 := w_optS h5
  have w6 := w_word h6
  unfold lnkW
  simp only [wtW_app, wtW_cons, wtW_nil]
  simp only [List.length_cons, List.length_nil] at *
  omega
theorem w_sta (ts r : List Tk) (s : StD) (_ : Wf ts) (hx : WfY ts) (h : staR ts = .inr (s, r)) : wtW (staW s) + wtT r ≤ wtT ts := by
  unfold staR at h
  obtain ⟨p, r0, h0, h⟩ := andR_inr h
  obtain ⟨x, r1, h1, h⟩ := andR_inr h
  obtain ⟨_, r2, h2, h⟩ := andR_inr h
  obtain ⟨n, r3, h3, h⟩ := andR_inr h
  obtain ⟨_, r4, h4, h⟩ := andR_inr h
  cases h
  have s0 : r0 <:+ ts := by obtain ⟨t, rfl, _⟩ := wordR_ok h0; exact suf_cons
  have w0 := w_word h0
  have w1 := w_pfx (hx.suf s0) h1
  have w2 := w_word h2
  have w3 := w_name h3
  have w4 := w_word h4
  unfold staW
  simp only [wtW_cons, wtW_nil]
  simp only [List.length_cons, List.length_nil] at *
  omega
theorem w_rou (ts r : List Tk) (x : RoD) (hw : Wf ts) (hx : WfY ts) (h : rouR ts = .inr (x, r)) : wtW (rouW x) + wtT r ≤ wtT ts := by
  unfold rouR at h
  obtain ⟨p, r0, h0, h⟩ := andR_inr h
  obtain ⟨n, r1, h1, h⟩ := andR_inr h
  obtain ⟨_, r2, h2, h⟩ := andR_inr h
  obtain ⟨ns, r3, h3, h⟩ := andR_inr h
  obtain ⟨ls, r4, h4, h⟩ := andR_inr h
  obtain ⟨ss, r5, h5, h⟩ := andR_inr h
  obtain ⟨_, r6, h6, h⟩ := andR_inr h
  cases h
  have s2 : r2 <:+ ts := by
    obtain ⟨t0, rfl, _⟩ := wordR_ok h0
    obtain ⟨t1, rfl, _⟩ := nameR_ok h1
    obtain ⟨t2, rfl, _⟩ := wordR_ok h2
    exact suf_cons.trans (suf_cons.trans suf_cons)
  have s3 := (manyR_ok (S := fun _ => True) (fun ts r x hw h => ⟨(netR_ok ts r x hw h).1, trivial⟩) _ _ _ _ (hw.suf s2) h3).1.trans s2
  have s4 := (manyR_ok (S := fun _ => True) (fun ts r x hw h => ⟨(lnkR_ok ts r x hw h).1, trivial⟩) _ _ _ _ (hw.suf s3) h4).1.trans s3
  have w0 := w_word h0
  have w1 := w_name h1
  have w2 := w_word h2
  have w3 := w_many (fun ts r x hw h => (netR_ok ts r x hw h).1) w_net _ _ _ _ (hw.suf s2) (hx.suf s2) h3
  have w4 := w_many (fun ts r x hw h => (lnkR_ok ts r x hw h).1) w_lnk _ _ _ _ (hw.suf s3) (hx.suf s3) h4
  have w5 := w_many (fun ts r x hw h => (staR_ok ts r x hw h).1) w_sta _ _ _ _ (hw.suf s4) (hx.suf s4) h5
  have w6 := w_word h6
  unfold rouW
  simp only [wtW_app, wtW_cons, wtW_nil]
  simp only [List.length_cons, List.length_nil] at *
  omega
theorem w_cfg {ts r : List Tk} {c : CfD} (hw : Wf ts) (hx : WfY ts) (h : cfgR ts = .inr (c, r)) : wtW (cfgW c) ≤ wtT ts := by
  unfold cfgR at h
  obtain ⟨ms, r1, h1, h⟩ := andR_inr h
  obtain ⟨rs, r2, h2, h⟩ := andR_inr h
  obtain ⟨p, r3, h3, h⟩ := andR_inr h
  cases h
  have s1 := (manyR_ok (S := fun _ => True) (fun ts r x hw h => ⟨(mapR_ok ts r x hw h).1.suf, trivial⟩) _ _ _ _ hw h1).1
  have w1 := w_many (fun ts r x hw h => (mapR_ok ts r x hw h).1.suf) w_map _ _ _ _ hw hx h1
  have w2 := w_many (fun ts r x hw h => (rouR_ok ts r x hw h).1.suf) w_rou _ _ _ _ (hw.suf s1) (hx.suf s1) h2
  show wtW (ms.flatMap mapW ++ rs.flatMap rouW) ≤ _
  rw [wtW_app]
  omega
/-- A text is no longer than its words. -/
theorem tag_len2 (bits : Nat) : ∀ f k, (tagN bits f k).length ≤ wtW (tagD bits f k)
  | 0, _ => Nat.le_refl _
  | f + 1, k => by
    have := tag_len2 bits f (k + 1)
    unfold tagN tagD
    rw [wtW_app, List.length_append]
    split
    · rw [wtW_cons, wtW_nil]; simp; omega
    · rw [wtW_nil]; simp; omega
theorem tags_len2 (w : Bs) (bits : Nat) : (tagsT w bits).length ≤ wtW (tagW w bits) := by
  have := tag_len2 bits 4 0
  unfold tagsT tagW
  split
  · exact Nat.le_refl _
  · rw [wtW_cons]; simp; omega
theorem num_len2 (w : Bs) (n : Int) : (numT w n).length ≤ wtW (numW w n) := by
  unfold numT numW
  split
  · exact Nat.le_refl _
  · rw [wtW_cons, wtW_cons, wtW_nil]; simp; omega
theorem nm_len2 (w s : Bs) : (nmT w s).length ≤ wtW (nmW w s) := by
  unfold nmT nmW
  split
  · exact Nat.le_refl _
  · rw [wtW_cons, wtW_cons, wtW_nil]; simp; omega
theorem line_len2 (c : ClD) : (lineT c).length ≤ wtW (claW c) := by
  have h1 := tags_len2 [119, 105, 116, 104] c.wi
  have h2 := tags_len2 [111, 117, 116] c.ou
  have h3 := tags_len2 [115, 101, 116] c.se
  have h4 := tags_len2 [99, 108, 101, 97, 114] c.cl
  have h5 := num_len2 [109, 111, 114, 101] c.more
  have h6 := num_len2 [112, 114, 101, 102] c.pref
  have h7 : (dropT c).length ≤ wtW (if c.drop = true then [[100, 114, 111, 112]] else []) := by
    unfold dropT
    split <;> decide
  unfold lineT innT wordsT claW
  simp only [wtW_app, wtW_cons, wtW_nil, List.length_append, List.length_cons, List.length_nil]
  omega
theorem flat_len2 {α : Type} (f : α → Bs) (g : α → List Bs) (h : ∀ x, (f x).length ≤ wtW (g x)) : ∀ l : List α, (l.flatMap f).length ≤ wtW (l.flatMap g)
  | [] => Nat.le_refl _
  | x :: r => by
    have h1 := h x
    have h2 := flat_len2 f g h r
    rw [List.flatMap_cons, List.flatMap_cons, List.length_append, wtW_app]
    omega
theorem map_len2 (m : MpD) : (mapT m).length ≤ wtW (mapW m) := by
  have := flat_len2 lineT claW line_len2 m.cls
  unfold mapT headT footT mapW
  simp only [wtW_app, wtW_cons, wtW_nil, List.length_append, List.length_cons, List.length_nil]
  omega
theorem net_len2 (p : Nat × Int) : (netT p).length ≤ wtW (netW p) := by
  unfold netT innT netW
  simp only [wtW_cons, wtW_nil, List.length_append, List.length_cons, List.length_nil]
  omega
theorem link_len2 (l : LkD) : (linkT l).length ≤ wtW (lnkW l) := by
  have h1 := nm_len2 [105, 109, 112, 111, 114, 116] l.imp
  have h2 := nm_len2 [101, 120, 112, 111, 114, 116] l.exp
  unfold linkT linkW innT lnkW
  simp only [wtW_app, wtW_cons, wtW_nil, List.length_append, List.length_cons, List.length_nil]
  omega
theorem stat_len2 (s : StD) : (statT s).length ≤ wtW (staW s) := by
  unfold statT innT staW
  simp only [wtW_cons, wtW_nil, List.length_append, List.length_cons, List.length_nil]
  omega
theorem rout_len2 (r : RoD) : (routT r).length ≤ wtW (rouW r) := by
  have h1 := flat_len2 netT netW net_len2 r.nets
  have h2 := flat_len2 linkT lnkW link_len2 r.lks
  have h3 := flat_len2 statT staW stat_len2 r.sts
  unfold routT headT footT rouW
  simp only [wtW_app, wtW_cons, wtW_nil, List.length_append, List.length_cons, List.length_nil]
  omega
theorem conf_len2 (c : CfD) : (confT c).length ≤ wtW (cfgW c) := by
  have h1 := flat_len2 mapT mapW map_len2 c.maps
  have h2 := flat_len2 routT rouW rout_len2 c.ros
  unfold confT cfgW
  rw [wtW_app, List.length_append]
  omega
/-- Tokens are no longer than their text. -/
theorem toks_wt : ∀ (n : Nat) (l : Bs), l.length ≤ n → ∀ k i ts, k ≤ l.length → toks l k i = .inr ts → wtT ts + 4 * k ≤ 4 * l.length + 3 ∧ WfY ts
  | n, [], _, k, i, ts, hk, h => by
    obtain rfl : k = 0 := by simpa using hk
    rw [toks] at h
    cases h
    refine ⟨by show wtT [endT i] + 4 * 0 ≤ _; rw [wtT_cons]; simp [endT, wtT], fun t ht => ?_⟩
    rw [List.mem_singleton] at ht
    subst ht
    exact ⟨(fun h => by cases h), (fun h => by cases h)⟩
  | 0, c :: r, hn, _, _, _, _, _ => by simp at hn
  | n + 1, c :: r, hn, k + 1, i, ts, hk, h => by
    rw [toks] at h
    obtain ⟨h1, h2⟩ := toks_wt n r (by simpa using hn) k (i + 1) ts (by simpa using hk) h
    exact ⟨by rw [List.length_cons]; omega, h2⟩
  | n + 1, c :: r, hn, 0, i, ts, _, h => by
    have hrn : r.length ≤ n := by simpa using hn
    have add : ∀ (t : Tk) k, WfX t → t.text.length = k + 1 → k ≤ r.length → addT [t] (toks r k (i + 1)) = .inr ts → wtT ts + 4 * 0 ≤ 4 * (c :: r).length + 3 ∧ WfY ts := by
      intro t k ht hl hk h'
      cases hq : toks r k (i + 1) with
      | inl x => rw [hq] at h'; cases h'
      | inr us =>
        rw [hq] at h'
        cases h'
        obtain ⟨h1, h2⟩ := toks_wt n r hrn k (i + 1) us hk hq
        refine ⟨?_, fun x hx => ?_⟩
        · show wtT (t :: us) + 4 * 0 ≤ _
          rw [wtT_cons, List.length_cons]
          omega
        · rcases List.mem_cons.1 hx with rfl | hx
          · exact ht
          · exact h2 x hx
    rw [toks] at h
    split at h
    · obtain ⟨h1, h2⟩ := toks_wt n r hrn 0 (i + 1) ts (Nat.zero_le _) h
      exact ⟨by rw [List.length_cons]; omega, h2⟩
    · split at h
      · obtain ⟨h1, h2⟩ := toks_wt n r hrn _ (i + 1) ts (span_le _ _) h
        exact ⟨by rw [List.length_cons]; omega, h2⟩
      · split at h
        · exact add _ 0 ⟨(fun h => by cases h), (fun h => by cases h)⟩ rfl (Nat.zero_le _) h
        · split at h
          · cases h
          · rename_i q hq
            have hs := span_le prtP (c :: r)
            have ht := piece_text hq
            have hx := piece_wfx hq
            have hlen : q.text.length = spanN prtP (c :: r) := by rw [ht, List.length_take]; omega
            have hpos : 1 ≤ spanN prtP (c :: r) := by
              rcases Nat.eq_zero_or_pos (spanN prtP (c :: r)) with h0 | h0
              · rw [h0, List.take_zero, piece_nil] at hq
                cases hq
              · exact h0
            rw [List.length_cons] at hs
            exact add (atT q i) _ hx (by show q.text.length = _; omega) (by omega) h
/-- What is read of a text is read of its own text again, and has it. -/
theorem read_again {l : Bs} {c : CfD} (h : readP l = .inr c) (hl : l.length ≤ 10000) : ∃ d, readP (confT c) = .inr d ∧ confT d = confT c := by
  obtain ⟨hs, _, us, ht, _⟩ := read_ok h
  refine read_back hs ?_
  obtain ⟨h1, h2⟩ := toks_wt _ l (Nat.le_refl _) 0 0 _ (Nat.zero_le _) ht
  obtain ⟨vs, e, hv⟩ := toks_wf _ l (Nat.le_refl _) 0 0 _ ht
  have hw : Wf (us ++ [endT l.length]) := by
    intro t ht
    rw [e] at ht
    rcases List.mem_append.1 ht with ht | ht
    · exact (hv t ht).1
    · rw [List.mem_singleton] at ht
      subst ht
      exact wf_of (fun h => by cases h) (fun h => by cases h)
  unfold readP at h
  rw [if_neg (by omega), ht] at h
  simp only at h
  cases hc : cfgR (us ++ [endT l.length]) with
  | inl x => rw [hc] at h; cases h
  | inr y =>
    rw [hc] at h
    cases h
    have h3 := w_cfg (r := y.2) (c := y.1) hw h2 hc
    have h4 := conf_len2 y.1
    omega
end Go.Proofs.YtejhgifadohbiaaGreatDoor
namespace Go.Proofs.YtejhgifadohbiaaGreatDoor
open Go.Lib

theorem ClD.sound.ok {c : ClD} (h : c.sound) : c.ok :=
  ⟨h.t.2, h.t.1.1, h.t.1.2.1, h.t.1.2.2.1, h.t.1.2.2.2, by have := h.m0; omega, by have := h.m1; omega, by have := h.p0; omega, by have := h.p1; omega⟩
theorem CfD.sound.ok {c : CfD} (h : c.sound) : c.ok :=
  ⟨fun m hm => ⟨fun x hx => ((h.m m hm).c x hx).ok⟩, fun r hr => ⟨fun p hp => ((h.r r hr).t p hp).2, fun l hl => ⟨by have := ((h.r r hr).l l hl).c0; omega, by have := ((h.r r hr).l l hl).c1; omega⟩, fun x hx => ((h.r r hr).s x hx).p.2⟩⟩
theorem name_len {x : Bs} (h : nameP x = true) : x.length ≤ 16 := by
  unfold nameP at h
  simp only [Bool.and_eq_true, decide_eq_true_eq] at h
  exact h.1.1.2
theorem opt_len {x : Bs} (h : x ≠ [] → nameP x = true) : x.length ≤ 16 := by
  cases x with
  | nil => exact Nat.zero_le _
  | cons a l => exact name_len (h (by simp))
theorem sum_most {α : Type} (f : α → Nat) (k : Nat) : ∀ l : List α, (∀ x ∈ l, f x ≤ k) → (l.map f).sum ≤ k * l.length
  | [], _ => Nat.zero_le _
  | x :: l, h => by
    have h1 := sum_most f k l fun y hy => h y (List.mem_cons_of_mem _ hy)
    have h2 := h x (List.mem_cons_self ..)
    rw [List.map_cons, List.sum_cons, List.length_cons, Nat.mul_succ]
    omega
theorem CfD.sound.bulk {c : CfD} (h : c.sound) : c.bulk ≤ 68719476736 := by
  have h1 := sum_most MpD.bulk 40 c.maps fun m hm => by
    have := name_len (h.m m hm).n
    have := (h.m m hm).l
    unfold MpD.bulk
    omega
  have h2 := sum_most RoD.bulk 4000 c.ros fun r hr => by
    have e1 := sum_most LkD.bulk 49 r.lks fun l hl => by
      have := name_len ((h.r r hr).l l hl).n
      have := opt_len ((h.r r hr).l l hl).i
      have := opt_len ((h.r r hr).l l hl).e
      unfold LkD.bulk
      omega
    have e2 := sum_most StD.bulk 17 r.sts fun x hx => by
      have := name_len ((h.r r hr).s x hx).n
      unfold StD.bulk
      omega
    have := name_len (h.r r hr).n
    have := (h.r r hr).tn
    have := (h.r r hr).ln
    have := (h.r r hr).sn
    unfold RoD.bulk
    omega
  have := h.ml
  have := h.rl
  unfold CfD.bulk
  omega
end Go.Proofs.YtejhgifadohbiaaGreatDoor
