/- Where tokens stand in their text. No program. -/
import Derived.Test.YtejhgifadohbiaaDoorKA
import Derived.Laws.AppendOwn
import Derived.Test.YtejhgifadohbiaaDoorOW
namespace Go.Proofs.YtejhgifadohbiaaDoor
open Go.Lib

/-- Tokens stand one behind the other, from a place on, and are these bytes of the text. -/
def PlOk (l : List UInt8) : Nat → List Tk → Prop
  | _, [] => True
  | a, t :: r => a ≤ t.pl ∧ t.pl + t.text.length ≤ l.length ∧ (l.drop t.pl).take t.text.length = t.text ∧ PlOk l (t.pl + t.text.length) r
/-- The last one stands at the end. -/
def LastAt (n : Nat) : List Tk → Prop
  | [] => False
  | [t] => t.pl = n
  | _ :: r => LastAt n r
theorem pl_mono {l : List UInt8} {a b : Nat} (h : a ≤ b) : ∀ {ts : List Tk}, PlOk l b ts → PlOk l a ts
  | [], _ => trivial
  | _ :: _, hp => ⟨Nat.le_trans h hp.1, hp.2⟩
theorem last_cons {n : Nat} {t : Tk} : ∀ {r : List Tk}, LastAt n r → LastAt n (t :: r)
  | [], h => h.elim
  | _ :: _, h => h
theorem last_pos {n : Nat} : ∀ {r : List Tk}, LastAt n r → 0 < r.length
  | [], h => h.elim
  | _ :: _, _ => Nat.succ_pos _
theorem last_get {n : Nat} : ∀ {r : List Tk}, LastAt n r → ∃ t, r[r.length - 1]? = some t ∧ t.pl = n
  | [], h => h.elim
  | [t], h => ⟨t, rfl, h⟩
  | _ :: y :: r, h => by
    obtain ⟨t, h1, h2⟩ := last_get (r := y :: r) h
    exact ⟨t, by simpa using h1, h2⟩
/-- What a text is from a place on: passed over, a token ahead, or nothing. -/
theorem from_ways {l : List UInt8} {i : Nat} (h : i < l.length) :
    (∃ j, i < j ∧ j ≤ l.length ∧ fromT l i = fromT l j) ∨
    (∃ t : Tk, t.pl = i ∧ 1 ≤ t.text.length ∧ i + t.text.length ≤ l.length ∧ (l.drop i).take t.text.length = t.text ∧ fromT l i = addT [t] (fromT l (i + t.text.length))) ∨
    fromT l i = .inl i := by
  by_cases hb : blkP (l.getD i 0) = true
  · exact .inl ⟨i + 1, by omega, by omega, from_blk h hb⟩
  have hb' : blkP (l.getD i 0) = false := by simpa using hb
  by_cases hr : (l.getD i 0).toNat = 35
  · refine .inl ⟨_, ?_, span_in (by omega), from_rem h hb' hr⟩
    have := span_go (p := nlfP) h (by unfold nlfP; rw [hr]; rfl)
    omega
  by_cases hs : sgnP (l.getD i 0) = true
  · refine .inr (.inl ⟨⟨4, [l.getD i 0], 0, 0, 0, i⟩, rfl, Nat.le_refl _, h, ?_, from_sgn h hb' hr hs⟩)
    rw [drop_at h]
    rfl
  have hs' : sgnP (l.getD i 0) = false := by simpa using hs
  cases hp : pieceP (pcAt l i) with
  | none => exact .inr (.inr (from_bad h hb' hr hs' hp))
  | some t =>
    obtain ⟨h1, h2⟩ := from_pc h hb' hr hs' hp
    have ht := piece_text hp
    have hle := span_in (p := prtP) (l := l) (i := i) (by omega)
    have hlen : (pcAt l i).length = spanN prtP (l.drop i) := by
      unfold pcAt
      rw [List.length_take, List.length_drop]
      omega
    have hat : (atT t i).text = pcAt l i := ht
    refine .inr (.inl ⟨atT t i, rfl, ?_, ?_, ?_, ?_⟩)
    · rw [hat, hlen]; exact h2
    · rw [hat, hlen]; exact hle
    · rw [hat, hlen]; rfl
    · rw [hat, hlen]; exact h1
theorem from_places (l : List UInt8) : ∀ (n i : Nat), i ≤ l.length → l.length - i ≤ n →
    match fromT l i with
    | .inl k => k ≤ l.length
    | .inr ts => PlOk l i ts ∧ LastAt l.length ts := by
  intro n
  induction n with
  | zero =>
    intro i hi hn
    obtain rfl : i = l.length := by omega
    rw [from_end (Nat.le_refl _)]
    exact ⟨⟨Nat.le_refl _, Nat.le_refl _, rfl, trivial⟩, rfl⟩
  | succ n ih =>
    intro i hi hn
    by_cases h : i < l.length
    · rcases from_ways h with ⟨j, h1, h2, h3⟩ | ⟨t, h1, h2, h3, h4, h5⟩ | h3
      · have := ih j h2 (by omega)
        rw [h3]
        cases hf : fromT l j with
        | inl k => rw [hf] at this; exact this
        | inr ts => rw [hf] at this; exact ⟨pl_mono (by omega) this.1, this.2⟩
      · have := ih (i + t.text.length) h3 (by omega)
        rw [h5]
        cases hf : fromT l (i + t.text.length) with
        | inl k => rw [hf] at this; exact this
        | inr ts =>
          rw [hf] at this
          exact ⟨⟨by omega, by omega, by rw [h1]; exact h4, by rw [h1]; exact this.1⟩, last_cons this.2⟩
      · rw [h3]
        exact hi
    · obtain rfl : i = l.length := by omega
      rw [from_end (Nat.le_refl _)]
      exact ⟨⟨Nat.le_refl _, Nat.le_refl _, rfl, trivial⟩, rfl⟩
theorem toks_places (l : List UInt8) :
    match toks l 0 0 with
    | .inl k => k ≤ l.length
    | .inr ts => PlOk l 0 ts ∧ LastAt l.length ts := from_places l _ 0 (Nat.zero_le _) (Nat.le_refl _)
end Go.Proofs.YtejhgifadohbiaaDoor
