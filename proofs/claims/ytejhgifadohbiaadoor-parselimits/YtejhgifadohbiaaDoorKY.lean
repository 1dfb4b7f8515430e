/- A text whose tokens are laid with blanks between has the same tokens. No program. -/
import Derived.Test.YtejhgifadohbiaaDoorKS
namespace Go.Proofs.YtejhgifadohbiaaDoor
open Go.Lib

/-- A sign, or a piece that is a token. -/
def Good (t : Tk) : Prop := (∃ c, sgnP c = true ∧ t = ⟨4, [c], 0, 0, 0, t.pl⟩) ∨ (∃ q, pieceP t.text = some q ∧ t = atT q t.pl ∧ ∀ c ∈ t.text, prtP c = true)
/-- Texts with blanks between. -/
def jn (ts : List Tk) : List UInt8 := ts.flatMap fun t => t.text ++ [32]
theorem span_mem (p : UInt8 → Bool) : ∀ (l : List UInt8), ∀ c ∈ l.take (spanN p l), p c = true
  | [], c, h => by simp at h
  | x :: r, c, h => by
    rw [spanN] at h
    split at h
    · rename_i hx
      rw [List.take_succ_cons] at h
      rcases List.mem_cons.1 h with rfl | h
      · exact hx
      · exact span_mem p r c h
    · simp at h
theorem from_goods {l : List UInt8} {i : Nat} (h : i < l.length) :
    (∃ j, i < j ∧ j ≤ l.length ∧ fromT l i = fromT l j) ∨
    (∃ t : Tk, Good t ∧ 1 ≤ t.text.length ∧ i + t.text.length ≤ l.length ∧ fromT l i = addT [t] (fromT l (i + t.text.length))) ∨
    fromT l i = .inl i := by
  by_cases hb : blkP (l.getD i 0) = true
  · exact .inl ⟨i + 1, by omega, by omega, from_blk h hb⟩
  have hb' : blkP (l.getD i 0) = false := by simpa using hb
  by_cases hr : (l.getD i 0).toNat = 35
  · refine .inl ⟨_, ?_, span_in (by omega), from_rem h hb' hr⟩
    have := span_go (p := nlfP) h (by unfold nlfP; rw [hr]; rfl)
    omega
  by_cases hs : sgnP (l.getD i 0) = true
  · exact .inr (.inl ⟨⟨4, [l.getD i 0], 0, 0, 0, i⟩, .inl ⟨_, hs, rfl⟩, Nat.le_refl _, h, from_sgn h hb' hr hs⟩)
  have hs' : sgnP (l.getD i 0) = false := by simpa using hs
  cases hp : pieceP (pcAt l i) with
  | none => exact .inr (.inr (from_bad h hb' hr hs' hp))
  | some t =>
    obtain ⟨h1, h2⟩ := from_pc h hb' hr hs' hp
    have ht := piece_text hp
    have hle := span_in (p := prtP) (l := l) (i := i) (by omega)
    have hlen : (pcAt l i).length = spanN prtP (l.drop i) := by
      unfold pcAt
      rw [List.length_take, List.length_drop]
      omega
    have hat : (atT t i).text = pcAt l i := ht
    refine .inr (.inl ⟨atT t i, .inr ⟨t, ?_, rfl, ?_⟩, ?_, ?_, ?_⟩)
    · rw [hat]; exact hp
    · rw [hat]; exact span_mem prtP _
    · rw [hat, hlen]; exact h2
    · rw [hat, hlen]; exact hle
    · rw [hat, hlen]; exact h1
theorem from_back (l : List UInt8) : ∀ (n i : Nat), i ≤ l.length → l.length - i ≤ n → ∀ ts, fromT l i = .inr ts →
    ∃ r, ts = r ++ [endT l.length] ∧ (∀ t ∈ r, Good t) ∧ (jn r).length ≤ 2 * (l.length - i) := by
  intro n
  induction n with
  | zero =>
    intro i hi hn ts h
    obtain rfl : i = l.length := by omega
    rw [from_end (Nat.le_refl _)] at h
    obtain rfl := Sum.inr.inj h
    exact ⟨[], rfl, fun t ht => by simp at ht, by simp [jn]⟩
  | succ n ih =>
    intro i hi hn ts h
    by_cases hlt : i < l.length
    · rcases from_goods hlt with ⟨j, h1, h2, h3⟩ | ⟨t, h1, h2, h3, h5⟩ | h3
      · obtain ⟨r, e1, e2, e3⟩ := ih j h2 (by omega) ts (by rw [← h3]; exact h)
        exact ⟨r, e1, e2, by omega⟩
      · rw [h5] at h
        cases hf : fromT l (i + t.text.length) with
        | inl k => rw [hf] at h; cases h
        | inr us =>
          rw [hf] at h
          obtain ⟨r, e1, e2, e3⟩ := ih (i + t.text.length) h3 (by omega) us hf
          have e4 : ts = t :: us := (Sum.inr.inj h).symm
          refine ⟨t :: r, by rw [e4, e1]; rfl, fun x hx => ?_, ?_⟩
          · rcases List.mem_cons.1 hx with rfl | hx
            · exact h1
            · exact e2 x hx
          · have e5 : (jn (t :: r)).length = t.text.length + 1 + (jn r).length := by
              show ((t.text ++ [32]) ++ jn r).length = _
              rw [List.length_append, List.length_append]
              rfl
            omega
      · rw [h3] at h
        cases h
    · obtain rfl : i = l.length := by omega
      rw [from_end (Nat.le_refl _)] at h
      obtain rfl := Sum.inr.inj h
      exact ⟨[], rfl, fun t ht => by simp at ht, by simp [jn]⟩
/-- Two tokens are the same but for their places. -/
def RelT (t u : Tk) : Prop := t.kind = u.kind ∧ t.text = u.text ∧ t.val = u.val ∧ t.a = u.a ∧ t.b = u.b
def RelL : List Tk → List Tk → Prop
  | [], [] => True
  | t :: r, u :: s => RelT t u ∧ RelL r s
  | _, _ => False
theorem rel_len : ∀ {r s : List Tk}, RelL r s → r.length = s.length
  | [], [], _ => rfl
  | _ :: r, _ :: s, h => by rw [List.length_cons, List.length_cons, rel_len (r := r) (s := s) h.2]
  | [], _ :: _, h => h.elim
  | _ :: _, [], h => h.elim
theorem rel_get : ∀ {r s : List Tk} {k : Nat} {t u : Tk}, RelL r s → r[k]? = some t → s[k]? = some u → RelT t u
  | [], [], _, _, _, _, h, _ => by simp at h
  | a :: r, b :: s, 0, t, u, h, h1, h2 => by
    obtain rfl : a = t := by simpa using h1
    obtain rfl : b = u := by simpa using h2
    exact h.1
  | _ :: r, _ :: s, k + 1, t, u, h, h1, h2 => rel_get (r := r) (s := s) (k := k) h.2 (by simpa using h1) (by simpa using h2)
  | [], _ :: _, _, _, _, h, _, _ => h.elim
  | _ :: _, [], _, _, _, h, _, _ => h.elim
theorem prt_not {c : UInt8} (h : prtP c = true) : blkP c = false ∧ ¬ c.toNat = 35 ∧ sgnP c = false := by
  unfold prtP letP digP at h
  unfold blkP sgnP
  simp at h
  refine ⟨?_, ?_, ?_⟩
  · simp; omega
  · omega
  · simp; omega
theorem sgn_not {c : UInt8} (h : sgnP c = true) : blkP c = false ∧ ¬ c.toNat = 35 := by
  unfold sgnP at h
  unfold blkP
  simp at h
  refine ⟨?_, ?_⟩
  · simp; omega
  · omega
theorem span_stop32 {p : UInt8 → Bool} (h0 : p 32 = false) (r : List UInt8) : ∀ (x : List UInt8), (∀ c ∈ x, p c = true) → spanN p (x ++ 32 :: r) = x.length
  | [], _ => by
    rw [List.nil_append, spanN, if_neg (by rw [h0]; simp)]
    rfl
  | c :: x, h => by
    rw [List.cons_append, spanN, if_pos (h c (List.mem_cons_self ..)), span_stop32 h0 r x (fun y hy => h y (List.mem_cons_of_mem _ hy))]
    rfl
theorem toks_blank (r : List UInt8) (i : Nat) : toks (32 :: r) 0 i = toks r 0 (i + 1) := by
  rw [toks, if_pos (by decide)]
/-- A token's text, a blank behind it. -/
theorem toks_good {t : Tk} (h : Good t) (r : List UInt8) (i : Nat) : ∃ u j, RelT t u ∧ toks (t.text ++ 32 :: r) 0 i = addT [u] (toks r 0 j) := by
  rcases h with ⟨c, h1, h2⟩ | ⟨q, h1, h2, h3⟩
  · obtain ⟨e1, e2⟩ := sgn_not h1
    refine ⟨⟨4, [c], 0, 0, 0, i⟩, i + 1 + 1, ?_, ?_⟩
    · rw [h2]; exact ⟨rfl, rfl, rfl, rfl, rfl⟩
    · rw [h2]
      show toks (c :: 32 :: r) 0 i = _
      rw [toks, if_neg (by rw [e1]; simp), if_neg e2, if_pos h1, toks_blank]
  · cases hx : t.text with
    | nil => rw [hx, piece_nil] at h1; cases h1
    | cons c x =>
      have hq := piece_text h1
      rw [hx] at h1 h3 hq
      obtain ⟨e1, e2, e3⟩ := prt_not (h3 c (List.mem_cons_self ..))
      have hsp : spanN prtP (c :: (x ++ 32 :: r)) = (c :: x).length := span_stop32 (by decide) r (c :: x) h3
      refine ⟨atT q i, i + 1 + x.length + 1, ?_, ?_⟩
      · rw [h2]; exact ⟨rfl, rfl, rfl, rfl, rfl⟩
      · rw [List.cons_append, toks, if_neg (by rw [e1]; simp), if_neg e2, if_neg (by rw [e3]; simp), hsp]
        have htk : (c :: (x ++ 32 :: r)).take (c :: x).length = c :: x := by
          rw [show c :: (x ++ 32 :: r) = (c :: x) ++ 32 :: r from rfl, List.take_left]
        rw [htk, h1]
        simp only
        rw [List.length_cons, Nat.add_sub_cancel, toks_skip _ _ _ (by simp), List.drop_left, toks_blank]
theorem toks_jn : ∀ (r : List Tk) (i n : Nat), (∀ t ∈ r, Good t) → ∃ us, toks (jn r ++ [32]) 0 i = .inr us ∧ RelL (r ++ [endT n]) us
  | [], i, n, _ => ⟨[endT (i + 1)], by show toks [32] 0 i = _; rw [toks_blank]; rfl, ⟨⟨rfl, rfl, rfl, rfl, rfl⟩, trivial⟩⟩
  | t :: r, i, n, h => by
    obtain ⟨u, j, h1, h2⟩ := toks_good (h t (List.mem_cons_self ..)) (jn r ++ [32]) i
    obtain ⟨us, h3, h4⟩ := toks_jn r j n (fun x hx => h x (List.mem_cons_of_mem _ hx))
    refine ⟨u :: us, ?_, ⟨h1, h4⟩⟩
    have e : jn (t :: r) ++ [32] = t.text ++ 32 :: (jn r ++ [32]) := by simp [jn]
    rw [e, h2, h3]
    rfl
/-- The whole: laid again, a text's tokens are the same. -/
theorem toks_back {l : List UInt8} {ts : List Tk} (h : toks l 0 0 = .inr ts) : ∃ us, toks (jn ts) 0 0 = .inr us ∧ RelL ts us ∧ (jn ts).length ≤ 2 * l.length + 1 := by
  obtain ⟨r, rfl, h2, h3⟩ := from_back l _ 0 (Nat.zero_le _) (Nat.le_refl _) ts h
  obtain ⟨us, h4, h5⟩ := toks_jn r 0 l.length h2
  have e : jn (r ++ [endT l.length]) = jn r ++ [32] := by simp [jn, endT]
  refine ⟨us, by rw [e]; exact h4, h5, ?_⟩
  rw [e, List.length_append]
  simp
  omega
theorem jn_take {ts : List Tk} {k : Nat} (h : k < ts.length) : jn (ts.take (k + 1)) = jn (ts.take k) ++ (ts[k].text ++ [32]) := by
  rw [List.take_succ_eq_append_getElem h]
  unfold jn
  rw [List.flatMap_append]
  simp only [List.flatMap_cons, List.flatMap_nil, List.append_nil]
theorem jn_le {ts : List Tk} {k : Nat} : (jn (ts.take k)).length ≤ (jn ts).length := by
  have e : jn ts = jn (ts.take k) ++ jn (ts.drop k) := by
    unfold jn
    rw [← List.flatMap_append, List.take_append_drop]
  rw [e, List.length_append]
  omega
end Go.Proofs.YtejhgifadohbiaaDoor
