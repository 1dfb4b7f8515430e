/- A sound configuration is read of its own tokens. No program. -/
import Derived.Test.YtejhgifadohbiaaDoorPE
namespace Go.Proofs.YtejhgifadohbiaaDoor
open Go.Lib

def tk0 (w : Bs) : Tk := (tokOf w).getD (endT 0)
/-- Tokens of these words stand ahead of what is left. -/
def Tl (ws : List Bs) (r ts : List Tk) : Prop := ∃ us, ts = us ++ r ∧ RelL (ws.map tk0) us
theorem Tl.nil {r ts : List Tk} (h : Tl [] r ts) : ts = r := by
  obtain ⟨us, rfl, h⟩ := h
  cases us with
  | nil => rfl
  | cons u us => exact h.elim
theorem Tl.cons {w : Bs} {ws : List Bs} {r ts : List Tk} (h : Tl (w :: ws) r ts) : ∃ t ts', ts = t :: ts' ∧ RelT (tk0 w) t ∧ Tl ws r ts' := by
  obtain ⟨us, rfl, h⟩ := h
  cases us with
  | nil => exact h.elim
  | cons u us => exact ⟨u, us ++ r, rfl, h.1, us, rfl, h.2⟩
theorem relL_app : ∀ {a b us : List Tk}, RelL (a ++ b) us → ∃ u v, us = u ++ v ∧ RelL a u ∧ RelL b v
  | [], b, us, h => ⟨[], us, rfl, trivial, h⟩
  | x :: a, b, [], h => h.elim
  | x :: a, b, u :: us, h => by
    obtain ⟨p, q, rfl, h1, h2⟩ := relL_app (a := a) (b := b) (us := us) h.2
    exact ⟨u :: p, q, rfl, ⟨h.1, h1⟩, h2⟩
theorem Tl.app {ws1 ws2 : List Bs} {r ts : List Tk} (h : Tl (ws1 ++ ws2) r ts) : ∃ ts', Tl ws1 ts' ts ∧ Tl ws2 r ts' := by
  obtain ⟨us, rfl, h⟩ := h
  rw [List.map_append] at h
  obtain ⟨p, q, rfl, h1, h2⟩ := relL_app h
  exact ⟨q ++ r, ⟨p, by rw [List.append_assoc], h1⟩, q, rfl, h2⟩
theorem tok_sgn {c : UInt8} (h : sgnP c = true) : tk0 [c] = ⟨4, [c], 0, 0, 0, 0⟩ := by
  unfold tk0 tokOf
  simp only [if_pos h]
  rfl
theorem tok_piece {x : Bs} {q : Tk} (h3 : ∀ c ∈ x, prtP c = true) (h1 : pieceP x = some q) : tk0 x = q := by
  unfold tk0 tokOf
  split
  · rename_i c
    rw [if_neg (by rw [(prt_not (h3 c (List.mem_cons_self ..))).2.2]; simp), h1]
    rfl
  · rw [h1]
    rfl
theorem tok_name {x : Bs} (h : nameP x = true) : tk0 x = ⟨1, x, 0, 0, 0, 0⟩ := tok_piece (name_prt h) (by unfold pieceP; rw [if_pos h])
theorem tok_num {n : Nat} (h : n < 1000000) : tk0 (decDigits n) = ⟨2, decDigits n, n, 0, 0, 0⟩ := tok_piece (fun c hc => dig_prt (dec_dig n c hc)) (by rw [piece_digs (dec_dig n), tn_dec h]; rfl)
theorem tok_pf {a b : Nat} (hm : mayP a b = true) (ha : a < 4294967296) : tk0 (textP a b) = ⟨3, textP a b, 0, a, b, 0⟩ := tok_piece text_prt (pf_piece hm ha)
theorem rel_name {x : Bs} {t : Tk} (h : nameP x = true) (hr : RelT (tk0 x) t) : t.kind = 1 ∧ t.text = x := by
  rw [tok_name h] at hr
  exact ⟨hr.1.symm, hr.2.1.symm⟩
theorem rel_sgn {c : UInt8} {t : Tk} (h : sgnP c = true) (hr : RelT (tk0 [c]) t) : t.kind = 4 ∧ t.text = [c] := by
  rw [tok_sgn h] at hr
  exact ⟨hr.1.symm, hr.2.1.symm⟩
theorem rel_itoa {n : Int} {t : Tk} (h : 0 ≤ n) (h1 : n < 1000000) (hr : RelT (tk0 (itoa n)) t) : t.kind = 2 ∧ (t.val : Int) = n := by
  rw [itoa_at h, tok_num (by omega)] at hr
  refine ⟨hr.1.symm, ?_⟩
  have := hr.2.2.1
  dsimp only at this
  omega
theorem rel_pf {a : Nat} {b : Int} {t : Tk} (h : mayP a b = true ∧ a < 4294967296) (hr : RelT (tk0 (pfT a b)) t) : t.kind = 3 ∧ t.a = a ∧ (t.b : Int) = b ∧ t.text = pfT a b := by
  obtain ⟨h0, _, _⟩ := may_bounds h.1
  have hb : ((b.toNat : Nat) : Int) = b := Int.toNat_of_nonneg h0
  have e : pfT a b = textP a b.toNat := by unfold pfT; rw [if_pos h.1]
  rw [e, tok_pf (by rw [hb]; exact h.1) h.2] at hr
  refine ⟨hr.1.symm, hr.2.2.2.1.symm, ?_, by rw [e]; exact hr.2.1.symm⟩
  have := hr.2.2.2.2
  dsimp only at this
  omega
theorem rd_word {w : Bs} {ws : List Bs} {r ts : List Tk} (hw : nameP w = true) (h : Tl (w :: ws) r ts) : ∃ p ts', wordR w ts = .inr (p, ts') ∧ Tl ws r ts' := by
  obtain ⟨t, ts', rfl, h1, h2⟩ := h.cons
  exact ⟨t.pl, ts', by rw [wordR, if_pos (rel_name hw h1).2], h2⟩
theorem rd_sgn {c : UInt8} {ws : List Bs} {r ts : List Tk} (hw : sgnP c = true) (h : Tl ([c] :: ws) r ts) : ∃ p ts', wordR [c] ts = .inr (p, ts') ∧ Tl ws r ts' := by
  obtain ⟨t, ts', rfl, h1, h2⟩ := h.cons
  exact ⟨t.pl, ts', by rw [wordR, if_pos (rel_sgn hw h1).2], h2⟩
theorem rd_name {w : Bs} {ws : List Bs} {r ts : List Tk} (hw : nameP w = true) (h : Tl (w :: ws) r ts) : ∃ ts', nameR ts = .inr (w, ts') ∧ Tl ws r ts' := by
  obtain ⟨t, ts', rfl, h1, h2⟩ := h.cons
  obtain ⟨e1, e2⟩ := rel_name hw h1
  exact ⟨ts', by rw [nameR, if_pos e1, e2], h2⟩
theorem rd_pfx {p : Nat × Int} {ws : List Bs} {r ts : List Tk} (hw : mayP p.1 p.2 = true ∧ p.1 < 4294967296) (h : Tl (pfT p.1 p.2 :: ws) r ts) : ∃ ts', pfxR ts = .inr (p, ts') ∧ Tl ws r ts' := by
  obtain ⟨t, ts', rfl, h1, h2⟩ := h.cons
  obtain ⟨e1, e2, e3, _⟩ := rel_pf hw h1
  exact ⟨ts', by rw [pfxR, if_pos e1, e2, e3], h2⟩
theorem rd_nbr {n : Int} {most : Nat} {ws : List Bs} {r ts : List Tk} (h0 : 1 ≤ n) (h1 : n ≤ most) (hm : most < 1000000) (h : Tl (itoa n :: ws) r ts) : ∃ ts', nbrR most ts = .inr (n, ts') ∧ Tl ws r ts' := by
  obtain ⟨t, ts', rfl, h2, h3⟩ := h.cons
  obtain ⟨e1, e2⟩ := rel_itoa (by omega) (by omega) h2
  exact ⟨ts', by rw [nbrR, if_pos e1, if_pos (by omega), e2], h3⟩
/-- What may stand next: no number. -/
def Fol (L : List Bs) (r : List Tk) : Prop := ∃ t r', r = t :: r' ∧ t.kind ≠ 2 ∧ t.text ∈ L
theorem Fol.more {L L' : List Bs} {r : List Tk} (h : Fol L r) (hl : ∀ x ∈ L, x ∈ L') : Fol L' r := by
  obtain ⟨t, r', e, h1, h2⟩ := h
  exact ⟨t, r', e, h1, hl _ h2⟩
theorem fol_name {L : List Bs} {w : Bs} {ws : List Bs} {r ts : List Tk} (hw : nameP w = true) (h : Tl (w :: ws) r ts) (hl : w ∈ L) : Fol L ts := by
  obtain ⟨t, ts', rfl, h1, h2⟩ := h.cons
  obtain ⟨e1, e2⟩ := rel_name hw h1
  exact ⟨t, ts', rfl, by omega, by rw [e2]; exact hl⟩
theorem fol_sgn {L : List Bs} {c : UInt8} {ws : List Bs} {r ts : List Tk} (hw : sgnP c = true) (h : Tl ([c] :: ws) r ts) (hl : [c] ∈ L) : Fol L ts := by
  obtain ⟨t, ts', rfl, h1, h2⟩ := h.cons
  obtain ⟨e1, e2⟩ := rel_sgn hw h1
  exact ⟨t, ts', rfl, by omega, by rw [e2]; exact hl⟩
theorem rd_optN {w : Bs} {most : Nat} {n : Int} {L : List Bs} {r ts : List Tk} (hw : nameP w = true) (h0 : 0 ≤ n) (h1 : n ≤ most) (hm : most < 1000000) (hf : Fol L r) (hL : w ∉ L) (h : Tl (numW w n) r ts) : optN w most ts = .inr (n, r) ∧ Fol (w :: L) ts := by
  unfold numW at h
  split at h
  · rename_i hn
    subst hn
    obtain rfl := h.nil
    obtain ⟨t, r', rfl, h2, h3⟩ := hf
    exact ⟨by rw [optN, if_neg (fun e : t.text = w => hL (by rw [← e]; exact h3))], t, r', rfl, h2, List.mem_cons_of_mem _ h3⟩
  · rename_i hn
    have hF := fol_name (L := w :: L) hw h (List.mem_cons_self ..)
    obtain ⟨t, ts', rfl, h2, h3⟩ := h.cons
    obtain ⟨ts'', h4, h5⟩ := rd_nbr (by omega) h1 hm h3
    obtain rfl := h5.nil
    exact ⟨by rw [optN, if_pos (rel_name hw h2).2, h4], hF⟩
theorem rd_optS {w s : Bs} {L : List Bs} {r ts : List Tk} (hw : nameP w = true) (hs : s ≠ [] → nameP s = true) (hf : Fol L r) (hL : w ∉ L) (h : Tl (nmW w s) r ts) : optS w ts = .inr (s, r) ∧ Fol (w :: L) ts := by
  unfold nmW at h
  split at h
  · rename_i hn
    subst hn
    obtain rfl := h.nil
    obtain ⟨t, r', rfl, h2, h3⟩ := hf
    exact ⟨by rw [optS, if_neg (fun e : t.text = w => hL (by rw [← e]; exact h3))], t, r', rfl, h2, List.mem_cons_of_mem _ h3⟩
  · rename_i hn
    have hF := fol_name (L := w :: L) hw h (List.mem_cons_self ..)
    obtain ⟨t, ts', rfl, h2, h3⟩ := h.cons
    obtain ⟨ts'', h4, h5⟩ := rd_name (hs hn) h3
    obtain rfl := h5.nil
    exact ⟨by rw [optS, if_pos (rel_name hw h2).2, h4], hF⟩
theorem rd_optB {w : Bs} {b : Bool} {L : List Bs} {r ts : List Tk} (hw : nameP w = true) (hf : Fol L r) (hL : w ∉ L) (h : Tl (if b = true then [w] else []) r ts) : optB w ts = .inr (b, r) ∧ Fol (w :: L) ts := by
  cases b with
  | false =>
    obtain rfl := Tl.nil h
    obtain ⟨t, r', rfl, h2, h3⟩ := hf
    exact ⟨by rw [optB, if_neg (fun e : t.text = w => hL (by rw [← e]; exact h3))], t, r', rfl, h2, List.mem_cons_of_mem _ h3⟩
  | true =>
    have hF := fol_name (L := w :: L) hw (show Tl [w] r ts from h) (List.mem_cons_self ..)
    obtain ⟨t, ts', rfl, h2, h3⟩ := Tl.cons (show Tl [w] r ts from h)
    obtain rfl := h3.nil
    exact ⟨by rw [optB, if_pos (rel_name hw h2).2], hF⟩
/-- The bits from one on. -/
def bitsS (bits : Nat) : Nat → Nat → Nat
  | 0, _ => 0
  | f + 1, k => (if bits / 2 ^ k % 2 = 1 then 2 ^ k else 0) + bitsS bits f (k + 1)
theorem rd_tags (bits : Nat) : ∀ (f k : Nat) (acc lo : Nat) (r ts : List Tk), f + k ≤ 4 → lo ≤ k → (∃ t r', r = t :: r' ∧ t.kind ≠ 2) → Tl (tagD bits f k) r ts → tagsR ts acc lo = .inr (acc + bitsS bits f k, r)
  | 0, k, acc, lo, r, ts, _, _, hr, h => by
    obtain rfl := h.nil
    obtain ⟨t, r', rfl, h2⟩ := hr
    rw [tagsR, if_neg h2]
    rfl
  | f + 1, k, acc, lo, r, ts, hk, hlo, hr, h => by
    unfold tagD at h
    unfold bitsS
    split at h
    · rename_i hb
      obtain ⟨t, ts', rfl, h1, h2⟩ := Tl.cons (show Tl ([UInt8.ofNat (48 + k)] :: tagD bits f (k + 1)) r ts from h)
      have hd : decDigits k = [UInt8.ofNat (48 + k)] := decDigits_one (by omega)
      rw [← hd, tok_num (by omega)] at h1
      have e1 : t.kind = 2 := h1.1.symm
      have e2 : t.val = k := h1.2.2.1.symm
      rw [tagsR, if_pos e1, if_neg (by omega), if_neg (by omega), e2, rd_tags bits f (k + 1) _ _ r ts' (by omega) (by omega) hr h2, if_pos hb, Nat.add_assoc]
    · rename_i hb
      rw [rd_tags bits f (k + 1) acc lo r ts (by omega) (by omega) hr h, if_neg hb, Nat.zero_add]
theorem bits_all (bits : Nat) : bitsS bits 4 0 = bits % 16 := by
  unfold bitsS bitsS bitsS bitsS bitsS
  simp only [Nat.pow_zero, Nat.reducePow, Nat.reduceAdd, Nat.zero_add]
  repeat' split
  all_goals omega
theorem tag_mod (bits : Nat) : tagN (bits % 16) 4 0 = tagN bits 4 0 := by
  unfold tagN tagN tagN tagN tagN
  simp only [Nat.pow_zero, Nat.reducePow, Nat.reduceAdd, Nat.zero_add]
  rw [show bits % 16 / 1 % 2 = bits / 1 % 2 by omega, show bits % 16 / 2 % 2 = bits / 2 % 2 by omega, show bits % 16 / 4 % 2 = bits / 4 % 2 by omega, show bits % 16 / 8 % 2 = bits / 8 % 2 by omega]
theorem tagsT_mod (w : Bs) (bits : Nat) : tagsT w (bits % 16) = tagsT w bits := by
  unfold tagsT
  rw [tag_mod]
theorem tag_none {bits : Nat} (h : tagN bits 4 0 = []) : bits % 16 = 0 := by
  unfold tagN tagN tagN tagN tagN at h
  simp only [Nat.pow_zero, Nat.reducePow, Nat.reduceAdd, Nat.zero_add, List.append_nil, List.append_eq_nil_iff] at h
  obtain ⟨h0, h1, h2, h3⟩ := h
  have key : ∀ {p : Prop} [Decidable p] {l : Bs}, l ≠ [] → (if p then l else []) = [] → ¬ p := by
    intro p _ l hl h hp
    rw [if_pos hp] at h
    exact hl h
  have k0 := key (by simp) h0
  have k1 := key (by simp) h1
  have k2 := key (by simp) h2
  have k3 := key (by simp) h3
  omega
theorem tagD_head {bits : Nat} : ∀ {f k : Nat}, f + k ≤ 4 → tagN bits f k ≠ [] → ∃ j rest, j < 4 ∧ tagD bits f k = decDigits j :: rest
  | 0, _, _, h => absurd rfl h
  | f + 1, k, hk, h => by
    unfold tagN at h
    unfold tagD
    split
    · exact ⟨k, _, by omega, by rw [decDigits_one (by omega)]; rfl⟩
    · rename_i hb
      rw [if_neg hb] at h
      exact tagD_head (by omega) h
theorem rd_optT {w : Bs} {bits : Nat} {L : List Bs} {r ts : List Tk} (hw : nameP w = true) (hf : Fol L r) (hL : w ∉ L) (h : Tl (tagW w bits) r ts) : optT w ts = .inr (bits % 16, r) ∧ Fol (w :: L) ts := by
  unfold tagW at h
  split at h
  · rename_i hn
    obtain rfl := h.nil
    obtain ⟨t, r', rfl, h2, h3⟩ := hf
    exact ⟨by rw [optT, if_neg (fun e : t.text = w => hL (by rw [← e]; exact h3)), tag_none hn], t, r', rfl, h2, List.mem_cons_of_mem _ h3⟩
  · rename_i hn
    have hF := fol_name (L := w :: L) hw h (List.mem_cons_self ..)
    obtain ⟨t, ts', rfl, h2, h3⟩ := h.cons
    refine ⟨?_, hF⟩
    rw [optT, if_pos (rel_name hw h2).2]
    have h4 := rd_tags bits 4 0 0 0 r ts' (by omega) (by omega) (by obtain ⟨t, r', e, e1, _⟩ := hf; exact ⟨t, r', e, e1⟩) h3
    obtain ⟨j, rest, hj, hd⟩ := tagD_head (by omega) hn
    rw [hd] at h3
    obtain ⟨u, us, rfl, h5, _⟩ := h3.cons
    rw [tok_num (by omega)] at h5
    rw [tag1, if_pos h5.1.symm, h4, bits_all, Nat.zero_add]
/-- A clause, but for what no text has. -/
theorem rd_cla {c : ClD} (hc : c.sound) {r ts : List Tk} (h : Tl (claW c) r ts) : ∃ c', claR ts = .inr (c', r) ∧ lineT c' = lineT c := by
  unfold claW at h
  obtain ⟨t10, h, hs⟩ := h.app
  obtain ⟨t9, h, hp⟩ := h.app
  obtain ⟨t8, h, hm⟩ := h.app
  obtain ⟨t7, h, hcl⟩ := h.app
  obtain ⟨t6, h, hse⟩ := h.app
  obtain ⟨t5, h, hd⟩ := h.app
  obtain ⟨t4, h, hth⟩ := h.app
  obtain ⟨t3, h, hou⟩ := h.app
  obtain ⟨t2, hif, hwi⟩ := h.app
  have f10 : Fol [[59]] t10 := fol_sgn (by decide) hs (by simp)
  obtain ⟨p1, _, k1, e1⟩ := rd_sgn (c := 59) (by decide) hs
  obtain rfl := e1.nil
  obtain ⟨k2, f9⟩ := rd_optN (most := 255) (by decide) hc.p0 (by have := hc.p1; omega) (by omega) f10 (by decide) hp
  obtain ⟨k3, f8⟩ := rd_optN (most := 15) (by decide) hc.m0 (by have := hc.m1; omega) (by omega) f9 (by decide) hm
  obtain ⟨k4, f7⟩ := rd_optT (by decide) f8 (by decide) hcl
  obtain ⟨k5, f6⟩ := rd_optT (by decide) f7 (by decide) hse
  obtain ⟨k6, f5⟩ := rd_optB (by decide) f6 (by decide) hd
  have f4 : Fol [[116, 104, 101, 110]] t4 := fol_name (by decide) hth (by simp)
  obtain ⟨p7, _, k7, e7⟩ := rd_word (by decide) hth
  obtain rfl := e7.nil
  obtain ⟨k8, f3⟩ := rd_optT (by decide) f4 (by decide) hou
  obtain ⟨k9, f2⟩ := rd_optT (by decide) f3 (by decide) hwi
  obtain ⟨p0, u1, k0, hon⟩ := rd_word (by decide) hif
  obtain ⟨t, ts', rfl, h1, h2⟩ := hon.cons
  obtain rfl := h2.nil
  have ho : ∃ o : Bool × Nat × Int, onR (t :: ts') = .inr (o, ts') ∧ ∀ wi ou d se cl m p, onT ⟨o.1, o.2.1, o.2.2, wi, ou, d, se, cl, m, p⟩ = onT c := by
    unfold onT at h1
    split at h1
    · rename_i ha
      refine ⟨(true, 0, 0), by rw [onR, if_pos (rel_name (by decide) h1).2], fun _ _ _ _ _ _ _ => ?_⟩
      unfold onT
      rw [if_pos ha]
      rfl
    · rename_i ha
      have hso := hc.on (by simpa using ha)
      obtain ⟨e1, e2, e3, e4⟩ := rel_pf hso h1
      refine ⟨(false, c.a, c.b), ?_, fun _ _ _ _ _ _ _ => ?_⟩
      · have hne : ¬ t.text = [97, 110, 121] := by
          intro h
          rw [e4] at h
          have h5 := tok_pf (a := c.a) (b := c.b.toNat) (by rw [Int.toNat_of_nonneg (may_bounds hso.1).1]; exact hso.1) hso.2
          have h6 : pfT c.a c.b = textP c.a c.b.toNat := by unfold pfT; rw [if_pos hso.1]
          rw [← h6, h, tok_name (by decide)] at h5
          injection h5 with h5
          cases h5
        rw [onR, if_neg hne, if_pos e1, e2, e3]
      · unfold onT
        rw [if_neg ha]
        rfl
  obtain ⟨o, ko, hot⟩ := ho
  refine ⟨⟨o.1, o.2.1, o.2.2, c.wi % 16, c.ou % 16, c.drop, c.se % 16, c.cl % 16, c.more, c.pref⟩, ?_, ?_⟩
  · unfold claR
    rw [andR_ok k0, andR_ok ko, andR_ok k9, andR_ok k8, andR_ok k7, andR_ok k6, andR_ok k5, andR_ok k4, andR_ok k3, andR_ok k2, andR_ok k1]
  · unfold lineT wordsT
    rw [hot]
    simp only [tagsT_mod]
    rfl
end Go.Proofs.YtejhgifadohbiaaDoor
