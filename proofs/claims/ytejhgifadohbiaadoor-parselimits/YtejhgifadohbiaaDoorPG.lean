/- Maps, routers and whole configurations are read of their own tokens. No program. -/
import Derived.Test.YtejhgifadohbiaaDoorPF
namespace Go.Proofs.YtejhgifadohbiaaDoor
open Go.Lib

theorem rd_clas : ∀ (cs : List ClD) (n : Nat) (r ts : List Tk), cs.length ≤ n → (∀ c ∈ cs, c.sound) → Fol [[125]] r → Tl (cs.flatMap claW) r ts → ∃ cs', clasR n ts = .inr (cs', r) ∧ cs'.flatMap lineT = cs.flatMap lineT
  | [], n, r, ts, _, _, hf, h => by
    obtain rfl := Tl.nil h
    obtain ⟨t, r', rfl, _, h3⟩ := hf
    refine ⟨[], ?_, rfl⟩
    rw [List.mem_singleton] at h3
    cases n <;> rw [clasR, if_pos h3]
  | c :: cs, 0, _, _, hn, _, _, _ => by simp at hn
  | c :: cs, n + 1, r, ts, hn, hc, hf, h => by
    obtain ⟨ts', h1, h2⟩ := Tl.app (show Tl (claW c ++ cs.flatMap claW) r ts from h)
    obtain ⟨c', k1, e1⟩ := rd_cla (hc c (List.mem_cons_self ..)) h1
    obtain ⟨cs', k2, e2⟩ := rd_clas cs n r ts' (by simpa using hn) (fun x hx => hc x (List.mem_cons_of_mem _ hx)) hf h2
    obtain ⟨t, us, rfl, h3, _⟩ := Tl.cons (w := [105, 102]) (ws := (claW c).tail) h1
    have hne : ¬ t.text = [125] := by
      rw [(rel_name (by decide) h3).2]
      decide
    refine ⟨c' :: cs', ?_, ?_⟩
    · rw [clasR, if_neg hne, andR_ok k1, andR_ok k2]
    · rw [List.flatMap_cons, List.flatMap_cons, e1, e2]
theorem rd_many {α : Type} {w : Bs} {f : List Tk → Res α} {W : α → List Bs} {T : α → Bs} (hw : nameP w = true) {L : List Bs} (hL : w ∉ L) :
    ∀ (xs : List α) (n : Nat) (r ts : List Tk), xs.length ≤ n → (∀ x ∈ xs, (∃ rest, W x = w :: rest) ∧ ∀ r ts, Tl (W x) r ts → ∃ x', f ts = .inr (x', r) ∧ T x' = T x) → Fol L r → Tl (xs.flatMap W) r ts →
      (∃ xs', manyR w f n ts = .inr (xs', r) ∧ xs'.flatMap T = xs.flatMap T) ∧ Fol (w :: L) ts
  | [], n, r, ts, _, _, hf, h => by
    obtain rfl := Tl.nil h
    refine ⟨?_, hf.more fun x hx => List.mem_cons_of_mem _ hx⟩
    obtain ⟨t, r', rfl, _, h3⟩ := hf
    refine ⟨[], ?_, rfl⟩
    have hne : ¬ t.text = w := fun e => hL (by rw [← e]; exact h3)
    cases n <;> rw [manyR, if_neg hne]
  | x :: xs, 0, _, _, hn, _, _, _ => by simp at hn
  | x :: xs, n + 1, r, ts, hn, hx, hf, h => by
    obtain ⟨⟨rest, hW⟩, hx1⟩ := hx x (List.mem_cons_self ..)
    obtain ⟨ts', h1, h2⟩ := Tl.app (show Tl (W x ++ xs.flatMap W) r ts from h)
    obtain ⟨x', k1, e1⟩ := hx1 ts' ts h1
    obtain ⟨⟨xs', k2, e2⟩, _⟩ := rd_many hw hL xs n r ts' (by simpa using hn) (fun y hy => hx y (List.mem_cons_of_mem _ hy)) hf h2
    rw [hW] at h1
    have hF := fol_name (L := w :: L) hw h1 (List.mem_cons_self ..)
    obtain ⟨t, us, rfl, h3, _⟩ := h1.cons
    refine ⟨⟨x' :: xs', ?_, ?_⟩, hF⟩
    · rw [manyR, if_pos (rel_name hw h3).2]
      show andR (f (t :: us)) _ = _
      rw [andR_ok k1, andR_ok k2]
    · rw [List.flatMap_cons, List.flatMap_cons, e1, e2]
theorem rd_map {m : MpD} (hm : m.sound) {r ts : List Tk} (h : Tl (mapW m) r ts) : ∃ m', mapR ts = .inr (m', r) ∧ mapT m' = mapT m := by
  unfold mapW at h
  obtain ⟨t2, h, he⟩ := h.app
  obtain ⟨t1, hd, hc⟩ := h.app
  have f2 : Fol [[125]] t2 := fol_sgn (by decide) he (by simp)
  obtain ⟨p3, u3, k3, e3⟩ := rd_sgn (c := 125) (by decide) he
  obtain ⟨cs', kc, ec⟩ := rd_clas m.cls 16 t2 t1 hm.l hm.c f2 hc
  obtain ⟨p0, u0, k0, hd⟩ := rd_word (by decide) hd
  obtain ⟨u1, k1, hd⟩ := rd_name hm.n hd
  obtain ⟨p2, u2, k2, hd⟩ := rd_sgn (c := 123) (by decide) hd
  have e2 := hd.nil
  have e4 := e3.nil
  subst e2 e4
  refine ⟨⟨m.name, cs', (p0 : Int)⟩, ?_, ?_⟩
  · unfold mapR
    rw [andR_ok k0, andR_ok k1, andR_ok k2, andR_ok kc, andR_ok k3]
  · unfold mapT
    rw [ec]
theorem rd_net {p : Nat × Int} (hp : mayP p.1 p.2 = true ∧ p.1 < 4294967296) {r ts : List Tk} (h : Tl (netW p) r ts) : ∃ p', netR ts = .inr (p', r) ∧ netT p' = netT p := by
  unfold netW at h
  obtain ⟨p0, u0, k0, hd⟩ := rd_word (by decide) h
  obtain ⟨u1, k1, hd1⟩ := rd_pfx hp hd
  obtain ⟨p2, u2, k2, hd2⟩ := rd_sgn (c := 59) (by decide) hd1
  have e2 := hd2.nil
  subst e2
  exact ⟨p, by unfold netR; rw [andR_ok k0, andR_ok k1, andR_ok k2], rfl⟩
theorem rd_lnk {l : LkD} (hl : l.sound) {r ts : List Tk} (h : Tl (lnkW l) r ts) : ∃ l', lnkR ts = .inr (l', r) ∧ linkT l' = linkT l := by
  unfold lnkW at h
  obtain ⟨t3, h, he⟩ := h.app
  obtain ⟨t2, h, hx⟩ := h.app
  obtain ⟨t1, hd, hi⟩ := h.app
  have f3 : Fol [[59]] t3 := fol_sgn (by decide) he (by simp)
  obtain ⟨p9, u9, k9, e9⟩ := rd_sgn (c := 59) (by decide) he
  obtain ⟨kx, f2⟩ := rd_optS (by decide) hl.e f3 (by decide) hx
  obtain ⟨ki, f1⟩ := rd_optS (by decide) hl.i f2 (by decide) hi
  obtain ⟨p0, u0, k0, hd0⟩ := rd_word (by decide) hd
  obtain ⟨u1, k1, hd1⟩ := rd_name hl.n hd0
  obtain ⟨p2, u2, k2, hd2⟩ := rd_word (by decide) hd1
  obtain ⟨u3, k3, hd3⟩ := rd_nbr (most := 1000) hl.c0 (by have := hl.c1; omega) (by omega) hd2
  have e3 := hd3.nil
  have e10 := e9.nil
  subst e3 e10
  refine ⟨⟨l.peer, l.cost, l.imp, l.exp, (p0 : Int)⟩, ?_, rfl⟩
  unfold lnkR
  rw [andR_ok k0, andR_ok k1, andR_ok k2, andR_ok k3, andR_ok ki, andR_ok kx, andR_ok k9]
theorem rd_sta {s : StD} (hs : s.sound) {r ts : List Tk} (h : Tl (staW s) r ts) : ∃ s', staR ts = .inr (s', r) ∧ statT s' = statT s := by
  unfold staW at h
  obtain ⟨p0, u0, k0, hd0⟩ := rd_word (by decide) h
  obtain ⟨u1, k1, hd1⟩ := rd_pfx (p := (s.a, s.b)) hs.p hd0
  obtain ⟨p2, u2, k2, hd2⟩ := rd_word (by decide) hd1
  obtain ⟨u3, k3, hd3⟩ := rd_name hs.n hd2
  obtain ⟨p4, u4, k4, hd4⟩ := rd_sgn (c := 59) (by decide) hd3
  have e4 := hd4.nil
  subst e4
  refine ⟨⟨s.a, s.b, s.via, (p0 : Int)⟩, ?_, rfl⟩
  unfold staR
  rw [andR_ok k0, andR_ok k1, andR_ok k2, andR_ok k3, andR_ok k4]
theorem rd_rou {x : RoD} (hx : x.sound) {r ts : List Tk} (h : Tl (rouW x) r ts) : ∃ x', rouR ts = .inr (x', r) ∧ routT x' = routT x := by
  unfold rouW at h
  obtain ⟨t4, h, he⟩ := h.app
  obtain ⟨t3, h, hs⟩ := h.app
  obtain ⟨t2, h, hl⟩ := h.app
  obtain ⟨t1, hd, hn⟩ := h.app
  have f4 : Fol [[125]] t4 := fol_sgn (by decide) he (by simp)
  obtain ⟨p9, u9, k9, e9⟩ := rd_sgn (c := 125) (by decide) he
  obtain ⟨⟨ss, ks, es⟩, f3⟩ := rd_many (w := [115, 116, 97, 116, 105, 99]) (f := staR) (W := staW) (T := statT) (by decide) (by decide) x.sts 8 t4 t3 hx.sn (fun y hy => ⟨⟨_, rfl⟩, fun r ts h => rd_sta (hx.s y hy) h⟩) f4 hs
  obtain ⟨⟨ls, kl, el⟩, f2⟩ := rd_many (w := [108, 105, 110, 107]) (f := lnkR) (W := lnkW) (T := linkT) (by decide) (by decide) x.lks 64 t3 t2 hx.ln (fun y hy => ⟨⟨_, rfl⟩, fun r ts h => rd_lnk (hx.l y hy) h⟩) f3 hl
  obtain ⟨⟨ns, kn, en⟩, f1⟩ := rd_many (w := [110, 101, 116]) (f := netR) (W := netW) (T := netT) (by decide) (by decide) x.nets 8 t2 t1 hx.tn (fun y hy => ⟨⟨_, rfl⟩, fun r ts h => rd_net (hx.t y hy) h⟩) f2 hn
  obtain ⟨p0, u0, k0, hd0⟩ := rd_word (by decide) hd
  obtain ⟨u1, k1, hd1⟩ := rd_name hx.n hd0
  obtain ⟨p2, u2, k2, hd2⟩ := rd_sgn (c := 123) (by decide) hd1
  have e2 := hd2.nil
  have e10 := e9.nil
  subst e2 e10
  refine ⟨⟨x.name, ns, ls, ss, (p0 : Int)⟩, ?_, ?_⟩
  · unfold rouR
    rw [andR_ok k0, andR_ok k1, andR_ok k2, andR_ok kn, andR_ok kl, andR_ok ks, andR_ok k9]
  · unfold routT
    rw [en, el, es]
/-- The whole. -/
theorem rd_cfg {c : CfD} (hc : c.sound) {t : Tk} {ts : List Tk} (ht : t.kind = 0 ∧ t.text = []) (h : Tl (cfgW c) [t] ts) : ∃ c', cfgR ts = .inr (c', []) ∧ confT c' = confT c := by
  unfold cfgW at h
  obtain ⟨t1, hm, hr⟩ := h.app
  have f2 : Fol [[]] [t] := ⟨t, [], rfl, by omega, by rw [ht.2]; exact List.mem_singleton.2 rfl⟩
  obtain ⟨⟨rs, kr, er⟩, f1⟩ := rd_many (w := [114, 111, 117, 116, 101, 114]) (f := rouR) (W := rouW) (T := routT) (by decide) (by decide) c.ros 64 [t] t1 hc.rl (fun y hy => ⟨⟨_, rfl⟩, fun r ts h => rd_rou (hc.r y hy) h⟩) f2 hr
  obtain ⟨⟨ms, km, em⟩, _⟩ := rd_many (w := [109, 97, 112]) (f := mapR) (W := mapW) (T := mapT) (by decide) (by decide) c.maps 64 t1 ts hc.ml (fun y hy => ⟨⟨_, rfl⟩, fun r ts h => rd_map (hc.m y hy) h⟩) f1 hm
  refine ⟨⟨ms, rs⟩, ?_, ?_⟩
  · unfold cfgR
    rw [andR_ok km, andR_ok kr]
    show andR (endR [t]) _ = _
    rw [endR, if_pos ht.1]
    rfl
  · unfold confT
    rw [em, er]
/-- Tokens that are another list's but for their places are of the same words. -/
theorem relL_trans : ∀ {a b c : List Tk}, RelL a b → RelL b c → RelL a c
  | [], [], [], _, _ => trivial
  | _ :: _, _ :: _, _ :: _, h1, h2 => ⟨⟨h1.1.1.trans h2.1.1, h1.1.2.1.trans h2.1.2.1, h1.1.2.2.1.trans h2.1.2.2.1, h1.1.2.2.2.1.trans h2.1.2.2.2.1, h1.1.2.2.2.2.trans h2.1.2.2.2.2⟩, relL_trans h1.2 h2.2⟩
  | [], _ :: _, _, h, _ => h.elim
  | _ :: _, [], _, h, _ => h.elim
  | [], [], _ :: _, _, h => h.elim
  | _ :: _, _ :: _, [], _, h => h.elim
theorem relL_at (i : Nat) : ∀ (wo : List (Bs × Nat)), RelL ((wo.map (·.1)).map tk0) (wo.map (tkAt i))
  | [] => trivial
  | _ :: r => ⟨⟨rfl, rfl, rfl, rfl, rfl⟩, relL_at i r⟩
theorem relL_end {a us : List Tk} {k : Nat} (h : RelL (a ++ [endT k]) us) : ∃ vs t, us = vs ++ [t] ∧ RelL a vs ∧ t.kind = 0 ∧ t.text = [] := by
  obtain ⟨u, v, rfl, h1, h2⟩ := relL_app h
  match v, h2 with
  | [t], h2 => exact ⟨u, t, rfl, h1, h2.1.1.symm, h2.1.2.1.symm⟩
  | [], h2 => exact h2.elim
  | _ :: _ :: _, h2 => exact h2.2.elim
/-- A sound configuration's text is read, and what is read has it. -/
theorem read_back {c : CfD} (hc : c.sound) (hl : (confT c).length ≤ 65536) : ∃ c', readP (confT c) = .inr c' ∧ confT c' = confT c := by
  obtain ⟨wo, e1, e2⟩ := (conf_words hc).toks
  have hT : Tl (cfgW c) [endT (confT c).length] (wo.map (tkAt 0) ++ [endT (confT c).length]) := ⟨_, rfl, by rw [← e1]; exact relL_at 0 wo⟩
  obtain ⟨c', h1, h2⟩ := rd_cfg hc ⟨rfl, rfl⟩ hT
  refine ⟨c', ?_, h2⟩
  unfold readP
  rw [if_neg (by omega), e2]
  simp only [h1]
/-- So it is with blanks and remarks between. -/
theorem read_blown {c : CfD} (hc : c.sound) {W V : Bs} (hV : Void V) (hW : Void W) (hl : (V ++ blow W (confT c)).length ≤ 65536) : ∃ c', readP (V ++ blow W (confT c)) = .inr c' ∧ confT c' = confT c := by
  obtain ⟨wo, e1, e2⟩ := (conf_words hc).toks
  have hr := blow_rel hW _ (confT c) (Nat.le_refl _) (conf_no35 hc) 0 (0 + V.length)
  rw [e2] at hr
  have hv := hV (blow W (confT c)) 0
  cases hu : toks (blow W (confT c)) 0 (0 + V.length) with
  | inl k => rw [hu] at hr; exact hr.elim
  | inr us =>
    rw [hu] at hr hv
    obtain ⟨vs, t, rfl, h3, h4⟩ := relL_end (show RelL (wo.map (tkAt 0) ++ [endT (confT c).length]) us from hr)
    have hT : Tl (cfgW c) [t] (vs ++ [t]) := ⟨_, rfl, by rw [← e1]; exact relL_trans (relL_at 0 wo) h3⟩
    obtain ⟨c', h1, h2⟩ := rd_cfg hc h4 hT
    refine ⟨c', ?_, h2⟩
    unfold readP
    rw [if_neg (by omega), hv]
    simp only [h1]
end Go.Proofs.YtejhgifadohbiaaDoor
