/- A text of which the end is cut off. No program. -/
import Derived.Test.YtejhgifadohbiaaDoorPI
namespace Go.Proofs.YtejhgifadohbiaaDoor
open Go.Lib

/-- No closing brace. -/
def okC (c : UInt8) : Bool := prtP c || blkP c || decide (c.toNat = 59) || decide (c.toNat = 123)
def AllC (l : Bs) : Prop := ∀ c ∈ l, okC c = true
theorem AllC.app {a b : Bs} (h1 : AllC a) (h2 : AllC b) : AllC (a ++ b) := fun c hc => (List.mem_append.1 hc).elim (h1 c) (h2 c)
theorem AllC.cons {c : UInt8} {b : Bs} (h1 : okC c = true) (h2 : AllC b) : AllC (c :: b) := fun x hx => (List.mem_cons.1 hx).elim (fun h => h ▸ h1) (h2 x)
theorem AllC.nil : AllC [] := fun c hc => by cases hc
theorem AllC.prt {x : Bs} (h : ∀ c ∈ x, prtP c = true) : AllC x := fun c hc => by unfold okC; rw [h c hc]; rfl
theorem AllC.dec {x : Bs} (h : x.all okC = true) : AllC x := fun c hc => List.all_eq_true.1 h c hc
theorem AllC.flat {α : Type} {f : α → Bs} {l : List α} (h : ∀ x ∈ l, AllC (f x)) : AllC (l.flatMap f) := fun c hc => by
  obtain ⟨x, hx, hc⟩ := List.mem_flatMap.1 hc
  exact h x hx c hc
theorem allC_name {x : Bs} (h : nameP x = true) : AllC x := AllC.prt (name_prt h)
theorem allC_itoa {n : Int} (h : 0 ≤ n) : AllC (itoa n) := by
  rw [itoa_at h]
  exact AllC.prt fun c hc => dig_prt (dec_dig _ c hc)
theorem allC_pf (a : Nat) (b : Int) : AllC (pfT a b) := by
  unfold pfT
  split
  · exact AllC.prt text_prt
  · exact AllC.nil
theorem tag_digsC : ∀ k : Fin 4, okC (UInt8.ofNat (48 + k.val)) = true := by decide
theorem allC_tag (bits : Nat) : ∀ f k, f + k ≤ 4 → AllC (tagN bits f k)
  | 0, _, _ => AllC.nil
  | f + 1, k, h => by
    unfold tagN
    refine AllC.app ?_ (allC_tag bits f (k + 1) (by omega))
    split
    · exact AllC.cons (by decide) (AllC.cons (tag_digsC ⟨k, by omega⟩) AllC.nil)
    · exact AllC.nil
theorem allC_tags {word : Bs} (h : AllC word) (bits : Nat) : AllC (tagsT word bits) := by
  unfold tagsT
  split
  · exact AllC.nil
  · exact (AllC.cons (by decide) h).app (allC_tag bits 4 0 (by omega))
theorem allC_num {word : Bs} (h : AllC word) {n : Int} (h0 : 0 ≤ n) : AllC (numT word n) := by
  unfold numT
  split
  · exact AllC.nil
  · exact (AllC.cons (by decide) h).app (AllC.cons (by decide) (allC_itoa h0))
theorem allC_nm {word s : Bs} (h : AllC word) (hs : s ≠ [] → nameP s = true) : AllC (nmT word s) := by
  unfold nmT
  split
  · exact AllC.nil
  · rename_i h2
    exact (AllC.cons (by decide) h).app (AllC.cons (by decide) (allC_name (hs h2)))
theorem allC_inn {l : Bs} (h : AllC l) : AllC (innT l) := (AllC.cons (by decide) h).app (AllC.dec (by decide))
theorem allC_line {c : ClD} (h : c.sound) : AllC (lineT c) := by
  have h1 : AllC (onT c) := by
    unfold onT
    split
    · exact AllC.dec (by decide)
    · exact allC_pf _ _
  have h2 : AllC (dropT c) := by unfold dropT; split <;> exact AllC.dec (by decide)
  exact allC_inn (((((((((AllC.dec (by decide) : AllC [105, 102, 32]).app h1).app (allC_tags (AllC.dec (by decide)) _)).app (allC_tags (AllC.dec (by decide)) _)).app (AllC.dec (by decide))).app h2).app (allC_tags (AllC.dec (by decide)) _)).app
    (allC_tags (AllC.dec (by decide)) _)).app (allC_num (AllC.dec (by decide)) h.m0) |>.app (allC_num (AllC.dec (by decide)) h.p0))
theorem allC_head {kind name : Bs} (h : AllC kind) (hn : nameP name = true) : AllC (headT kind name) := (h.app (AllC.cons (by decide) (allC_name hn))).app (AllC.dec (by decide))

def mapB (m : MpD) : Bs := headT [109, 97, 112] m.name ++ m.cls.flatMap lineT
def rouB (r : RoD) : Bs := headT [114, 111, 117, 116, 101, 114] r.name ++ r.nets.flatMap netT ++ r.lks.flatMap linkT ++ r.sts.flatMap statT
theorem allC_map {m : MpD} (hs : m.sound) : AllC (mapB m) := (allC_head (AllC.dec (by decide)) hs.n).app (AllC.flat fun c hc => allC_line (hs.c c hc))
theorem allC_rou {r : RoD} (hs : r.sound) : AllC (rouB r) := by
  refine (((allC_head (AllC.dec (by decide)) hs.n).app (AllC.flat fun p hp => ?_)).app (AllC.flat fun l hl => ?_)).app (AllC.flat fun x hx => ?_)
  · exact allC_inn ((AllC.dec (by decide) : AllC [110, 101, 116, 32]).app (allC_pf _ _))
  · have hk := hs.l l hl
    exact allC_inn ((((((AllC.dec (by decide) : AllC [108, 105, 110, 107, 32]).app (allC_name hk.n)).app (AllC.dec (by decide))).app (allC_itoa (by have := hk.c0; omega))).app (allC_nm (AllC.dec (by decide)) hk.i)).app (allC_nm (AllC.dec (by decide)) hk.e))
  · have hk := hs.s x hx
    exact allC_inn ((((AllC.dec (by decide) : AllC [115, 116, 97, 116, 105, 99, 32]).app (allC_pf _ _)).app (AllC.dec (by decide))).app (allC_name hk.n))
/-- A block's body, and its words. -/
structure BlkOk (p : Bs × List Bs) : Prop where
  n : (125 : UInt8) ∉ p.1
  h : ∃ c r, p.1 = c :: r ∧ prtP c = true
  w : Words true (p.1 ++ [125]) p.2
theorem no125 {l : Bs} (h : AllC l) : (125 : UInt8) ∉ l := fun h' => by
  have := h 125 h'
  revert this
  decide
def blocks (c : CfD) : List (Bs × List Bs) := c.maps.map (fun m => (mapB m, mapW m)) ++ c.ros.map fun r => (rouB r, rouW r)
theorem words_close {l : Bs} {ws : List Bs} (h : Words true l ws) : Words true (l ++ [125]) (ws ++ [[125]]) := h.app (words_sgn (c := 125) (by decide)) (.inl rfl)
theorem map_blk {m : MpD} (h : m.sound) : BlkOk (mapB m, mapW m) :=
  ⟨no125 (allC_map h), ⟨109, _, rfl, by decide⟩, words_close ((head_words (by decide) h.n).app (flat_words lineT claW m.cls fun c hc => line_words (h.c c hc)) (.inl rfl))⟩
theorem rou_blk {r : RoD} (h : r.sound) : BlkOk (rouB r, rouW r) :=
  ⟨no125 (allC_rou h), ⟨114, _, rfl, by decide⟩, words_close ((((head_words (by decide) h.n).app (flat_words netT netW r.nets fun p hp => net_words (h.t p hp)) (.inl rfl)).app (flat_words linkT lnkW r.lks fun l hl => link_words (h.l l hl)) (.inl rfl)).app
    (flat_words statT staW r.sts fun s hs => stat_words (h.s s hs)) (.inl rfl))⟩
theorem blocks_ok {c : CfD} (h : c.sound) : ∀ p ∈ blocks c, BlkOk p := by
  intro p hp
  unfold blocks at hp
  rcases List.mem_append.1 hp with hp | hp
  · obtain ⟨m, hm, rfl⟩ := List.mem_map.1 hp
    exact map_blk (h.m m hm)
  · obtain ⟨r, hr, rfl⟩ := List.mem_map.1 hp
    exact rou_blk (h.r r hr)
def textOf (ps : List (Bs × List Bs)) : Bs := ps.flatMap fun p => p.1 ++ [125, 10]
def wordsOf (ps : List (Bs × List Bs)) : List Bs := ps.flatMap (·.2)
theorem blocks_text (c : CfD) : textOf (blocks c) = confT c := by
  unfold textOf blocks confT
  rw [List.flatMap_append, List.flatMap_map, List.flatMap_map]
  rfl
theorem blocks_words (c : CfD) : wordsOf (blocks c) = cfgW c := by
  unfold wordsOf blocks cfgW
  rw [List.flatMap_append, List.flatMap_map, List.flatMap_map]
/-- The first so many maps and routers. -/
def upto (c : CfD) (j : Nat) : CfD := ⟨c.maps.take j, c.ros.take (j - c.maps.length)⟩
theorem upto_sound {c : CfD} (h : c.sound) (j : Nat) : (upto c j).sound :=
  ⟨fun m hm => h.m m (List.mem_of_mem_take hm), fun r hr => h.r r (List.mem_of_mem_take hr), Nat.le_trans (by unfold upto; simp; omega) h.ml, Nat.le_trans (by unfold upto; simp; omega) h.rl⟩
theorem upto_blocks (c : CfD) (j : Nat) : blocks (upto c j) = (blocks c).take j := by
  unfold blocks upto
  rw [List.take_append, List.length_map, List.map_take, List.map_take]
/-- Blocks, one behind the other; the last without its line's end or not. -/
theorem text_words : ∀ (ps : List (Bs × List Bs)), (∀ p ∈ ps, BlkOk p) → Words true (textOf ps) (wordsOf ps)
  | [], _ => Words.nil
  | p :: ps, h => by
    have h1 := ((h p (List.mem_cons_self ..)).w.app (words_blk (c := 10) (by decide)) (.inl rfl)).app (text_words ps fun q hq => h q (List.mem_cons_of_mem _ hq)) (.inl rfl)
    have e : textOf (p :: ps) = p.1 ++ [125] ++ [10] ++ textOf ps := by simp [textOf]
    rw [e]
    have e2 : wordsOf (p :: ps) = p.2 ++ [] ++ wordsOf ps := by simp [wordsOf]
    rw [e2]
    exact h1
/-- Where the end is cut off. -/
theorem cutoff_at : ∀ (ps : List (Bs × List Bs)) (k : Nat), k ≤ (textOf ps).length →
    (∃ j, j ≤ ps.length ∧ (textOf ps).take k = textOf (ps.take j)) ∨ ∃ j, ∃ h : j < ps.length, (textOf ps).take k = textOf (ps.take j) ++ (ps[j].1 ++ [125]) ∨ ∃ r, r ≠ [] ∧ r <+: ps[j].1 ∧ (textOf ps).take k = textOf (ps.take j) ++ r
  | [], k, _ => .inl ⟨0, Nat.le_refl _, by simp [textOf]⟩
  | p :: ps, k, hk => by
    have e : textOf (p :: ps) = (p.1 ++ [125, 10]) ++ textOf ps := rfl
    have hlen : (textOf (p :: ps)).length = p.1.length + 2 + (textOf ps).length := by rw [e]; simp; omega
    by_cases h1 : p.1.length + 2 ≤ k
    · have ht : (textOf (p :: ps)).take k = (p.1 ++ [125, 10]) ++ (textOf ps).take (k - (p.1.length + 2)) := by
        rw [e, List.take_append, List.take_of_length_le (by simp; omega)]
        simp
      rcases cutoff_at ps (k - (p.1.length + 2)) (by omega) with ⟨j, hj, h2⟩ | ⟨j, hj, h2⟩
      · exact .inl ⟨j + 1, by simpa using hj, by rw [ht, h2]; rfl⟩
      · refine .inr ⟨j + 1, by simpa using hj, ?_⟩
        rcases h2 with h2 | ⟨r, hr0, hr, h2⟩
        · exact .inl (by rw [ht, h2]; simp [textOf])
        · exact .inr ⟨r, hr0, hr, by rw [ht, h2]; simp [textOf]⟩
    · have ht : (textOf (p :: ps)).take k = (p.1 ++ [125]).take k := by
        have e3 : textOf (p :: ps) = (p.1 ++ [125]) ++ ([10] ++ textOf ps) := by rw [e]; simp
        rw [e3, List.take_append_of_le_length (by simp; omega)]
      by_cases h0 : k = 0
      · subst h0
        exact .inl ⟨0, Nat.zero_le _, by simp [textOf]⟩
      · refine .inr ⟨0, by simp, ?_⟩
        by_cases h2 : k = p.1.length + 1
        · exact .inl (by rw [ht, h2, List.take_of_length_le (by simp)]; simp [textOf])
        · refine .inr ⟨p.1.take k, ?_, List.take_prefix _ _, ?_⟩
          · intro h
            have := congrArg List.length h
            rw [List.length_take] at this
            simp at this
            rcases this with h' | h'
            · exact h0 h'
            · rw [h'] at h1 h2
              simp at h1 h2
              omega
          · rw [ht, List.take_append_of_le_length (by omega)]
            simp [textOf]
/-- A token's letters are the text's. -/
theorem toks_sub : ∀ (n : Nat) (l : Bs), l.length ≤ n → ∀ k i ts, toks l k i = .inr ts → ∀ t ∈ ts, ∀ c ∈ t.text, c ∈ l
  | n, [], _, k, i, ts, h => by
    rw [toks] at h
    cases h
    intro t ht c hc
    rw [List.mem_singleton] at ht
    subst ht
    cases hc
  | 0, c :: r, hn, _, _, _, _ => by simp at hn
  | n + 1, c :: r, hn, k + 1, i, ts, h => by
    rw [toks] at h
    intro t ht x hx
    exact List.mem_cons_of_mem _ (toks_sub n r (by simpa using hn) k (i + 1) ts h t ht x hx)
  | n + 1, c :: r, hn, 0, i, ts, h => by
    have hrn : r.length ≤ n := by simpa using hn
    have step : ∀ k, toks r k (i + 1) = .inr ts → ∀ t ∈ ts, ∀ x ∈ t.text, x ∈ c :: r := fun k h' t ht x hx => List.mem_cons_of_mem _ (toks_sub n r hrn k (i + 1) ts h' t ht x hx)
    have add : ∀ (t : Tk) k, (∀ x ∈ t.text, x ∈ c :: r) → addT [t] (toks r k (i + 1)) = .inr ts → ∀ t ∈ ts, ∀ x ∈ t.text, x ∈ c :: r := by
      intro t k ht h'
      cases hq : toks r k (i + 1) with
      | inl x => rw [hq] at h'; cases h'
      | inr us =>
        rw [hq] at h'
        cases h'
        intro u hu x hx
        rcases List.mem_cons.1 hu with rfl | hu
        · exact ht x hx
        · exact List.mem_cons_of_mem _ (toks_sub n r hrn k (i + 1) us hq u hu x hx)
    rw [toks] at h
    split at h
    · exact step 0 h
    · split at h
      · exact step _ h
      · split at h
        · exact add _ 0 (fun x hx => by rw [List.mem_singleton] at hx; subst hx; exact List.mem_cons_self ..) h
        · split at h
          · cases h
          · rename_i q hq
            exact add (atT q i) _ (fun x hx => by
              have e := piece_text hq
              have hx' : x ∈ q.text := hx
              rw [e] at hx'
              exact List.mem_of_mem_take hx') h
/-- Blocks, and the beginning of one: not read. -/
theorem cut_bad {ps : List (Bs × List Bs)} (hp : ∀ p ∈ ps, BlkOk p) {b r : Bs} (hb : (125 : UInt8) ∉ b) (hh : ∃ c s, b = c :: s ∧ prtP c = true) (hr : r <+: b) (hr0 : r ≠ []) : ∀ d, readP (textOf ps ++ r) ≠ .inr d := by
  intro d h
  obtain ⟨_, _, us, ht, hu⟩ := read_ok h
  obtain ⟨wo, e1, hL⟩ := text_words ps hp
  rw [hL r 0 (.inl rfl)] at ht
  have hr125 : (125 : UInt8) ∉ r := fun h => hb (hr.subset h)
  obtain ⟨c, s, hcs, hc⟩ : ∃ c s, r = c :: s ∧ prtP c = true := by
    obtain ⟨c, s, rfl, hc⟩ := hh
    cases r with
    | nil => exact absurd rfl hr0
    | cons x y =>
      obtain ⟨z, hz⟩ := hr
      injection hz with hz _
      exact ⟨x, y, rfl, by rw [hz]; exact hc⟩
  cases hq : toks r 0 (0 + (textOf ps).length) with
  | inl x => rw [hq] at ht; cases ht
  | inr ts =>
    rw [hq] at ht
    have ht' : wo.map (tkAt 0) ++ ts = us ++ [endT (textOf ps ++ r).length] := Sum.inr.inj ht
    obtain ⟨vs, e2, hv⟩ := toks_wf _ r (Nat.le_refl _) 0 _ ts hq
    have hsub := toks_sub _ r (Nat.le_refl _) 0 _ ts hq
    have hv0 : vs ≠ [] := by
      intro h0
      obtain ⟨p1, p2, p3⟩ := prt_not hc
      rw [hcs, toks, if_neg (by rw [p1]; simp), if_neg p2, if_neg (by rw [p3]; simp)] at hq
      split at hq
      · cases hq
      · cases hx : toks s (spanN prtP (c :: s) - 1) (0 + (textOf ps).length + 1) with
        | inl x => rw [hx] at hq; cases hq
        | inr zs =>
          rw [hx] at hq
          have hz := Sum.inr.inj hq
          obtain ⟨ws, e3, _⟩ := toks_wf _ s (Nat.le_refl _) _ _ zs hx
          rw [e2, h0, e3] at hz
          have := congrArg List.length hz
          simp at this
    obtain ⟨v, vl, rfl⟩ : ∃ v vl, vs = v ++ [vl] := ⟨vs.dropLast, vs.getLast hv0, (List.dropLast_concat_getLast hv0).symm⟩
    have e4 : us = wo.map (tkAt 0) ++ v ++ [vl] := by
      rw [e2] at ht'
      have h5 : (wo.map (tkAt 0) ++ v ++ [vl]) ++ [endT (0 + (textOf ps).length + r.length)] = us ++ [endT (textOf ps ++ r).length] := by rw [← ht']; simp
      exact (List.append_inj' h5 rfl).1.symm
    rcases hu with hu | ⟨xs, u, hu, hu2⟩
    · rw [e4] at hu
      simp at hu
    · rw [e4] at hu
      have h6 := (List.append_inj' hu rfl).2
      injection h6 with h6 _
      subst h6
      exact hr125 (hsub vl (by rw [e2]; simp) 125 (by rw [hu2]; exact List.mem_singleton.2 rfl))
/-- Words of a sound configuration, from its own text or another one. -/
theorem words_read {c : CfD} (hc : c.sound) {l : Bs} (h : Words true l (cfgW c)) (hl : l.length ≤ 65536) : ∃ d, readP l = .inr d := by
  obtain ⟨wo, e1, e2⟩ := h.toks
  have hT : Tl (cfgW c) [endT l.length] (wo.map (tkAt 0) ++ [endT l.length]) := ⟨_, rfl, by rw [← e1]; exact relL_at 0 wo⟩
  obtain ⟨c', h1, _⟩ := rd_cfg hc ⟨rfl, rfl⟩ hT
  refine ⟨c', ?_⟩
  unfold readP
  rw [if_neg (by omega), e2]
  simp only [h1]
/-- Nothing but whole maps and routers is left. -/
def wholeP (p : Bs) : Prop := p = [] ∨ (∃ q, p = q ++ [125]) ∨ ∃ q, p = q ++ [125, 10]
theorem cut_read {c : CfD} (hc : c.sound) (hl : (confT c).length ≤ 65536) {k : Nat} (hk : k ≤ (confT c).length) : (∃ d, readP ((confT c).take k) = .inr d) ↔ wholeP ((confT c).take k) := by
  have hB := blocks_ok hc
  have hlen : ((confT c).take k).length ≤ 65536 := by rw [List.length_take]; omega
  have hsub : ∀ j, ∀ p ∈ (blocks c).take j, BlkOk p := fun j p hp => hB p (List.mem_of_mem_take hp)
  have hcut := cutoff_at (blocks c) k (by rw [blocks_text]; exact hk)
  rw [blocks_text] at hcut
  rcases hcut with ⟨j, hj, h1⟩ | ⟨j, hj, h1 | ⟨r, hr0, hr, h1⟩⟩
  · refine ⟨fun _ => ?_, fun _ => ?_⟩
    · rw [h1]
      rcases List.eq_nil_or_concat ((blocks c).take j) with h0 | ⟨ps, p, h0⟩
      · rw [h0]; exact .inl rfl
      · refine .inr (.inr ⟨textOf ps ++ p.1, ?_⟩)
        rw [h0]
        simp [textOf]
    · refine words_read (upto_sound hc j) ?_ hlen
      rw [h1, ← blocks_words, upto_blocks]
      exact text_words _ (hsub j)
  · refine ⟨fun _ => .inr (.inl ⟨textOf ((blocks c).take j) ++ (blocks c)[j].1, by rw [h1]; simp⟩), fun _ => ?_⟩
    refine words_read (upto_sound hc (j + 1)) ?_ hlen
    have e : wordsOf ((blocks c).take (j + 1)) = wordsOf ((blocks c).take j) ++ (blocks c)[j].2 := by
      unfold wordsOf
      rw [List.take_succ_eq_append_getElem hj, List.flatMap_append, List.flatMap_singleton]
    rw [h1, ← blocks_words, upto_blocks, e]
    exact (text_words _ (hsub j)).app (hB _ (List.getElem_mem hj)).w (.inl rfl)
  · have hb := hB _ (List.getElem_mem hj)
    refine ⟨fun ⟨d, h⟩ => ?_, fun h => ?_⟩
    · rw [h1] at h
      exact absurd h (cut_bad (hsub j) hb.n hb.h hr hr0 d)
    · exfalso
      have hr125 : (125 : UInt8) ∉ r := fun h => hb.n (hr.subset h)
      obtain ⟨c0, s0, hcs, hc0⟩ : ∃ c s, r = c :: s ∧ prtP c = true := by
        obtain ⟨c, s, hcs, hc⟩ := hb.h
        cases r with
        | nil => exact absurd rfl hr0
        | cons x y =>
          obtain ⟨z, hz⟩ := hr
          rw [hcs] at hz
          injection hz with hz _
          exact ⟨x, y, rfl, by rw [hz]; exact hc⟩
      obtain ⟨v, vl, hv⟩ : ∃ v vl, r = v ++ [vl] := ⟨r.dropLast, r.getLast hr0, (List.dropLast_concat_getLast hr0).symm⟩
      rw [h1] at h
      rcases h with h | ⟨q, h⟩ | ⟨q, h⟩
      · rw [hv] at h
        simp at h
      · rw [hv, ← List.append_assoc] at h
        have h6 := (List.append_inj' h rfl).2
        injection h6 with h6 _
        exact hr125 (by rw [hv, h6]; simp)
      · have h7 : q ++ [125, 10] = (q ++ [125]) ++ [10] := by simp
        rw [hv, ← List.append_assoc, h7] at h
        have h6 := (List.append_inj' h rfl).2
        have h8 := (List.append_inj' h rfl).1
        injection h6 with h6 _
        cases v with
        | nil =>
          rw [hcs, h6] at hv
          injection hv with hv _
          rw [hv] at hc0
          revert hc0
          decide
        | cons x y =>
          obtain ⟨y', yl, hy⟩ : ∃ v vl, x :: y = v ++ [vl] := ⟨(x :: y).dropLast, (x :: y).getLast (by simp), (List.dropLast_concat_getLast (by simp)).symm⟩
          rw [hy, ← List.append_assoc] at h8
          have h9 := (List.append_inj' h8 rfl).2
          injection h9 with h9 _
          exact hr125 (by rw [hv, hy, h9]; simp)
end Go.Proofs.YtejhgifadohbiaaDoor
