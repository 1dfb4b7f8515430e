/- The text of ParseLimits, and what is read of it. No program. -/
import Derived.Test.YtejhgifadohbiaaDoorPL
import Derived.Test.YtejhgifadohbiaaDoorPK
namespace Go.Proofs.YtejhgifadohbiaaDoor
open Go.Lib

def rep (n : Nat) (x : Bs) : Bs := (List.replicate n x).flatten
theorem rep_next (n : Nat) (x : Bs) : rep (n + 1) x = rep n x ++ x := by
  unfold rep
  rw [List.replicate_succ', List.flatten_append]
  simp
def liMap : Bs := [109, 97, 112, 32, 109, 32, 123, 32]
def liCla : Bs := [105, 102, 32, 97, 110, 121, 32, 116, 104, 101, 110, 59, 32]
def liRou : Bs := [114, 111, 117, 116, 101, 114, 32, 114, 32, 123, 32]
def liNet : Bs := [110, 101, 116, 32, 49, 48, 46, 48, 46, 48, 46, 48, 47, 56, 59, 32]
def liEnd : Bs := [125, 32]
/-- So many things, the first with so many within. -/
def liMany (hd x : Bs) (k : Nat) : Nat → Bs
  | 0 => []
  | n + 1 => hd ++ rep k x ++ liEnd ++ rep n (hd ++ liEnd)
theorem li_next (hd x : Bs) (k : Nat) : ∀ n, liMany hd x k (n + 1) = liMany hd x k n ++ (hd ++ (if n = 0 then rep k x else []) ++ liEnd)
  | 0 => by simp [liMany, rep]
  | n + 1 => by
    rw [if_neg (by omega)]
    show hd ++ rep k x ++ liEnd ++ rep (n + 1) (hd ++ liEnd) = _
    rw [rep_next]
    simp [liMany]
def liText (m k r n : Nat) : Bs := liMany liMap liCla k m ++ liMany liRou liNet n r
/-- The clause, the net. -/
def cla0 : ClD := ⟨true, 0, 0, 0, 0, false, 0, 0, 0, 0⟩
def net0 : Nat × Int := (167772160, 8)
theorem cla0_sound : cla0.sound := ⟨(fun h => by cases h), by decide, by decide, by decide, by decide⟩
theorem net0_may : mayP net0.1 net0.2 = true ∧ net0.1 < 4294967296 := by decide
def map0 (k : Nat) : MpD := ⟨[109], List.replicate k cla0, 0⟩
def rou0 (n : Nat) : RoD := ⟨[114], List.replicate n net0, [], [], 0⟩
def liConf (m k r n : Nat) : CfD := ⟨map0 k :: List.replicate (m - 1) (map0 0), rou0 n :: List.replicate (r - 1) (rou0 0)⟩
theorem rep_words {x : Bs} {ws : List Bs} (h : Words true x ws) : ∀ n, Words true (rep n x) ((List.replicate n ws).flatten)
  | 0 => Words.nil
  | n + 1 => by
    have := h.app (rep_words h n) (.inl rfl)
    simpa [rep, List.replicate_succ] using this
theorem flat_rep {α : Type} (f : α → List Bs) (a : α) (n : Nat) : (List.replicate n a).flatMap f = (List.replicate n (f a)).flatten := by
  rw [List.flatMap_def, List.map_replicate]
theorem liCla_words : Words true liCla (claW cla0) := by
  have h1 := (words_wd (x := [105, 102]) (by decide)).app (words_wd (x := [97, 110, 121]) (by decide)) (.inl rfl)
  have h2 := h1.app (words_name (x := [116, 104, 101, 110]) (by decide)) (.inl rfl)
  have h3 := h2.app ((words_sgn (c := 59) (by decide)).app (words_blk (c := 32) (by decide)) (.inl rfl)) (.inr ⟨by show prtP 59 = false; decide, .inr (by simp)⟩)
  exact h3
theorem net0_text : pfT net0.1 net0.2 = [49, 48, 46, 48, 46, 48, 46, 48, 47, 56] := by
  show pfT 167772160 8 = _
  unfold pfT
  rw [if_pos (by decide)]
  unfold textP
  rw [show decDigits (167772160 / 16777216) = [49, 48] from by rw [dec_is (by omega)]; decide, show decDigits (167772160 / 65536 % 256) = [48] from by rw [dec_is (by omega)]; decide,
    show decDigits (Int.toNat 8) = [56] from by rw [dec_is (by decide)]; decide]
  rfl
theorem liNet_words : Words true liNet (netW net0) := by
  have h1 := (words_wd (x := [110, 101, 116]) (by decide)).app (pft_words net0_may) (.inl rfl)
  have h2 := h1.app ((words_sgn (c := 59) (by decide)).app (words_blk (c := 32) (by decide)) (.inl rfl)) (.inr ⟨by show prtP 59 = false; decide, .inr (by simp)⟩)
  unfold netW
  rw [net0_text] at h2 ⊢
  exact h2
theorem liMap_words : Words true liMap [[109, 97, 112], [109], [123]] :=
  ((words_wd (x := [109, 97, 112]) (by decide)).app (words_wd (x := [109]) (by decide)) (.inl rfl)).app ((words_sgn (c := 123) (by decide)).app (words_blk (c := 32) (by decide)) (.inl rfl)) (.inl rfl)
theorem liRou_words : Words true liRou [[114, 111, 117, 116, 101, 114], [114], [123]] :=
  ((words_wd (x := [114, 111, 117, 116, 101, 114]) (by decide)).app (words_wd (x := [114]) (by decide)) (.inl rfl)).app ((words_sgn (c := 123) (by decide)).app (words_blk (c := 32) (by decide)) (.inl rfl)) (.inl rfl)
theorem liEnd_words : Words true liEnd [[125]] := (words_sgn (c := 125) (by decide)).app (words_blk (c := 32) (by decide)) (.inl rfl)
theorem map0_words (k : Nat) : Words true (liMap ++ rep k liCla ++ liEnd) (mapW (map0 k)) := by
  have := ((liMap_words.app (rep_words liCla_words k) (.inl rfl)).app liEnd_words (.inl rfl))
  rw [← flat_rep] at this
  exact this
theorem rou0_words (n : Nat) : Words true (liRou ++ rep n liNet ++ liEnd) (rouW (rou0 n)) := by
  have := ((liRou_words.app (rep_words liNet_words n) (.inl rfl)).app liEnd_words (.inl rfl))
  rw [← flat_rep] at this
  unfold rouW rou0
  simpa using this
theorem li_words {m k r n : Nat} (hm : 0 < m) (hr : 0 < r) : Words true (liText m k r n) (cfgW (liConf m k r n)) := by
  obtain ⟨m, rfl⟩ : ∃ x, m = x + 1 := ⟨m - 1, by omega⟩
  obtain ⟨r, rfl⟩ : ∃ x, r = x + 1 := ⟨r - 1, by omega⟩
  have h1 : Words true (liMany liMap liCla k (m + 1)) ((map0 k :: List.replicate m (map0 0)).flatMap mapW) := by
    rw [List.flatMap_cons, flat_rep]
    have h0 := map0_words 0
    rw [show liMap ++ rep 0 liCla ++ liEnd = liMap ++ liEnd by simp [rep]] at h0
    exact (map0_words k).app (rep_words h0 m) (.inl rfl)
  have h2 : Words true (liMany liRou liNet n (r + 1)) ((rou0 n :: List.replicate r (rou0 0)).flatMap rouW) := by
    rw [List.flatMap_cons, flat_rep]
    have h0 := rou0_words 0
    rw [show liRou ++ rep 0 liNet ++ liEnd = liRou ++ liEnd by simp [rep]] at h0
    exact (rou0_words n).app (rep_words h0 r) (.inl rfl)
  exact h1.app h2 (.inl rfl)
theorem rep_len (x : Bs) : ∀ n, (rep n x).length = n * x.length
  | 0 => by simp [rep]
  | n + 1 => by rw [rep_next, List.length_append, rep_len x n, Nat.succ_mul]
theorem li_len {m k r n : Nat} (hm : m ≤ 70) (hk : k ≤ 20) (hr : r ≤ 70) (hn : n ≤ 20) : (liText m k r n).length ≤ 5000 := by
  have key : ∀ (hd x : Bs) (k n : Nat), hd.length ≤ 11 → x.length ≤ 16 → k ≤ 20 → n ≤ 70 → (liMany hd x k n).length ≤ 2000 := by
    intro hd x k n h1 h2 h3 h4
    cases n with
    | zero => simp [liMany]
    | succ n =>
      have e1 : (rep k x).length ≤ 320 := by rw [rep_len]; exact Nat.mul_le_mul h3 h2
      have e2 : (rep n (hd ++ liEnd)).length ≤ 910 := by rw [rep_len, List.length_append]; exact Nat.mul_le_mul (show n ≤ 70 by omega) (show hd.length + 2 ≤ 13 by omega)
      have e3 : liEnd.length = 2 := rfl
      simp only [liMany, List.length_append]
      omega
  have h1 := key liMap liCla k m (by decide) (by decide) hk hm
  have h2 := key liRou liNet n r (by decide) (by decide) hn hr
  unfold liText
  rw [List.length_append]
  omega
/-- More than may be. -/
theorem over_clas : ∀ (cs : List ClD) (n : Nat) (r ts : List Tk), n < cs.length → (∀ c ∈ cs, c.sound) → Tl (cs.flatMap claW) r ts → ∃ p, clasR n ts = .inl (7, p)
  | [], n, _, _, hn, _, _ => by simp at hn
  | c :: cs, n, r, ts, hn, hc, h => by
    obtain ⟨ts', h1, h2⟩ := Tl.app (show Tl (claW c ++ cs.flatMap claW) r ts from h)
    obtain ⟨c', k1, e1⟩ := rd_cla (hc c (List.mem_cons_self ..)) h1
    obtain ⟨t, us, rfl, h3, _⟩ := Tl.cons (w := [105, 102]) (ws := (claW c).tail) h1
    have hne : ¬ t.text = [125] := by
      rw [(rel_name (by decide) h3).2]
      decide
    cases n with
    | zero => exact ⟨t.pl, by rw [clasR, if_neg hne]⟩
    | succ n =>
      obtain ⟨p, hp⟩ := over_clas cs n r ts' (by simpa using hn) (fun x hx => hc x (List.mem_cons_of_mem _ hx)) h2
      refine ⟨p, ?_⟩
      rw [clasR, if_neg hne, andR_ok k1, hp]
      rfl
theorem over_many {α : Type} {w : Bs} {f : List Tk → Res α} {W : α → List Bs} (hw : nameP w = true) :
    ∀ (xs : List α) (n : Nat) (r ts : List Tk), n < xs.length → (∀ x ∈ xs, (∃ rest, W x = w :: rest) ∧ ∀ r ts, Tl (W x) r ts → ∃ x', f ts = .inr (x', r)) → Tl (xs.flatMap W) r ts → ∃ p, manyR w f n ts = .inl (7, p)
  | [], n, _, _, hn, _, _ => by simp at hn
  | x :: xs, n, r, ts, hn, hx, h => by
    obtain ⟨⟨rest, hW⟩, hx1⟩ := hx x (List.mem_cons_self ..)
    obtain ⟨ts', h1, h2⟩ := Tl.app (show Tl (W x ++ xs.flatMap W) r ts from h)
    obtain ⟨x', k1⟩ := hx1 ts' ts h1
    rw [hW] at h1
    obtain ⟨t, us, rfl, h3, _⟩ := h1.cons
    have ht := (rel_name hw h3).2
    cases n with
    | zero => exact ⟨t.pl, by rw [manyR, if_pos ht]⟩
    | succ n =>
      obtain ⟨p, hp⟩ := over_many hw xs n r ts' (by simpa using hn) (fun y hy => hx y (List.mem_cons_of_mem _ hy)) h2
      refine ⟨p, ?_⟩
      rw [manyR, if_pos ht]
      show andR (f (t :: us)) _ = _
      rw [andR_ok k1, hp]
      rfl
theorem over_map {m : MpD} (hn : nameP m.name = true) (hc : ∀ c ∈ m.cls, c.sound) (hl : 16 < m.cls.length) {r ts : List Tk} (h : Tl (mapW m) r ts) : ∃ p, mapR ts = .inl (7, p) := by
  unfold mapW at h
  obtain ⟨t2, h, he⟩ := h.app
  obtain ⟨t1, hd, hcs⟩ := h.app
  obtain ⟨p, hp⟩ := over_clas m.cls 16 t2 t1 hl hc hcs
  obtain ⟨p0, u0, k0, hd⟩ := rd_word (by decide) hd
  obtain ⟨u1, k1, hd⟩ := rd_name hn hd
  obtain ⟨p2, u2, k2, hd⟩ := rd_sgn (c := 123) (by decide) hd
  have e2 := hd.nil
  subst e2
  refine ⟨p, ?_⟩
  unfold mapR
  rw [andR_ok k0, andR_ok k1, andR_ok k2, hp]
  rfl
theorem over_rou {x : RoD} (hn : nameP x.name = true) (hc : ∀ p ∈ x.nets, mayP p.1 p.2 = true ∧ p.1 < 4294967296) (hl : 8 < x.nets.length) {r ts : List Tk} (h : Tl (rouW x) r ts) : ∃ p, rouR ts = .inl (7, p) := by
  unfold rouW at h
  obtain ⟨t4, h, _⟩ := h.app
  obtain ⟨t3, h, _⟩ := h.app
  obtain ⟨t2, h, _⟩ := h.app
  obtain ⟨t1, hd, hns⟩ := h.app
  obtain ⟨p, hp⟩ := over_many (w := [110, 101, 116]) (f := netR) (W := netW) (by decide) x.nets 8 t2 t1 hl (fun y hy => ⟨⟨_, rfl⟩, fun r ts h => by obtain ⟨x', h1, _⟩ := rd_net (hc y hy) h; exact ⟨x', h1⟩⟩) hns
  obtain ⟨p0, u0, k0, hd⟩ := rd_word (by decide) hd
  obtain ⟨u1, k1, hd⟩ := rd_name hn hd
  obtain ⟨p2, u2, k2, hd⟩ := rd_sgn (c := 123) (by decide) hd
  have e2 := hd.nil
  subst e2
  refine ⟨p, ?_⟩
  unfold rouR
  rw [andR_ok k0, andR_ok k1, andR_ok k2, hp]
  rfl
theorem many_first {α : Type} {w : Bs} {f : List Tk → Res α} {n : Nat} {ts : List Tk} {e : Nat × Nat} {ws : List Bs} {r : List Tk} (hw : nameP w = true) (h : Tl (w :: ws) r ts) (hf : f ts = .inl e) : manyR w f (n + 1) ts = .inl e := by
  obtain ⟨t, us, rfl, h3, _⟩ := h.cons
  rw [manyR, if_pos (rel_name hw h3).2]
  show andR (f (t :: us)) _ = _
  rw [hf]
  rfl
theorem map0_sound {k : Nat} (hk : k ≤ 16) : (map0 k).sound := ⟨by show nameP [109] = true; decide, fun c hc => by rw [(List.mem_replicate.1 hc).2]; exact cla0_sound, by show (List.replicate k cla0).length ≤ 16; simpa using hk⟩
theorem rou0_sound {n : Nat} (hn : n ≤ 8) : (rou0 n).sound :=
  ⟨by show nameP [114] = true; decide, (fun p hp => by rw [(List.mem_replicate.1 hp).2]; exact net0_may), (fun l hl => by cases hl), (fun l hl => by cases hl), by show (List.replicate n net0).length ≤ 8; simpa using hn, Nat.zero_le _, Nat.zero_le _⟩
/-- What is read of it. -/
theorem li_read {m k r n : Nat} (hm : 0 < m) (hr : 0 < r) (hm' : m ≤ 70) (hk' : k ≤ 20) (hr' : r ≤ 70) (hn' : n ≤ 20) :
    if 64 < m ∨ 16 < k ∨ 64 < r ∨ 8 < n then ∃ p, readP (liText m k r n) = .inl (7, p) else ∃ d, readP (liText m k r n) = .inr d := by
  have hW := li_words (k := k) (n := n) hm hr
  have hl := li_len hm' hk' hr' hn'
  split
  · rename_i hb
    obtain ⟨wo, e1, e2⟩ := hW.toks
    have hT : Tl (cfgW (liConf m k r n)) [endT (liText m k r n).length] (wo.map (tkAt 0) ++ [endT (liText m k r n).length]) := ⟨_, rfl, by rw [← e1]; exact relL_at 0 wo⟩
    have key : ∃ p, cfgR (wo.map (tkAt 0) ++ [endT (liText m k r n).length]) = .inl (7, p) := by
      generalize wo.map (tkAt 0) ++ [endT (liText m k r n).length] = ts at hT
      generalize [endT (liText m k r n).length] = e at hT
      clear e1 e2 hW hl
      unfold cfgW at hT
      obtain ⟨t1, h1, h2⟩ := hT.app
      unfold cfgR
      by_cases hk : 16 < k
      · obtain ⟨t0, h3, _⟩ := Tl.app (show Tl (mapW (map0 k) ++ (List.replicate (m - 1) (map0 0)).flatMap mapW) t1 ts from h1)
        obtain ⟨p, hp⟩ := over_map (m := map0 k) (by show nameP [109] = true; decide) (fun c hc => by rw [(List.mem_replicate.1 hc).2]; exact cla0_sound) (by show 16 < (List.replicate k cla0).length; simpa using hk) h3
        exact ⟨p, andR_no (many_first (by decide) (show Tl ([109, 97, 112] :: _) t0 ts from h3) hp)⟩
      have hms : ∀ y ∈ (liConf m k r n).maps, y.sound := by
        intro y hy
        rcases List.mem_cons.1 hy with rfl | hy
        · exact map0_sound (by omega)
        · rw [(List.mem_replicate.1 hy).2]; exact map0_sound (by omega)
      by_cases hm64 : 64 < m
      · obtain ⟨p, hp⟩ := over_many (w := [109, 97, 112]) (f := mapR) (W := mapW) (by decide) (liConf m k r n).maps 64 t1 ts (by show 64 < (map0 k :: List.replicate (m - 1) (map0 0)).length; simp; omega)
          (fun y hy => ⟨⟨_, rfl⟩, fun r ts h => by obtain ⟨x', h1, _⟩ := rd_map (hms y hy) h; exact ⟨x', h1⟩⟩) h1
        exact ⟨p, andR_no hp⟩
      have f1 : Fol [[114, 111, 117, 116, 101, 114]] t1 := fol_name (by decide) (show Tl ([114, 111, 117, 116, 101, 114] :: _) e t1 from h2) (by simp)
      obtain ⟨⟨ms, km, _⟩, _⟩ := rd_many (w := [109, 97, 112]) (f := mapR) (W := mapW) (T := mapT) (by decide) (by decide) (liConf m k r n).maps 64 t1 ts (by show (map0 k :: List.replicate (m - 1) (map0 0)).length ≤ 64; simp; omega)
        (fun y hy => ⟨⟨_, rfl⟩, fun r ts h => rd_map (hms y hy) h⟩) f1 h1
      rw [andR_ok km]
      by_cases hn8 : 8 < n
      · obtain ⟨t0, h3, _⟩ := Tl.app (show Tl (rouW (rou0 n) ++ (List.replicate (r - 1) (rou0 0)).flatMap rouW) e t1 from h2)
        obtain ⟨p, hp⟩ := over_rou (x := rou0 n) (by show nameP [114] = true; decide) (fun c hc => by rw [(List.mem_replicate.1 hc).2]; exact net0_may) (by show 8 < (List.replicate n net0).length; simpa using hn8) h3
        exact ⟨p, andR_no (many_first (by decide) (show Tl ([114, 111, 117, 116, 101, 114] :: _) t0 t1 from h3) hp)⟩
      have hrs : ∀ y ∈ (liConf m k r n).ros, y.sound := by
        intro y hy
        rcases List.mem_cons.1 hy with rfl | hy
        · exact rou0_sound (by omega)
        · rw [(List.mem_replicate.1 hy).2]; exact rou0_sound (by omega)
      obtain ⟨p, hp⟩ := over_many (w := [114, 111, 117, 116, 101, 114]) (f := rouR) (W := rouW) (by decide) (liConf m k r n).ros 64 e t1 (by show 64 < (rou0 n :: List.replicate (r - 1) (rou0 0)).length; simp; omega)
        (fun y hy => ⟨⟨_, rfl⟩, fun r ts h => by obtain ⟨x', h1, _⟩ := rd_rou (hrs y hy) h; exact ⟨x', h1⟩⟩) h2
      exact ⟨p, andR_no hp⟩
    obtain ⟨p, hp⟩ := key
    refine ⟨p, ?_⟩
    unfold readP
    rw [if_neg (by omega), e2]
    simp only [hp]
  · rename_i hb
    refine words_read (c := liConf m k r n) ⟨?_, ?_, ?_, ?_⟩ hW (by omega)
    · intro y hy
      rcases List.mem_cons.1 hy with rfl | hy
      · exact map0_sound (by omega)
      · rw [(List.mem_replicate.1 hy).2]; exact map0_sound (by omega)
    · intro y hy
      rcases List.mem_cons.1 hy with rfl | hy
      · exact rou0_sound (by omega)
      · rw [(List.mem_replicate.1 hy).2]; exact rou0_sound (by omega)
    · show (map0 k :: List.replicate (m - 1) (map0 0)).length ≤ 64
      simp
      omega
    · show (rou0 n :: List.replicate (r - 1) (rou0 0)).length ≤ 64
      simp
      omega
end Go.Proofs.YtejhgifadohbiaaDoor
