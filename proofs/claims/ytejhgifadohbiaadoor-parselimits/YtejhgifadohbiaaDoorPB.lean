/- What tokens a configuration's text has. No program. -/
import Derived.Test.YtejhgifadohbiaaDoorPA
namespace Go.Proofs.YtejhgifadohbiaaDoor
open Go.Lib

/-- The numbers of the tags among some bits, as words. -/
def tagD (bits : Nat) : Nat → Nat → List Bs
  | 0, _ => []
  | f + 1, k => (if bits / 2 ^ k % 2 = 1 then [[UInt8.ofNat (48 + k)]] else []) ++ tagD bits f (k + 1)
def tagW (word : Bs) (bits : Nat) : List Bs := if tagN bits 4 0 = [] then [] else word :: tagD bits 4 0
def numW (word : Bs) (n : Int) : List Bs := if n = 0 then [] else [word, itoa n]
def nmW (word s : Bs) : List Bs := if s = [] then [] else [word, s]
def claW (c : ClD) : List Bs :=
  [[105, 102], onT c] ++ tagW [119, 105, 116, 104] c.wi ++ tagW [111, 117, 116] c.ou ++ [[116, 104, 101, 110]] ++ (if c.drop = true then [[100, 114, 111, 112]] else []) ++ tagW [115, 101, 116] c.se ++ tagW [99, 108, 101, 97, 114] c.cl ++
    numW [109, 111, 114, 101] c.more ++ numW [112, 114, 101, 102] c.pref ++ [[59]]
def mapW (m : MpD) : List Bs := [[109, 97, 112], m.name, [123]] ++ m.cls.flatMap claW ++ [[125]]
def netW (p : Nat × Int) : List Bs := [[110, 101, 116], pfT p.1 p.2, [59]]
def lnkW (l : LkD) : List Bs := [[108, 105, 110, 107], l.peer, [99, 111, 115, 116], itoa l.cost] ++ nmW [105, 109, 112, 111, 114, 116] l.imp ++ nmW [101, 120, 112, 111, 114, 116] l.exp ++ [[59]]
def staW (s : StD) : List Bs := [[115, 116, 97, 116, 105, 99], pfT s.a s.b, [118, 105, 97], s.via, [59]]
def rouW (r : RoD) : List Bs := [[114, 111, 117, 116, 101, 114], r.name, [123]] ++ r.nets.flatMap netW ++ r.lks.flatMap lnkW ++ r.sts.flatMap staW ++ [[125]]
def cfgW (c : CfD) : List Bs := c.maps.flatMap mapW ++ c.ros.flatMap rouW

/-- It can be written so that it is read again. -/
structure ClD.sound (c : ClD) : Prop where
  on : c.any = false → mayP c.a c.b = true ∧ c.a < 4294967296
  m0 : 0 ≤ c.more
  m1 : c.more ≤ 15
  p0 : 0 ≤ c.pref
  p1 : c.pref ≤ 255
structure MpD.sound (m : MpD) : Prop where
  n : nameP m.name = true
  c : ∀ c ∈ m.cls, c.sound
  l : m.cls.length ≤ 16
structure LkD.sound (l : LkD) : Prop where
  n : nameP l.peer = true
  c0 : 1 ≤ l.cost
  c1 : l.cost ≤ 1000
  i : l.imp ≠ [] → nameP l.imp = true
  e : l.exp ≠ [] → nameP l.exp = true
structure StD.sound (s : StD) : Prop where
  p : mayP s.a s.b = true ∧ s.a < 4294967296
  n : nameP s.via = true
structure RoD.sound (r : RoD) : Prop where
  n : nameP r.name = true
  t : ∀ p ∈ r.nets, mayP p.1 p.2 = true ∧ p.1 < 4294967296
  l : ∀ l ∈ r.lks, l.sound
  s : ∀ s ∈ r.sts, s.sound
  tn : r.nets.length ≤ 8
  ln : r.lks.length ≤ 64
  sn : r.sts.length ≤ 8
structure CfD.sound (c : CfD) : Prop where
  m : ∀ m ∈ c.maps, m.sound
  r : ∀ r ∈ c.ros, r.sound
  ml : c.maps.length ≤ 64
  rl : c.ros.length ≤ 64

/-- A blank, and a piece. -/
theorem words_sp {x : Bs} {ws : List Bs} (h : Words false x ws) : Words false (32 :: x) ws := by
  have := (words_blk (c := 32) (by decide)).app h (.inl rfl)
  simpa using this
theorem stop_sp (x : Bs) : Stop (32 :: x) := by show prtP 32 = false; decide
theorem stop_nil : Stop [] := trivial
theorem words_none : Words false [] [] := Words.nil.open
/-- One part behind the other, each begins with a blank. -/
theorem Words.then {l1 l2 : Bs} {w1 w2 : List Bs} (h1 : Words false l1 w1) (h2 : Words false l2 w2) (hs : Stop l2) : Words false (l1 ++ l2) (w1 ++ w2) := h1.app h2 (.inr ⟨hs, .inl rfl⟩)
theorem itoa_at {n : Int} (h : 0 ≤ n) : itoa n = decDigits n.toNat := by
  unfold itoa
  rw [if_neg (by omega)]
theorem words_itoa {n : Int} (h : 0 ≤ n) (h1 : n < 1000000) : Words false (itoa n) [itoa n] := by
  rw [itoa_at h]
  exact words_num (by omega)
theorem tag_words (bits : Nat) : ∀ f k, f + k ≤ 4 → Words false (tagN bits f k) (tagD bits f k) ∧ Stop (tagN bits f k)
  | 0, _, _ => ⟨words_none, trivial⟩
  | f + 1, k, h => by
    obtain ⟨h1, h2⟩ := tag_words bits f (k + 1) (by omega)
    unfold tagN tagD
    split
    · have hd : decDigits k = [UInt8.ofNat (48 + k)] := decDigits_one (by omega)
      have h3 : Words false [UInt8.ofNat (48 + k)] [[UInt8.ofNat (48 + k)]] := by rw [← hd]; exact words_num (by omega)
      exact ⟨(words_sp h3).then h1 h2, stop_sp _⟩
    · exact ⟨h1, h2⟩
theorem tags_words {word : Bs} (hw : nameP word = true) (bits : Nat) : Words false (tagsT word bits) (tagW word bits) ∧ Stop (tagsT word bits) := by
  unfold tagsT tagW
  split
  · exact ⟨words_none, trivial⟩
  · obtain ⟨h1, h2⟩ := tag_words bits 4 0 (by omega)
    exact ⟨(words_sp (words_name hw)).then h1 h2, stop_sp _⟩
theorem nums_words {word : Bs} (hw : nameP word = true) {n : Int} (h0 : 0 ≤ n) (h1 : n < 1000000) : Words false (numT word n) (numW word n) ∧ Stop (numT word n) := by
  unfold numT numW
  split
  · exact ⟨words_none, trivial⟩
  · exact ⟨(words_sp (words_name hw)).then (words_sp (words_itoa h0 h1)) (stop_sp _), stop_sp _⟩
theorem nms_words {word s : Bs} (hw : nameP word = true) (hs : s ≠ [] → nameP s = true) : Words false (nmT word s) (nmW word s) ∧ Stop (nmT word s) := by
  unfold nmT nmW
  split
  · exact ⟨words_none, trivial⟩
  · rename_i h
    exact ⟨(words_sp (words_name hw)).then (words_sp (words_name (hs h))) (stop_sp _), stop_sp _⟩
theorem pft_words {a : Nat} {b : Int} (h : mayP a b = true ∧ a < 4294967296) : Words false (pfT a b) [pfT a b] := by
  obtain ⟨h0, _, _⟩ := may_bounds h.1
  have hb : ((b.toNat : Nat) : Int) = b := Int.toNat_of_nonneg h0
  unfold pfT
  rw [if_pos h.1]
  exact words_pf (by rw [hb]; exact h.1) h.2
theorem on_words {c : ClD} (h : c.sound) : Words false (onT c) [onT c] := by
  unfold onT
  split
  · exact words_name (by decide)
  · rename_i hc
    exact pft_words (h.on (by simpa using hc))
/-- Within a line. -/
theorem inn_words {l : Bs} {ws : List Bs} (h : Words false l ws) : Words true (innT l) (ws ++ [[59]]) := by
  have h1 : Words true [59, 10] [[59]] := by
    have := (words_sgn (c := 59) (by decide)).app (words_blk (c := 10) (by decide)) (.inl rfl)
    simpa using this
  have h2 := h.app h1 (.inr ⟨by show prtP 59 = false; decide, .inr (by simp)⟩)
  have h3 := (words_blk (c := 9) (by decide)).app h2 (.inl rfl)
  unfold innT
  simpa using h3
/-- A word and a blank. -/
theorem words_wd {x : Bs} (h : nameP x = true) : Words true (x ++ [32]) [x] := by
  have := (words_name h).app (words_blk (c := 32) (by decide)) (.inr ⟨stop_sp _, .inr (by simp)⟩)
  simpa using this
theorem line_words {c : ClD} (h : c.sound) : Words true (lineT c) (claW c) := by
  have h1 : Words false ([105, 102, 32] ++ onT c) ([[105, 102]] ++ [onT c]) := (words_wd (x := [105, 102]) (by decide)).app (on_words h) (.inl rfl)
  have h2 := tags_words (word := [119, 105, 116, 104]) (by decide) c.wi
  have h3 := tags_words (word := [111, 117, 116]) (by decide) c.ou
  have h4 : Words false [32, 116, 104, 101, 110] [[116, 104, 101, 110]] := words_sp (words_name (x := [116, 104, 101, 110]) (by decide))
  have h5 : Words false (dropT c) (if c.drop = true then [[100, 114, 111, 112]] else []) ∧ Stop (dropT c) := by
    unfold dropT
    split
    · exact ⟨words_sp (words_name (x := [100, 114, 111, 112]) (by decide)), stop_sp _⟩
    · exact ⟨words_none, trivial⟩
  have h6 := tags_words (word := [115, 101, 116]) (by decide) c.se
  have h7 := tags_words (word := [99, 108, 101, 97, 114]) (by decide) c.cl
  have h8 := nums_words (word := [109, 111, 114, 101]) (by decide) h.m0 (by have := h.m1; omega)
  have h9 := nums_words (word := [112, 114, 101, 102]) (by decide) h.p0 (by have := h.p1; omega)
  exact inn_words ((((((((h1.then h2.1 h2.2).then h3.1 h3.2).then h4 (stop_sp _)).then h5.1 h5.2).then h6.1 h6.2).then h7.1 h7.2).then h8.1 h8.2).then h9.1 h9.2)
theorem flat_words {α : Type} (f : α → Bs) (g : α → List Bs) : ∀ (l : List α), (∀ x ∈ l, Words true (f x) (g x)) → Words true (l.flatMap f) (l.flatMap g)
  | [], _ => Words.nil
  | x :: r, h => by
    rw [List.flatMap_cons, List.flatMap_cons]
    exact (h x (List.mem_cons_self ..)).app (flat_words f g r fun y hy => h y (List.mem_cons_of_mem _ hy)) (.inl rfl)
theorem head_words {kind name : Bs} (hk : nameP kind = true) (hn : nameP name = true) : Words true (headT kind name) [kind, name, [123]] := by
  have h1 : Words true [32, 123, 10] [[123]] := by
    have := ((words_blk (c := 32) (by decide)).app (words_sgn (c := 123) (by decide)) (.inl rfl)).app (words_blk (c := 10) (by decide)) (.inl rfl)
    simpa using this
  have h2 := ((words_name hk).then (words_sp (words_name hn)) (stop_sp _)).app h1 (.inr ⟨stop_sp _, .inr (by simp)⟩)
  exact h2
theorem foot_words : Words true footT [[125]] := by
  have := (words_sgn (c := 125) (by decide)).app (words_blk (c := 10) (by decide)) (.inl rfl)
  simpa [footT] using this
theorem map_words {m : MpD} (h : m.sound) : Words true (mapT m) (mapW m) :=
  ((head_words (by decide) h.n).app (flat_words lineT claW m.cls fun c hc => line_words (h.c c hc)) (.inl rfl)).app foot_words (.inl rfl)
theorem net_words {p : Nat × Int} (h : mayP p.1 p.2 = true ∧ p.1 < 4294967296) : Words true (netT p) (netW p) :=
  inn_words ((words_wd (x := [110, 101, 116]) (by decide)).app (pft_words h) (.inl rfl))
theorem link_words {l : LkD} (h : l.sound) : Words true (linkT l) (lnkW l) := by
  have h1 : Words true ([108, 105, 110, 107, 32]) [[108, 105, 110, 107]] := words_wd (x := [108, 105, 110, 107]) (by decide)
  have h2 := h1.app (words_name h.n) (.inl rfl)
  have h3 : Words true [32, 99, 111, 115, 116, 32] [[99, 111, 115, 116]] := by
    have := (words_blk (c := 32) (by decide)).app (words_wd (x := [99, 111, 115, 116]) (by decide)) (.inl rfl)
    simpa using this
  have h4 := (h2.app h3 (.inr ⟨stop_sp _, .inr (by simp)⟩)).app (words_itoa (n := l.cost) (by have := h.c0; omega) (by have := h.c1; omega)) (.inl rfl)
  have h5 := nms_words (word := [105, 109, 112, 111, 114, 116]) (by decide) h.i
  have h6 := nms_words (word := [101, 120, 112, 111, 114, 116]) (by decide) h.e
  exact inn_words ((h4.then h5.1 h5.2).then h6.1 h6.2)
theorem stat_words {s : StD} (h : s.sound) : Words true (statT s) (staW s) := by
  have h1 : Words true ([115, 116, 97, 116, 105, 99, 32]) [[115, 116, 97, 116, 105, 99]] := words_wd (x := [115, 116, 97, 116, 105, 99]) (by decide)
  have h2 := h1.app (pft_words h.p) (.inl rfl)
  have h3 : Words true [32, 118, 105, 97, 32] [[118, 105, 97]] := by
    have := (words_blk (c := 32) (by decide)).app (words_wd (x := [118, 105, 97]) (by decide)) (.inl rfl)
    simpa using this
  have h4 := (h2.app h3 (.inr ⟨stop_sp _, .inr (by simp)⟩)).app (words_name h.n) (.inl rfl)
  exact inn_words h4
theorem rout_words {r : RoD} (h : r.sound) : Words true (routT r) (rouW r) :=
  (((((head_words (by decide) h.n).app (flat_words netT netW r.nets fun p hp => net_words (h.t p hp)) (.inl rfl)).app (flat_words linkT lnkW r.lks fun l hl => link_words (h.l l hl)) (.inl rfl)).app
    (flat_words statT staW r.sts fun s hs => stat_words (h.s s hs)) (.inl rfl)).app foot_words (.inl rfl))
/-- The whole text's. -/
theorem conf_words {c : CfD} (h : c.sound) : Words true (confT c) (cfgW c) :=
  (flat_words mapT mapW c.maps fun m hm => map_words (h.m m hm)).app (flat_words routT rouW c.ros fun r hr => rout_words (h.r r hr)) (.inl rfl)
end Go.Proofs.YtejhgifadohbiaaDoor
