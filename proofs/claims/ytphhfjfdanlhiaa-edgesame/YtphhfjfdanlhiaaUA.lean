/- Configurations as plain data, and their texts. No program. -/
import Derived.Test.YtphhfjfdanlhiaaHA
namespace Go.Proofs.Ytphhfjfdanlhiaa
open Go.Lib

abbrev Bs := List UInt8
/-- A clause. -/
structure ClD where
  any : Bool
  a : Nat
  b : Int
  wi : Nat
  ou : Nat
  drop : Bool
  se : Nat
  cl : Nat
  more : Int
  pref : Int
/-- A map, a link, a static way, a router, a configuration. -/
structure MpD where
  name : Bs
  cls : List ClD
  pl : Int
structure LkD where
  peer : Bs
  cost : Int
  imp : Bs
  exp : Bs
  pl : Int
structure StD where
  a : Nat
  b : Int
  via : Bs
  pl : Int
structure RoD where
  name : Bs
  nets : List (Nat × Int)
  lks : List LkD
  sts : List StD
  pl : Int
structure CfD where
  maps : List MpD
  ros : List RoD
/-- A prefix's text; none of what may not be. -/
def pfT (a : Nat) (b : Int) : Bs := if mayP a b = true then textP a b.toNat else []
/-- The numbers of the tags among some bits, from a bit on. -/
def tagN (bits : Nat) : Nat → Nat → Bs
  | 0, _ => []
  | f + 1, k => (if bits / 2 ^ k % 2 = 1 then [32, UInt8.ofNat (48 + k)] else []) ++ tagN bits f (k + 1)
def tagsT (word : Bs) (bits : Nat) : Bs := if tagN bits 4 0 = [] then [] else 32 :: word ++ tagN bits 4 0
def numT (word : Bs) (n : Int) : Bs := if n = 0 then [] else 32 :: word ++ 32 :: itoa n
def nmT (word s : Bs) : Bs := if s = [] then [] else 32 :: word ++ 32 :: s
def onT (c : ClD) : Bs := if c.any = true then [97, 110, 121] else pfT c.a c.b
def dropT (c : ClD) : Bs := if c.drop = true then [32, 100, 114, 111, 112] else []
/-- A clause's words. -/
def wordsT (c : ClD) : Bs :=
  [105, 102, 32] ++ onT c ++ tagsT [119, 105, 116, 104] c.wi ++ tagsT [111, 117, 116] c.ou ++ [32, 116, 104, 101, 110] ++ dropT c ++ tagsT [115, 101, 116] c.se ++ tagsT [99, 108, 101, 97, 114] c.cl ++
    numT [109, 111, 114, 101] c.more ++ numT [112, 114, 101, 102] c.pref
/-- A line within. -/
def innT (l : Bs) : Bs := 9 :: l ++ [59, 10]
def lineT (c : ClD) : Bs := innT (wordsT c)
def headT (kind name : Bs) : Bs := kind ++ 32 :: name ++ [32, 123, 10]
def footT : Bs := [125, 10]
def mapT (m : MpD) : Bs := headT [109, 97, 112] m.name ++ m.cls.flatMap lineT ++ footT
def netT (p : Nat × Int) : Bs := innT ([110, 101, 116, 32] ++ pfT p.1 p.2)
def linkW (l : LkD) : Bs := [108, 105, 110, 107, 32] ++ l.peer ++ [32, 99, 111, 115, 116, 32] ++ itoa l.cost ++ nmT [105, 109, 112, 111, 114, 116] l.imp ++ nmT [101, 120, 112, 111, 114, 116] l.exp
def linkT (l : LkD) : Bs := innT (linkW l)
def statT (s : StD) : Bs := innT ([115, 116, 97, 116, 105, 99, 32] ++ pfT s.a s.b ++ [32, 118, 105, 97, 32] ++ s.via)
def routT (r : RoD) : Bs := headT [114, 111, 117, 116, 101, 114] r.name ++ r.nets.flatMap netT ++ r.lks.flatMap linkT ++ r.sts.flatMap statT ++ footT
def confT (c : CfD) : Bs := c.maps.flatMap mapT ++ c.ros.flatMap routT

/-- It may be: numbers are in their kinds' bounds. -/
structure ClD.ok (c : ClD) : Prop where
  a : c.a < 4294967296
  wi : c.wi < 256
  ou : c.ou < 256
  se : c.se < 256
  cl : c.cl < 256
  m0 : -9223372036854775808 ≤ c.more
  m1 : c.more ≤ 9223372036854775807
  p0 : -9223372036854775808 ≤ c.pref
  p1 : c.pref ≤ 9223372036854775807
structure LkD.ok (l : LkD) : Prop where
  c0 : -9223372036854775808 ≤ l.cost
  c1 : l.cost ≤ 9223372036854775807
structure MpD.ok (m : MpD) : Prop where
  h : ∀ c ∈ m.cls, c.ok
structure RoD.ok (r : RoD) : Prop where
  n : ∀ p ∈ r.nets, p.1 < 4294967296
  l : ∀ l ∈ r.lks, l.ok
  s : ∀ s ∈ r.sts, s.a < 4294967296
structure CfD.ok (c : CfD) : Prop where
  m : ∀ m ∈ c.maps, m.ok
  r : ∀ r ∈ c.ros, r.ok

/-! ### How long texts are -/
theorem dig_len : ∀ (k n : Nat), n < 10 ^ (k + 1) → (decDigits n).length ≤ k + 1
  | 0, n, h => by rw [decDigits_one (by simpa using h)]; simp
  | k + 1, n, h => by
    rw [decDigits]
    split
    · simp
    · rw [List.length_append]
      have := dig_len k (n / 10) (by rw [Nat.pow_succ] at h; omega)
      simp
      omega
theorem dig_pos (n : Nat) : 1 ≤ (decDigits n).length := by
  rw [decDigits]
  split <;> simp
theorem itoa_len {n : Int} (h0 : -9223372036854775808 ≤ n) (h1 : n ≤ 9223372036854775807) : (itoa n).length ≤ 20 := by
  unfold itoa
  split
  · have := dig_len 18 n.natAbs (by omega)
    simp
    omega
  · have := dig_len 18 n.toNat (by omega)
    omega
theorem tag_len (bits : Nat) : ∀ f k, (tagN bits f k).length ≤ 2 * f
  | 0, _ => by simp [tagN]
  | f + 1, k => by
    have := tag_len bits f (k + 1)
    unfold tagN
    split <;> simp <;> omega
theorem tags_len (word : Bs) (bits : Nat) : (tagsT word bits).length ≤ word.length + 9 := by
  have := tag_len bits 4 0
  unfold tagsT
  split
  · simp
  · simp
    omega
theorem num_len (word : Bs) {n : Int} (h0 : -9223372036854775808 ≤ n) (h1 : n ≤ 9223372036854775807) : (numT word n).length ≤ word.length + 22 := by
  have := itoa_len h0 h1
  unfold numT
  split
  · simp
  · simp
    omega
theorem nm_len (word s : Bs) : (nmT word s).length ≤ word.length + s.length + 2 := by
  unfold nmT
  split
  · simp
  · simp
    omega
theorem pf_len (a : Nat) (b : Int) (ha : a < 4294967296) : (pfT a b).length ≤ 19 := by
  unfold pfT
  split
  · rename_i h
    obtain ⟨h0, h1, _⟩ := may_bounds h
    have l1 := dig_len 2 (a / 16777216) (by omega)
    have l2 := dig_len 2 (a / 65536 % 256) (by omega)
    have l3 := dig_len 2 (a / 256 % 256) (by omega)
    have l4 := dig_len 2 (a % 256) (by omega)
    have l5 := dig_len 2 b.toNat (by omega)
    unfold textP
    simp
    omega
  · simp
theorem on_len {c : ClD} (h : c.ok) : (onT c).length ≤ 19 := by
  have := pf_len c.a c.b h.a
  unfold onT
  split
  · simp
  · exact this
theorem drop_len (c : ClD) : (dropT c).length ≤ 5 := by
  unfold dropT
  split <;> simp
theorem words_len {c : ClD} (h : c.ok) : (wordsT c).length ≤ 140 := by
  have h1 := on_len h
  have h2 := tags_len [119, 105, 116, 104] c.wi
  have h3 := tags_len [111, 117, 116] c.ou
  have h4 := drop_len c
  have h5 := tags_len [115, 101, 116] c.se
  have h6 := tags_len [99, 108, 101, 97, 114] c.cl
  have h7 := num_len [109, 111, 114, 101] h.m0 h.m1
  have h8 := num_len [112, 114, 101, 102] h.p0 h.p1
  unfold wordsT
  simp only [List.length_append, List.length_cons, List.length_nil] at *
  omega
theorem line_len {c : ClD} (h : c.ok) : (lineT c).length ≤ 150 := by
  have := words_len h
  unfold lineT innT
  simp
  omega
/-- How many letters and things a configuration has. -/
def MpD.bulk (m : MpD) : Nat := m.name.length + m.cls.length + 1
def LkD.bulk (l : LkD) : Nat := l.peer.length + l.imp.length + l.exp.length + 1
def StD.bulk (s : StD) : Nat := s.via.length + 1
def RoD.bulk (r : RoD) : Nat := r.name.length + r.nets.length + (r.lks.map LkD.bulk).sum + (r.sts.map StD.bulk).sum + 1
def CfD.bulk (c : CfD) : Nat := (c.maps.map MpD.bulk).sum + (c.ros.map RoD.bulk).sum
theorem flat_len {α : Type} (f : α → Bs) (g : α → Nat) (k : Nat) : ∀ l : List α, (∀ x ∈ l, (f x).length ≤ k * g x) → (l.flatMap f).length ≤ k * (l.map g).sum
  | [], _ => by simp
  | x :: r, h => by
    have h1 := h x (List.mem_cons_self ..)
    have h2 := flat_len f g k r fun y hy => h y (List.mem_cons_of_mem _ hy)
    rw [List.flatMap_cons, List.length_append, List.map_cons, List.sum_cons, Nat.mul_add]
    omega
theorem sum_one {α : Type} (l : List α) : (l.map fun _ => 1).sum = l.length := by
  induction l with
  | nil => rfl
  | cons x r ih => simp [ih]; omega
theorem map_len {m : MpD} (h : m.ok) : (mapT m).length ≤ 200 * m.bulk := by
  have := flat_len lineT (fun _ => 1) 150 m.cls fun c hc => by have := line_len (h.h c hc); omega
  rw [sum_one] at this
  unfold mapT headT footT MpD.bulk
  simp only [List.length_append, List.length_cons, List.length_nil]
  omega
theorem link_len {l : LkD} (h : l.ok) : (linkT l).length ≤ 200 * l.bulk := by
  have h1 := itoa_len h.c0 h.c1
  have h2 := nm_len [105, 109, 112, 111, 114, 116] l.imp
  have h3 := nm_len [101, 120, 112, 111, 114, 116] l.exp
  unfold linkT linkW innT LkD.bulk
  simp only [List.length_append, List.length_cons, List.length_nil] at *
  omega
theorem stat_len {s : StD} (h : s.a < 4294967296) : (statT s).length ≤ 200 * s.bulk := by
  have h1 := pf_len s.a s.b h
  unfold statT innT StD.bulk
  simp only [List.length_append, List.length_cons, List.length_nil] at *
  omega
theorem net_len {p : Nat × Int} (h : p.1 < 4294967296) : (netT p).length ≤ 200 * 1 := by
  have h1 := pf_len p.1 p.2 h
  unfold netT innT
  simp only [List.length_append, List.length_cons, List.length_nil] at *
  omega
theorem rout_len {r : RoD} (h : r.ok) : (routT r).length ≤ 200 * r.bulk := by
  have h1 := flat_len netT (fun _ => 1) 200 r.nets fun p hp => net_len (h.n p hp)
  have h2 := flat_len linkT LkD.bulk 200 r.lks fun l hl => link_len (h.l l hl)
  have h3 := flat_len statT StD.bulk 200 r.sts fun s hs => stat_len (h.s s hs)
  rw [sum_one] at h1
  unfold routT headT footT RoD.bulk
  simp only [List.length_append, List.length_cons, List.length_nil]
  omega
theorem conf_len {c : CfD} (h : c.ok) : (confT c).length ≤ 200 * c.bulk := by
  have h1 := flat_len mapT MpD.bulk 200 c.maps fun m hm => map_len (h.m m hm)
  have h2 := flat_len routT RoD.bulk 200 c.ros fun r hr => rout_len (h.r r hr)
  unfold confT CfD.bulk
  rw [List.length_append]
  omega
end Go.Proofs.Ytphhfjfdanlhiaa
