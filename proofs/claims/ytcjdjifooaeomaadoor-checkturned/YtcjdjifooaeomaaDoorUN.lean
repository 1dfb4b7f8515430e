/- Configurations by numbers: plain data, and the law's small functions. -/
import Derived.Test.YtcjdjifooaeomaaDoorUK
import Derived.Test.YtcjdjifooaeomaaDoorUJ0
namespace Go.Proofs.YtcjdjifooaeomaaDoor
open Go.RowKit Go.Lib

/-- A configuration by numbers. -/
structure ShD where
  n : Nat
  links : List Nat
  maps : List (List RlD)
  names : List Nat
  nets : List Nat
  ways : List Nat
def numS (l : List Nat) (k : Nat) : Nat := l.getD (k % l.length) 0
def nameS (k : Nat) : Bs := [114, UInt8.ofNat (97 + k)]
def mapN (k : Nat) : Bs := [109, UInt8.ofNat (97 + k)]
def mappedS (s : ShD) (v : Nat) : Bs := if min s.maps.length 4 = 0 ∨ 0 < v % 3 then [] else mapN (v / 3 % min s.maps.length 4)
def clausesS (rs : List RlD) : List ClD := (rs.take 5).map ruleC
def mapsS : List (List RlD) → Nat → List MpD
  | [], _ => []
  | rs :: r, k => ⟨mapN k, clausesS rs, 0⟩ :: mapsS r (k + 1)
/-- Is there a link, and which. -/
def isLink (s : ShD) (n k j : Nat) : Bool := decide (j ≠ k) && (decide (0 < numS s.links (min j k * n + max j k) % 3) || decide (j = k + 1) || decide (k = j + 1))
def linkS (s : ShD) (n k j : Nat) : LkD :=
  ⟨nameS j, ((1 + numS s.links (min j k * n + max j k) / 3 % 3 : Nat) : Int), mappedS s (numS s.names (k * n + j)), mappedS s (numS s.names (k * n + j) / 12), 0⟩
/-- The links of router k to routers below j. -/
def linksS (s : ShD) (n k : Nat) : Nat → List LkD
  | 0 => []
  | j + 1 => linksS s n k j ++ (if isLink s n k j = true then [linkS s n k j] else [])
def netsS (s : ShD) (k : Nat) : List (Nat × Int) := if k = 0 ∨ numS s.nets k % 4 = 0 then [(mkA (numS s.nets k), (mkB (numS s.nets k) : Int))] else []
def statS (s : ShD) (ls : List LkD) (k : Nat) : List StD :=
  if numS s.ways k % 5 = 4 ∧ 0 < ls.length then [⟨mkA (numS s.ways k), (mkB (numS s.ways k) : Int), ((ls[numS s.ways k / 8 % ls.length]?).map LkD.peer).getD [], 0⟩] else []
def routerS (s : ShD) (n k : Nat) : RoD := ⟨nameS k, netsS s k, linksS s n k n, statS s (linksS s n k n) k, 0⟩
def rosS (s : ShD) (n : Nat) : Nat → List RoD
  | 0 => []
  | k + 1 => rosS s n k ++ [routerS s n k]
/-- The configuration. -/
def confS (s : ShD) : CfD := ⟨mapsS (s.maps.take 4) 0, rosS s (s.n % 8) (s.n % 8)⟩
structure ShD.ok (s : ShD) : Prop where
  n : s.n < 256
  l : ∀ x ∈ s.links, x < 256
  m : ∀ rs ∈ s.maps, ∀ r ∈ rs, r.ok
  a : ∀ x ∈ s.names, x < 256
  t : ∀ x ∈ s.nets, x < 256
  w : ∀ x ∈ s.ways, x < 256
theorem numS_lt {l : List Nat} (h : ∀ x ∈ l, x < 256) (k : Nat) : numS l k < 256 := by
  unfold numS
  cases hl : l[k % l.length]? with
  | none => rw [List.getD_eq_getElem?_getD, hl]; decide
  | some x => rw [List.getD_eq_getElem?_getD, hl]; exact h x (List.mem_of_getElem? hl)
theorem mapsS_next : ∀ (l : List (List RlD)) (i k : Nat) (rs : List RlD), l[k]? = some rs → mapsS (l.take k) i ++ [⟨mapN (i + k), clausesS rs, 0⟩] = mapsS (l.take (k + 1)) i
  | [], _, _, _, h => by simp at h
  | a :: r, i, 0, rs, h => by
    obtain rfl : a = rs := by simpa using h
    simp [mapsS]
  | a :: r, i, k + 1, rs, h => by
    have := mapsS_next r (i + 1) k rs (by simpa using h)
    rw [List.take_succ_cons, mapsS, List.cons_append]
    rw [show i + (k + 1) = i + 1 + k by omega, this, List.take_succ_cons, mapsS]
theorem mapsS_len : ∀ (l : List (List RlD)) (i : Nat), (mapsS l i).length = l.length
  | [], _ => rfl
  | _ :: r, i => by rw [mapsS, List.length_cons, mapsS_len r]; rfl
theorem rosS_len (s : ShD) (n : Nat) : ∀ k, (rosS s n k).length = k
  | 0 => rfl
  | k + 1 => by rw [rosS, List.length_append, rosS_len s n k]; rfl
theorem linksS_len (s : ShD) (n k : Nat) : ∀ j, (linksS s n k j).length ≤ j
  | 0 => Nat.le_refl _
  | j + 1 => by
    have := linksS_len s n k j
    rw [linksS, List.length_append]
    split <;> simp <;> omega
theorem clausesS_len (rs : List RlD) : (clausesS rs).length ≤ 5 := by unfold clausesS; simp; omega
/-- What numbers make may be. -/
theorem clausesS_ok {rs : List RlD} (h : ∀ r ∈ rs, r.ok) : ∀ c ∈ clausesS rs, c.ok ∧ -9223372036854775807 ≤ c.more ∧ -9223372036854775807 ≤ c.pref := by
  intro c hc
  obtain ⟨r, hr, rfl⟩ := List.mem_map.1 hc
  exact ⟨ruleC_ok (h r (List.mem_of_mem_take hr)), ruleC_far r⟩
theorem mapsS_mem : ∀ {l : List (List RlD)} {i : Nat} {m : MpD}, m ∈ mapsS l i → ∃ k rs, rs ∈ l ∧ k < i + l.length ∧ m = ⟨mapN k, clausesS rs, 0⟩
  | [], _, _, h => by cases h
  | rs :: r, i, m, h => by
    rw [mapsS] at h
    rcases List.mem_cons.1 h with rfl | h
    · exact ⟨i, rs, List.mem_cons_self .., by simp, rfl⟩
    · obtain ⟨k, rs', h1, h2, h3⟩ := mapsS_mem h
      exact ⟨k, rs', List.mem_cons_of_mem _ h1, by simp; omega, h3⟩
theorem linksS_mem {s : ShD} {n k : Nat} : ∀ {j : Nat} {l : LkD}, l ∈ linksS s n k j → ∃ i, i < j ∧ l = linkS s n k i
  | 0, _, h => by cases h
  | j + 1, l, h => by
    rw [linksS] at h
    rcases List.mem_append.1 h with h | h
    · obtain ⟨i, h1, h2⟩ := linksS_mem h
      exact ⟨i, by omega, h2⟩
    · split at h
      · rw [List.mem_singleton] at h
        exact ⟨j, by omega, h⟩
      · cases h
theorem rosS_mem {s : ShD} {n : Nat} : ∀ {k : Nat} {r : RoD}, r ∈ rosS s n k → ∃ i, i < k ∧ r = routerS s n i
  | 0, _, h => by cases h
  | k + 1, r, h => by
    rw [rosS] at h
    rcases List.mem_append.1 h with h | h
    · obtain ⟨i, h1, h2⟩ := rosS_mem h
      exact ⟨i, by omega, h2⟩
    · rw [List.mem_singleton] at h
      exact ⟨k, by omega, h⟩
theorem linkS_ok {s : ShD} (n k j : Nat) : (linkS s n k j).ok ∧ -9223372036854775807 ≤ (linkS s n k j).cost := by
  unfold linkS
  exact ⟨⟨by dsimp only; omega, by dsimp only; omega⟩, by dsimp only; omega⟩
theorem confS_ok {s : ShD} (h : s.ok) : (confS s).ok ∧ (confS s).far := by
  refine ⟨⟨?_, ?_⟩, ⟨?_, ?_⟩⟩
  · intro m hm
    obtain ⟨k, rs, h1, _, rfl⟩ := mapsS_mem hm
    exact ⟨fun c hc => (clausesS_ok (h.m rs (List.mem_of_mem_take h1)) c hc).1⟩
  · intro r hr
    obtain ⟨k, hk, rfl⟩ := rosS_mem hr
    refine ⟨?_, ?_, ?_⟩
    · intro p hp
      have : p ∈ netsS s k := hp
      unfold netsS at this
      split at this
      · rw [List.mem_singleton] at this
        subst this
        exact mkA_lt (numS_lt h.t k)
      · cases this
    · intro l hl
      obtain ⟨i, _, rfl⟩ := linksS_mem (show l ∈ linksS s _ k _ from hl)
      exact (linkS_ok _ _ _).1
    · intro x hx
      have : x ∈ statS s (linksS s (s.n % 8) k (s.n % 8)) k := hx
      unfold statS at this
      split at this
      · rw [List.mem_singleton] at this
        subst this
        exact mkA_lt (numS_lt h.w k)
      · cases this
  · intro m hm x hx
    obtain ⟨k, rs, h1, _, rfl⟩ := mapsS_mem hm
    exact (clausesS_ok (h.m rs (List.mem_of_mem_take h1)) x hx).2
  · intro r hr l hl
    obtain ⟨k, hk, rfl⟩ := rosS_mem hr
    obtain ⟨i, _, rfl⟩ := linksS_mem (show l ∈ linksS s _ k _ from hl)
    exact (linkS_ok _ _ _).2
theorem mapped_len (s : ShD) (v : Nat) : (mappedS s v).length ≤ 2 := by
  unfold mappedS mapN
  split <;> simp
theorem sum_le {α : Type} (g : α → Nat) (b : Nat) : ∀ l : List α, (∀ x ∈ l, g x ≤ b) → (l.map g).sum ≤ l.length * b
  | [], _ => by simp
  | x :: r, h => by
    have h1 := h x (List.mem_cons_self ..)
    have h2 := sum_le g b r fun y hy => h y (List.mem_cons_of_mem _ hy)
    rw [List.map_cons, List.sum_cons, List.length_cons, Nat.succ_mul]
    omega
theorem link_bulk {s : ShD} (n k j : Nat) : (linkS s n k j).bulk ≤ 10 := by
  have h1 := mapped_len s (numS s.names (k * n + j))
  have h2 := mapped_len s (numS s.names (k * n + j) / 12)
  unfold linkS LkD.bulk
  simp only [nameS, List.length_cons, List.length_nil]
  omega
theorem links_bulk (s : ShD) (n k j : Nat) (hj : j ≤ 7) : ((linksS s n k j).map LkD.bulk).sum ≤ 70 := by
  have h1 := sum_le LkD.bulk 10 (linksS s n k j) fun x hx => by
    obtain ⟨i, _, rfl⟩ := linksS_mem hx
    exact link_bulk _ _ _
  have h2 := linksS_len s n k j
  omega
theorem router_bulk (s : ShD) (n k : Nat) (hn : n ≤ 7) : (routerS s n k).bulk ≤ 100 := by
  have h1 := links_bulk s n k n hn
  have h2 : (netsS s k).length ≤ 1 := by unfold netsS; split <;> simp
  have h3 : ((statS s (linksS s n k n) k).map StD.bulk).sum ≤ 3 := by
    unfold statS
    split
    · have : (((linksS s n k n)[numS s.ways k / 8 % (linksS s n k n).length]?).map LkD.peer).getD [] = [] ∨ ∃ i, (((linksS s n k n)[numS s.ways k / 8 % (linksS s n k n).length]?).map LkD.peer).getD [] = nameS i := by
        cases hl : (linksS s n k n)[numS s.ways k / 8 % (linksS s n k n).length]? with
        | none => exact .inl rfl
        | some l =>
          obtain ⟨i, _, rfl⟩ := linksS_mem (List.mem_of_getElem? hl)
          exact .inr ⟨i, rfl⟩
      rcases this with h | ⟨i, h⟩
      · simp [StD.bulk, h]
      · simp [StD.bulk, h, nameS]
    · simp
  unfold routerS RoD.bulk
  simp only [nameS, List.length_cons, List.length_nil]
  omega
theorem confS_bulk (s : ShD) : (confS s).bulk ≤ 1000 := by
  have h1 := sum_le MpD.bulk 8 (mapsS (s.maps.take 4) 0) fun m hm => by
    obtain ⟨k, rs, _, _, rfl⟩ := mapsS_mem hm
    have := clausesS_len rs
    unfold MpD.bulk
    simp only [mapN, List.length_cons, List.length_nil]
    omega
  have h2 := sum_le RoD.bulk 100 (rosS s (s.n % 8) (s.n % 8)) fun r hr => by
    obtain ⟨k, _, rfl⟩ := rosS_mem hr
    exact router_bulk _ _ _ (by omega)
  rw [mapsS_len] at h1
  rw [rosS_len] at h2
  have h3 : (s.maps.take 4).length ≤ 4 := by simp; omega
  unfold confS CfD.bulk
  dsimp only
  omega
end Go.Proofs.YtcjdjifooaeomaaDoor
