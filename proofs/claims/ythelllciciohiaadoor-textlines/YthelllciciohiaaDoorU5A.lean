/- How many line feeds a configuration's text has. No program. -/
import Derived.Test.YthelllciciohiaaDoorUN
namespace Go.Proofs.YthelllciciohiaaDoor
open Go.Lib

/-- How often a text goes on to a new line. -/
def lf (l : Bs) : Nat := l.count 10
theorem lf_app (a b : Bs) : lf (a ++ b) = lf a + lf b := List.count_append
theorem lf_no {l : Bs} (h : (10 : UInt8) ∉ l) : lf l = 0 := List.count_eq_zero.2 h
theorem lf_flat {α : Type} (f : α → Bs) : ∀ (l : List α), (∀ x ∈ l, lf (f x) = 1) → lf (l.flatMap f) = l.length
  | [], _ => rfl
  | x :: r, h => by
    rw [List.flatMap_cons, lf_app, h x (List.mem_cons_self ..), lf_flat f r fun y hy => h y (List.mem_cons_of_mem _ hy), List.length_cons]
    omega
theorem dig_no : ∀ n : Nat, (10 : UInt8) ∉ decDigits n := by
  intro n
  induction n using Nat.strongRecOn with
  | _ n ih =>
    rw [decDigits]
    split
    · rename_i h
      intro hm
      rw [List.mem_singleton] at hm
      have := congrArg UInt8.toNat hm
      simp at this
      omega
    · intro hm
      rcases List.mem_append.1 hm with h | h
      · exact ih (n / 10) (by omega) h
      · rw [List.mem_singleton] at h
        have := congrArg UInt8.toNat h
        simp at this
        omega
theorem itoa_no (n : Int) : (10 : UInt8) ∉ itoa n := by
  unfold itoa
  split
  · intro h
    rcases List.mem_cons.1 h with h | h
    · cases h
    · exact dig_no _ h
  · exact dig_no _
theorem pf_no (a : Nat) (b : Int) : (10 : UInt8) ∉ pfT a b := by
  unfold pfT
  split
  · unfold textP
    simp only [List.mem_append, List.mem_singleton, not_or]
    refine ⟨⟨⟨⟨⟨⟨⟨⟨dig_no _, by decide⟩, dig_no _⟩, by decide⟩, dig_no _⟩, by decide⟩, dig_no _⟩, by decide⟩, dig_no _⟩
  · simp
theorem tagN_no (bits : Nat) : ∀ f k, f + k ≤ 4 → (10 : UInt8) ∉ tagN bits f k
  | 0, _, _ => by simp [tagN]
  | f + 1, k, h => by
    unfold tagN
    intro hm
    rcases List.mem_append.1 hm with h' | h'
    · split at h'
      · rcases List.mem_cons.1 h' with h' | h'
        · cases h'
        · rw [List.mem_singleton] at h'
          have := congrArg UInt8.toNat h'
          simp at this
          omega
      · cases h'
    · exact tagN_no bits f (k + 1) (by omega) h'
theorem tags_no {word : Bs} (h : (10 : UInt8) ∉ word) (bits : Nat) : (10 : UInt8) ∉ tagsT word bits := by
  have := tagN_no bits 4 0 (by omega)
  unfold tagsT
  split
  · simp
  · simp [h, this]
theorem num_no {word : Bs} (h : (10 : UInt8) ∉ word) (n : Int) : (10 : UInt8) ∉ numT word n := by
  have := itoa_no n
  unfold numT
  split
  · simp
  · simp [h, this]
theorem nm_no {word s : Bs} (h : (10 : UInt8) ∉ word) (hs : (10 : UInt8) ∉ s) : (10 : UInt8) ∉ nmT word s := by
  unfold nmT
  split
  · simp
  · simp [h, hs]
theorem words_no (c : ClD) : (10 : UInt8) ∉ wordsT c := by
  have h1 : (10 : UInt8) ∉ onT c := by
    unfold onT
    split
    · decide
    · exact pf_no _ _
  have h2 := tags_no (word := [119, 105, 116, 104]) (by decide) c.wi
  have h3 := tags_no (word := [111, 117, 116]) (by decide) c.ou
  have h4 : (10 : UInt8) ∉ dropT c := by unfold dropT; split <;> decide
  have h5 := tags_no (word := [115, 101, 116]) (by decide) c.se
  have h6 := tags_no (word := [99, 108, 101, 97, 114]) (by decide) c.cl
  have h7 := num_no (word := [109, 111, 114, 101]) (by decide) c.more
  have h8 := num_no (word := [112, 114, 101, 102]) (by decide) c.pref
  unfold wordsT
  simp only [List.mem_append, not_or]
  exact ⟨⟨⟨⟨⟨⟨⟨⟨⟨by decide, h1⟩, h2⟩, h3⟩, by decide⟩, h4⟩, h5⟩, h6⟩, h7⟩, h8⟩
theorem inn_lf {l : Bs} (h : (10 : UInt8) ∉ l) : lf (innT l) = 1 := by
  unfold innT
  rw [lf_app, lf_no (by simp [h])]
  rfl
theorem head_lf {kind name : Bs} (h : (10 : UInt8) ∉ kind) (hn : (10 : UInt8) ∉ name) : lf (headT kind name) = 1 := by
  unfold headT
  rw [lf_app, lf_no (by simp [h, hn])]
  rfl
/-- No name goes on to a new line. -/
structure MpD.flat (m : MpD) : Prop where
  n : (10 : UInt8) ∉ m.name
structure RoD.flat (r : RoD) : Prop where
  n : (10 : UInt8) ∉ r.name
  l : ∀ l ∈ r.lks, (10 : UInt8) ∉ l.peer ∧ (10 : UInt8) ∉ l.imp ∧ (10 : UInt8) ∉ l.exp
  s : ∀ s ∈ r.sts, (10 : UInt8) ∉ s.via
theorem map_lf {m : MpD} (h : m.flat) : lf (mapT m) = m.cls.length + 2 := by
  unfold mapT
  rw [lf_app, lf_app, head_lf (by decide) h.n, lf_flat lineT m.cls fun c _ => inn_lf (words_no c)]
  show 1 + m.cls.length + 1 = _
  omega
theorem link_lf {l : LkD} (h : (10 : UInt8) ∉ l.peer ∧ (10 : UInt8) ∉ l.imp ∧ (10 : UInt8) ∉ l.exp) : lf (linkT l) = 1 := by
  refine inn_lf ?_
  unfold linkW
  simp only [List.mem_append, not_or]
  exact ⟨⟨⟨⟨⟨by decide, h.1⟩, by decide⟩, itoa_no _⟩, nm_no (by decide) h.2.1⟩, nm_no (by decide) h.2.2⟩
theorem rout_lf {r : RoD} (h : r.flat) : lf (routT r) = r.nets.length + r.lks.length + r.sts.length + 2 := by
  unfold routT
  rw [lf_app, lf_app, lf_app, lf_app, head_lf (by decide) h.n, lf_flat netT r.nets fun p _ => inn_lf (by simp [pf_no]), lf_flat linkT r.lks fun l hl => link_lf (h.l l hl), lf_flat statT r.sts fun s hs => inn_lf (by simp [pf_no, h.s s hs])]
  show 1 + _ + _ + _ + 1 = _
  omega
def RoD.parts (r : RoD) : Nat := r.nets.length + r.lks.length + r.sts.length
theorem lf_sum {α : Type} (f : α → Bs) (g : α → Nat) : ∀ (l : List α), (∀ x ∈ l, lf (f x) = g x + 2) → lf (l.flatMap f) = (l.map g).sum + 2 * l.length
  | [], _ => rfl
  | x :: r, h => by
    rw [List.flatMap_cons, lf_app, h x (List.mem_cons_self ..), lf_sum f g r fun y hy => h y (List.mem_cons_of_mem _ hy), List.map_cons, List.sum_cons, List.length_cons]
    omega
/-- As many as there are lines. -/
theorem conf_lf {c : CfD} (hm : ∀ m ∈ c.maps, m.flat) (hr : ∀ r ∈ c.ros, r.flat) : lf (confT c) = 2 * c.maps.length + 2 * c.ros.length + (c.maps.map fun m => m.cls.length).sum + (c.ros.map RoD.parts).sum := by
  unfold confT
  rw [lf_app, lf_sum mapT (fun m => m.cls.length) c.maps fun m h => map_lf (hm m h), lf_sum routT RoD.parts c.ros fun r h => rout_lf (hr r h)]
  omega
/-- The last letter. -/
theorem flat_last {α : Type} (f : α → Bs) {a : UInt8} (hf : ∀ x, (f x).getLast? = some a) : ∀ (l : List α), l ≠ [] → (l.flatMap f).getLast? = some a
  | [x], _ => by simpa using hf x
  | x :: y :: r, _ => by
    rw [List.flatMap_cons, List.getLast?_append, flat_last f hf (y :: r) (by simp)]
    rfl
theorem map_last (m : MpD) : (mapT m).getLast? = some 10 := by
  unfold mapT
  rw [List.getLast?_append]
  rfl
theorem rout_last (r : RoD) : (routT r).getLast? = some 10 := by
  unfold routT
  rw [List.getLast?_append]
  rfl
theorem conf_last (c : CfD) (h : confT c ≠ []) : (confT c).getLast? = some 10 := by
  unfold confT at h ⊢
  rw [List.getLast?_append]
  by_cases h2 : c.ros = []
  · rw [h2] at h ⊢
    by_cases h1 : c.maps = []
    · rw [h1] at h
      exact absurd rfl h
    · rw [flat_last mapT map_last _ h1]
      rfl
  · rw [flat_last routT rout_last _ h2]
    rfl
theorem mapN_no {k : Nat} (h : k < 4) : (10 : UInt8) ∉ mapN k := by
  unfold mapN
  intro hm
  rcases List.mem_cons.1 hm with h' | h'
  · cases h'
  · rw [List.mem_singleton] at h'
    have := congrArg UInt8.toNat h'
    simp at this
    omega
theorem nameS_no {k : Nat} (h : k < 8) : (10 : UInt8) ∉ nameS k := by
  unfold nameS
  intro hm
  rcases List.mem_cons.1 hm with h' | h'
  · cases h'
  · rw [List.mem_singleton] at h'
    have := congrArg UInt8.toNat h'
    simp at this
    omega
theorem mapped_no (s : ShD) (v : Nat) : (10 : UInt8) ∉ mappedS s v := by
  unfold mappedS
  split
  · simp
  · rename_i h
    refine mapN_no (Nat.lt_of_lt_of_le (Nat.mod_lt _ ?_) (Nat.min_le_right _ _))
    omega
theorem conf_flat (s : ShD) : (∀ m ∈ (confS s).maps, m.flat) ∧ ∀ r ∈ (confS s).ros, r.flat := by
  refine ⟨fun m hm => ?_, fun r hr => ?_⟩
  · obtain ⟨k, rs, _, hk, rfl⟩ := mapsS_mem hm
    refine ⟨mapN_no ?_⟩
    simp at hk
    omega
  · obtain ⟨k, hk, rfl⟩ := rosS_mem hr
    have key : ∀ j l, j ≤ 8 → l ∈ linksS s (s.n % 8) k j → (10 : UInt8) ∉ l.peer ∧ (10 : UInt8) ∉ l.imp ∧ (10 : UInt8) ∉ l.exp := by
      intro j l hj hl
      obtain ⟨i, hi, rfl⟩ := linksS_mem hl
      exact ⟨nameS_no (by omega), mapped_no _ _, mapped_no _ _⟩
    refine ⟨nameS_no (by omega), fun l hl => key _ l (by omega) hl, fun x hx => ?_⟩
    have : x ∈ statS s (linksS s (s.n % 8) k (s.n % 8)) k := hx
    unfold statS at this
    split at this
    · rw [List.mem_singleton] at this
      subst this
      show (10 : UInt8) ∉ ((_ : Option LkD).map LkD.peer).getD []
      cases hl : (linksS s (s.n % 8) k (s.n % 8))[numS s.ways k / 8 % (linksS s (s.n % 8) k (s.n % 8)).length]? with
      | none => simp
      | some l => exact (key _ l (by omega) (List.mem_of_getElem? hl)).1
    · cases this
theorem lf_next {l : Bs} {k : Nat} (h : k < l.length) : lf (l.take (k + 1)) = lf (l.take k) + if l.getD k 0 = 10 then 1 else 0 := by
  rw [List.take_succ_eq_append_getElem h, lf_app, List.getD_eq_getElem?_getD, List.getElem?_eq_getElem h, Option.getD_some]
  congr 1
  show List.count 10 [l[k]] = _
  rw [List.count_singleton]
  simp only [beq_iff_eq]
theorem sum_mono {α : Type} (f g : α → Nat) : ∀ l : List α, (∀ x ∈ l, f x ≤ g x) → (l.map f).sum ≤ (l.map g).sum
  | [], _ => Nat.le_refl _
  | x :: r, h => by
    have h1 := h x (List.mem_cons_self ..)
    have h2 := sum_mono f g r fun y hy => h y (List.mem_cons_of_mem _ hy)
    rw [List.map_cons, List.sum_cons, List.map_cons, List.sum_cons]
    omega
theorem lf_le (l : Bs) : lf l ≤ l.length := List.count_le_length
theorem sum_next {α : Type} (g : α → Nat) {l : List α} {k : Nat} {x : α} (h : l[k]? = some x) : ((l.take (k + 1)).map g).sum = ((l.take k).map g).sum + g x := by
  have hk := (List.getElem?_eq_some_iff.1 h).1
  rw [List.take_succ_eq_append_getElem hk, List.map_append, List.sum_append]
  obtain rfl : l[k] = x := by rw [List.getElem?_eq_getElem hk] at h; exact Option.some.inj h
  simp
theorem last_at {l : Bs} (h : l.getLast? = some 10) : 0 < l.length ∧ l.getD (l.length - 1) 0 = 10 := by
  rw [List.getLast?_eq_getElem?] at h
  have := (List.getElem?_eq_some_iff.1 h).1
  exact ⟨by omega, by rw [List.getD_eq_getElem?_getD, h]; rfl⟩
end Go.Proofs.YthelllciciohiaaDoor
