/- Which names are left without a map; how a configuration is spoilt. Plain data, no program. -/
import Derived.Test.YtcjdjifooaeomaaDoorCC
namespace Go.Proofs.YtcjdjifooaeomaaDoor
open Go.Lib

/-- Without map k all names are there but that one's. -/
theorem less_mapped {c : CfD} (hd : dupR MpD.name [] c.maps = none) {k : Nat} {m : MpD} (hk : c.maps[k]? = some m) (hm : m.name ≠ []) {n : Bs} (hn : mappedR c n = true) : mappedR (lessC c k) n = true ↔ n ≠ m.name := by
  have hlt : k < c.maps.length := (List.getElem?_eq_some_iff.1 hk).1
  have e : c.maps = c.maps.take k ++ m :: c.maps.drop (k + 1) := by
    have h1 := List.take_append_drop k c.maps
    rw [List.drop_eq_getElem_cons hlt, (List.getElem?_eq_some_iff.1 hk).2] at h1
    exact h1.symm
  have hnd := (dup_nodup MpD.name c.maps [] hd).1
  rw [e, List.map_append, List.map_cons, List.nodup_append, List.nodup_cons] at hnd
  have hl : (lessC c k).maps = c.maps.take k ++ c.maps.drop (k + 1) := rfl
  unfold mappedR at hn ⊢
  rw [Bool.or_eq_true] at hn ⊢
  constructor
  · rintro (h | h) he
    · rw [decide_eq_true_eq] at h
      exact hm (he ▸ h)
    · obtain ⟨x, hx, hx2⟩ := List.any_eq_true.1 h
      rw [decide_eq_true_eq] at hx2
      rw [hl] at hx
      rcases List.mem_append.1 hx with hx | hx
      · exact hnd.2.2 _ (List.mem_map_of_mem hx) _ (List.mem_cons_self ..) (hx2.trans he)
      · exact hnd.2.1.1 (by rw [← he, ← hx2]; exact List.mem_map_of_mem hx)
  · intro hne
    rcases hn with h | h
    · exact .inl h
    · right
      obtain ⟨x, hx, hx2⟩ := List.any_eq_true.1 h
      rw [e] at hx
      refine List.any_eq_true.2 ⟨x, ?_, hx2⟩
      rw [hl]
      rw [decide_eq_true_eq] at hx2
      rcases List.mem_append.1 hx with hx | hx
      · exact List.mem_append.2 (.inl hx)
      · rcases List.mem_cons.1 hx with rfl | hx
        · exact absurd hx2.symm hne
        · exact List.mem_append.2 (.inr hx)
/-- A link names a map. -/
def namesL (n : Bs) (l : LkD) : Bool := decide (l.imp = n) || decide (l.exp = n)
def namesC (c : CfD) (n : Bs) : Bool := c.ros.any fun r => r.lks.any (namesL n)
theorem mapsS_at {s : ShD} {k : Nat} {m : MpD} (h : (confS s).maps[k]? = some m) : m.name = mapN k := by
  have h1 : ((confS s).maps.map MpD.name)[k]? = some m.name := by rw [List.getElem?_map, h]; rfl
  rw [show (confS s).maps.map MpD.name = (List.range' 0 (s.maps.take 4).length).map mapN from mapsS_names _ 0, List.getElem?_map] at h1
  obtain ⟨j, hj, he⟩ := Option.map_eq_some_iff.1 h1
  rw [List.getElem?_eq_some_iff] at hj
  obtain ⟨hj1, hj2⟩ := hj
  rw [List.getElem_range'] at hj2
  rw [← he, ← hj2]
  simp
/-- What CheckLess asks of the configuration without a map. -/
theorem less_said {s : ShD} {k : Nat} {m : MpD} (hk : (confS s).maps[k]? = some m) :
    (namesC (confS s) m.name = false ∧ wrongR (lessC (confS s) k) = none) ∨ (namesC (confS s) m.name = true ∧ ∃ p, wrongR (lessC (confS s) k) = some (3, p)) := by
  have hr := confS_right s
  have hd : dupR MpD.name [] (confS s).maps = none := by
    unfold wrongR at hr
    cases h1 : dupR MpD.name [] (confS s).maps with
    | some x => rw [h1] at hr; cases hr
    | none => rfl
  have hm : m.name ≠ [] := by rw [mapsS_at hk]; unfold mapN; simp
  have hmp : ∀ r ∈ (confS s).ros, ∀ l ∈ r.lks, mappedR (confS s) l.imp = true ∧ mappedR (confS s) l.exp = true := by
    intro r hr l hl
    obtain ⟨i, _, rfl⟩ := rosS_mem hr
    obtain ⟨j, _, rfl⟩ := linksS_mem (show l ∈ linksS s (s.n % 8) i (s.n % 8) from hl)
    exact ⟨mapped_fine s _, mapped_fine s _⟩
  rcases less_of hr k with ⟨h1, h2⟩ | ⟨h1, r, hr, l, hl, h2⟩
  · refine .inl ⟨?_, h1⟩
    cases hn : namesC (confS s) m.name with
    | false => rfl
    | true =>
      obtain ⟨r, hr, h3⟩ := List.any_eq_true.1 hn
      obtain ⟨l, hl, h4⟩ := List.any_eq_true.1 h3
      have h5 := hmp r hr l hl
      have h6 := h2 r hr l hl
      unfold namesL at h4
      rw [Bool.or_eq_true, decide_eq_true_eq, decide_eq_true_eq] at h4
      rcases h4 with h4 | h4
      · exact absurd h4 ((less_mapped hd hk hm h5.1).1 h6.1)
      · exact absurd h4 ((less_mapped hd hk hm h5.2).1 h6.2)
  · refine .inr ⟨?_, h1⟩
    have h5 := hmp r hr l hl
    refine List.any_eq_true.2 ⟨r, hr, List.any_eq_true.2 ⟨l, hl, ?_⟩⟩
    unfold namesL
    rw [Bool.or_eq_true, decide_eq_true_eq, decide_eq_true_eq]
    by_cases h6 : l.imp = m.name
    · exact .inl h6
    · by_cases h7 : l.exp = m.name
      · exact .inr h7
      · exact absurd ⟨(less_mapped hd hk hm h5.1).2 h6, (less_mapped hd hk hm h5.2).2 h7⟩ h2
/-- A link, a router, by their places. -/
def placeL (k : Nat) : Nat → List LkD → List LkD
  | _, [] => []
  | i, l :: r => ⟨l.peer, l.cost, l.imp, l.exp, ((200 + 10 * k + i : Nat) : Int)⟩ :: placeL k (i + 1) r
def placeR : Nat → List RoD → List RoD
  | _, [] => []
  | k, r :: rs => ⟨r.name, r.nets, placeL k 0 r.lks, r.sts, ((100 + k : Nat) : Int)⟩ :: placeR (k + 1) rs
/-- One router, spoilt. -/
def spoilR (first : Bs) (how which : Nat) (r : RoD) : RoD :=
  if how % 8 = 0 then ⟨first, r.nets, r.lks, r.sts, r.pl⟩
  else if how % 8 = 1 then ⟨r.name, r.nets, r.lks.drop 1, r.sts, r.pl⟩
  else if how % 8 = 2 then ⟨r.name, r.nets, r.lks ++ [⟨r.name, 1, [], [], 7⟩], r.sts, r.pl⟩
  else if how % 8 = 3 then ⟨r.name, r.nets, (match r.lks with | [] => [] | l :: ls => ⟨l.peer, l.cost, [120], l.exp, l.pl⟩ :: ls), r.sts, r.pl⟩
  else if how % 8 = 4 then ⟨r.name, r.nets ++ r.nets, r.lks, r.sts, r.pl⟩
  else if how % 8 = 5 then ⟨r.name, r.nets, r.lks, r.sts ++ [⟨0, 0, nameS (which / 8 % 8), 8⟩], r.pl⟩
  else if how % 8 = 6 then ⟨r.name, r.nets, r.lks, r.sts ++ r.sts, r.pl⟩
  else ⟨r.name, r.nets, r.lks ++ r.lks, r.sts, r.pl⟩
/-- A configuration, spoilt. -/
def spoilC (c : CfD) (how which : Nat) : CfD :=
  let rs := placeR 0 c.ros
  match rs.head? with
  | none => ⟨c.maps, []⟩
  | some f => ⟨c.maps, rs.modify (which % rs.length) (spoilR f.name how which)⟩
theorem placeL_len (k : Nat) : ∀ (l : List LkD) (i : Nat), (placeL k i l).length = l.length
  | [], _ => rfl
  | _ :: r, i => by rw [placeL, List.length_cons, placeL_len k r, List.length_cons]
theorem placeR_len : ∀ (l : List RoD) (k : Nat), (placeR k l).length = l.length
  | [], _ => rfl
  | _ :: r, k => by rw [placeR, List.length_cons, placeR_len r, List.length_cons]
theorem placeL_at (k : Nat) : ∀ (l : List LkD) (i j : Nat) (x : LkD), l[j]? = some x → (placeL k i l)[j]? = some ⟨x.peer, x.cost, x.imp, x.exp, ((200 + 10 * k + (i + j) : Nat) : Int)⟩
  | [], _, _, _, h => by simp at h
  | a :: r, i, 0, x, h => by
    obtain rfl : a = x := by simpa using h
    rfl
  | a :: r, i, j + 1, x, h => by
    have := placeL_at k r (i + 1) j x (by simpa using h)
    rw [placeL, List.getElem?_cons_succ, this, show i + 1 + j = i + (j + 1) by omega]
theorem placeR_at : ∀ (l : List RoD) (k j : Nat) (x : RoD), l[j]? = some x → (placeR k l)[j]? = some ⟨x.name, x.nets, placeL (k + j) 0 x.lks, x.sts, ((100 + (k + j) : Nat) : Int)⟩
  | [], _, _, _, h => by simp at h
  | a :: r, k, 0, x, h => by
    obtain rfl : a = x := by simpa using h
    rfl
  | a :: r, k, j + 1, x, h => by
    have := placeR_at r (k + 1) j x (by simpa using h)
    rw [placeR, List.getElem?_cons_succ, this, show k + 1 + j = k + (j + 1) by omega]
end Go.Proofs.YtcjdjifooaeomaaDoor
