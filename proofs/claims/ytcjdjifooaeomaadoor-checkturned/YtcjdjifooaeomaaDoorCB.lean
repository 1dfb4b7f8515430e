/- What numbers make is right. No program. -/
import Derived.Test.YtcjdjifooaeomaaDoorCA
import Derived.Test.YtcjdjifooaeomaaDoorUN
namespace Go.Proofs.YtcjdjifooaeomaaDoor
open Go.Lib

theorem dup_none {α β : Type} [DecidableEq β] (key : α → β) : ∀ (l : List α) (seen : List β), (seen ++ l.map key).Nodup → dupR key seen l = none
  | [], _, _ => rfl
  | a :: r, seen, h => by
    rw [List.map_cons] at h
    have h1 : key a ∉ seen := fun hs => by
      have := (List.nodup_append.1 h).2.2 _ hs _ (List.mem_cons_self ..)
      exact this rfl
    rw [dupR, if_neg h1]
    exact dup_none key r _ (by rw [List.append_assoc]; exact h)
theorem first_none {α β : Type} {f : α → Option β} : ∀ {l : List α}, (∀ a ∈ l, f a = none) → firstR f l = none
  | [], _ => rfl
  | a :: r, h => by rw [firstR, h a (List.mem_cons_self ..)]; exact first_none fun b hb => h b (List.mem_cons_of_mem _ hb)
structure LinkFine (c : CfD) (r : RoD) (l : LkD) : Prop where
  p : ∃ p, namedR c l.peer = some p ∧ p.lks.any (fun x => decide (x.peer = r.name)) = true
  o : l.peer ≠ r.name
  i : mappedR c l.imp = true
  e : mappedR c l.exp = true
theorem links_none {c : CfD} {r : RoD} : ∀ (ls : List LkD) (seen : List Bs), (seen ++ ls.map LkD.peer).Nodup → (∀ l ∈ ls, LinkFine c r l) → linksR c r seen ls = none
  | [], _, _, _ => rfl
  | l :: ls, seen, h, hf => by
    rw [List.map_cons] at h
    have h1 : l.peer ∉ seen := fun hs => by
      have := (List.nodup_append.1 h).2.2 _ hs _ (List.mem_cons_self ..)
      exact this rfl
    obtain ⟨⟨p, hp, hb⟩, ho, hi, he⟩ := hf l (List.mem_cons_self ..)
    have h2 : linkR c r seen l = none := by
      unfold linkR
      rw [hp]
      dsimp only
      rw [if_neg (by rw [hi, he]; simpa using ho), if_neg h1, if_pos hb]
    rw [linksR, h2]
    exact links_none ls _ (by rw [List.append_assoc]; exact h) fun x hx => hf x (List.mem_cons_of_mem _ hx)
theorem stats_none {r : RoD} : ∀ (ss : List StD) (seen : List (Nat × Int)), (seen ++ ss.map fun s => (s.a, s.b)).Nodup → (∀ s ∈ ss, r.lks.any (fun x => decide (x.peer = s.via)) = true) → statsR r seen ss = none
  | [], _, _, _ => rfl
  | s :: ss, seen, h, hf => by
    rw [List.map_cons] at h
    have h1 : (s.a, s.b) ∉ seen := fun hs => by
      have := (List.nodup_append.1 h).2.2 _ hs _ (List.mem_cons_self ..)
      exact this rfl
    have h2 : statR r seen s = none := by
      unfold statR
      rw [if_neg (by rw [hf s (List.mem_cons_self ..)]; simp), if_neg h1]
    rw [statsR, h2]
    exact stats_none ss _ (by rw [List.append_assoc]; exact h) fun x hx => hf x (List.mem_cons_of_mem _ hx)
theorem nameS_inj {a b : Nat} (ha : a < 100) (hb : b < 100) (h : nameS a = nameS b) : a = b := by
  unfold nameS at h
  injection h with _ h
  injection h with h _
  have := congrArg UInt8.toNat h
  simp at this
  omega
theorem mapN_inj {a b : Nat} (ha : a < 100) (hb : b < 100) (h : mapN a = mapN b) : a = b := by
  unfold mapN at h
  injection h with _ h
  injection h with h _
  have := congrArg UInt8.toNat h
  simp at this
  omega
theorem mapsS_names : ∀ (l : List (List RlD)) (i : Nat), (mapsS l i).map MpD.name = (List.range' i l.length).map mapN
  | [], _ => rfl
  | _ :: r, i => by rw [mapsS, List.map_cons, mapsS_names r (i + 1), List.length_cons, List.range'_succ, List.map_cons]
theorem map_nodup {α β : Type} {f : α → β} : ∀ {l : List α}, l.Nodup → (∀ a ∈ l, ∀ b ∈ l, f a = f b → a = b) → (l.map f).Nodup
  | [], _, _ => List.nodup_nil
  | a :: r, h, hf => by
    rw [List.map_cons, List.nodup_cons]
    rw [List.nodup_cons] at h
    refine ⟨fun hm => ?_, map_nodup h.2 fun x hx y hy => hf x (List.mem_cons_of_mem _ hx) y (List.mem_cons_of_mem _ hy)⟩
    obtain ⟨b, hb, he⟩ := List.mem_map.1 hm
    have := hf b (List.mem_cons_of_mem _ hb) a (List.mem_cons_self ..) he
    exact h.1 (this ▸ hb)
theorem rosS_names (s : ShD) (n : Nat) : ∀ k, (rosS s n k).map RoD.name = (List.range k).map nameS
  | 0 => rfl
  | k + 1 => by rw [rosS, List.map_append, rosS_names s n k, List.range_succ, List.map_append]; rfl
theorem named_at (s : ShD) (n : Nat) : ∀ (k j : Nat), j < k → k ≤ 100 → (rosS s n k).find? (fun r => decide (r.name = nameS j)) = some (routerS s n j)
  | 0, _, h, _ => by omega
  | k + 1, j, h, hk => by
    rw [rosS, List.find?_append]
    by_cases hj : j < k
    · rw [named_at s n k j hj (by omega)]
      rfl
    · obtain rfl : j = k := by omega
      have : (rosS s n j).find? (fun r => decide (r.name = nameS j)) = none := by
        rw [List.find?_eq_none]
        intro r hr
        obtain ⟨i, hi, rfl⟩ := rosS_mem hr
        simp only [decide_eq_true_eq]
        intro he
        have := nameS_inj (by omega) (by omega) he
        omega
      rw [this]
      simp [routerS]
/-- The peers of router k. -/
def peersS (s : ShD) (n k j : Nat) : List Nat := (List.range j).filter (isLink s n k)
theorem linksS_peers (s : ShD) (n k : Nat) : ∀ j, (linksS s n k j).map LkD.peer = (peersS s n k j).map nameS
  | 0 => rfl
  | j + 1 => by
    rw [linksS, List.map_append, linksS_peers s n k j]
    unfold peersS
    rw [List.range_succ, List.filter_append, List.map_append]
    congr 1
    by_cases h : isLink s n k j = true
    · rw [if_pos h, List.filter_cons, if_pos h]; rfl
    · rw [if_neg h, List.filter_cons, if_neg h]; rfl
theorem isLink_sym (s : ShD) (n k j : Nat) : isLink s n k j = isLink s n j k := by
  unfold isLink
  rw [Nat.min_comm j k, Nat.max_comm j k, show decide (j ≠ k) = decide (k ≠ j) from decide_eq_decide.2 ⟨Ne.symm, Ne.symm⟩, Bool.or_assoc, Bool.or_assoc, Bool.or_comm (decide (j = k + 1))]
theorem linksS_real {s : ShD} {n k : Nat} : ∀ {j : Nat} {l : LkD}, l ∈ linksS s n k j → ∃ i, i < j ∧ isLink s n k i = true ∧ l = linkS s n k i
  | 0, _, h => by cases h
  | j + 1, l, h => by
    rw [linksS] at h
    rcases List.mem_append.1 h with h | h
    · obtain ⟨i, h1, h2⟩ := linksS_real h
      exact ⟨i, by omega, h2⟩
    · split at h
      · rename_i hl
        rw [List.mem_singleton] at h
        exact ⟨j, by omega, hl, h⟩
      · cases h
theorem mapped_fine (s : ShD) (v : Nat) : mappedR (confS s) (mappedS s v) = true := by
  unfold mappedR mappedS
  split
  · simp
  · rename_i h
    have hm : 0 < min s.maps.length 4 := by omega
    have hlt := Nat.mod_lt (v / 3) hm
    have h1 : mapN (v / 3 % min s.maps.length 4) ∈ (mapsS (s.maps.take 4) 0).map MpD.name := by
      rw [mapsS_names, List.length_take, Nat.min_comm 4]
      refine List.mem_map_of_mem ?_
      rw [List.mem_range']
      exact ⟨_, hlt, by omega⟩
    obtain ⟨m, hm1, hm2⟩ := List.mem_map.1 h1
    rw [Bool.or_eq_true]
    refine .inr (List.any_eq_true.2 ⟨m, hm1, ?_⟩)
    rw [hm2]
    simp
theorem confS_right (s : ShD) : wrongR (confS s) = none := by
  have hn : s.n % 8 < 8 := Nat.mod_lt _ (by decide)
  have h1 : dupR MpD.name [] (confS s).maps = none := by
    refine dup_none _ _ _ ?_
    rw [List.nil_append]
    show ((mapsS (s.maps.take 4) 0).map MpD.name).Nodup
    rw [mapsS_names]
    refine map_nodup (List.nodup_range' ..) fun a ha b hb => ?_
    rw [List.mem_range'_1] at ha hb
    have hl : (s.maps.take 4).length ≤ 4 := by simp; omega
    exact mapN_inj (by omega) (by omega)
  have h2 : dupR RoD.name [] (confS s).ros = none := by
    refine dup_none _ _ _ ?_
    rw [List.nil_append]
    show ((rosS s (s.n % 8) (s.n % 8)).map RoD.name).Nodup
    rw [rosS_names]
    refine map_nodup List.nodup_range fun a ha b hb => ?_
    rw [List.mem_range] at ha hb
    exact nameS_inj (by omega) (by omega)
  unfold wrongR
  rw [h1, h2]
  refine first_none fun r hr => ?_
  obtain ⟨k, hk, rfl⟩ := rosS_mem hr
  have h3 : dupR id [] (routerS s (s.n % 8) k).nets = none := by
    refine dup_none _ _ _ ?_
    show ([] ++ (netsS s k).map id).Nodup
    unfold netsS
    split <;> simp
  have h4 : linksR (confS s) (routerS s (s.n % 8) k) [] (routerS s (s.n % 8) k).lks = none := by
    refine links_none _ _ ?_ fun l hl => ?_
    · rw [List.nil_append]
      show ((linksS s (s.n % 8) k (s.n % 8)).map LkD.peer).Nodup
      rw [linksS_peers]
      refine map_nodup (List.Pairwise.filter _ List.nodup_range) fun a ha b hb => ?_
      have ha' := List.mem_range.1 (List.mem_filter.1 ha).1
      have hb' := List.mem_range.1 (List.mem_filter.1 hb).1
      exact nameS_inj (by omega) (by omega)
    · obtain ⟨j, hj, hlk, rfl⟩ := linksS_real hl
      refine ⟨⟨routerS s (s.n % 8) j, named_at s _ _ j hj (by omega), ?_⟩, ?_, mapped_fine s _, mapped_fine s _⟩
      · have h5 : nameS k ∈ (linksS s (s.n % 8) j (s.n % 8)).map LkD.peer := by
          rw [linksS_peers]
          exact List.mem_map_of_mem (List.mem_filter.2 ⟨List.mem_range.2 hk, by rw [isLink_sym]; exact hlk⟩)
        obtain ⟨x, hx, he⟩ := List.mem_map.1 h5
        exact List.any_eq_true.2 ⟨x, hx, by rw [he]; simp [routerS]⟩
      · intro he
        have := nameS_inj (by omega) (by omega) he
        unfold isLink at hlk
        rw [this] at hlk
        simp at hlk
  have h5 : statsR (routerS s (s.n % 8) k) [] (routerS s (s.n % 8) k).sts = none := by
    refine stats_none _ _ ?_ fun x hx => ?_
    · show ([] ++ (statS s (linksS s (s.n % 8) k (s.n % 8)) k).map _).Nodup
      unfold statS
      split <;> simp
    · show (linksS s (s.n % 8) k (s.n % 8)).any _ = true
      have hx' : x ∈ statS s (linksS s (s.n % 8) k (s.n % 8)) k := hx
      unfold statS at hx'
      split at hx'
      · rename_i h6
        rw [List.mem_singleton] at hx'
        have h7 : numS s.ways k / 8 % (linksS s (s.n % 8) k (s.n % 8)).length < (linksS s (s.n % 8) k (s.n % 8)).length := Nat.mod_lt _ h6.2
        refine List.any_eq_true.2 ⟨_, List.getElem_mem h7, ?_⟩
        rw [hx', List.getElem?_eq_getElem h7]
        simp
      · cases hx'
  unfold routR
  rw [h3, h4, h5]
end Go.Proofs.YtcjdjifooaeomaaDoor
