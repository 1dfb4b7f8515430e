/- What numbers make, without links and ways, and without a map. No program. -/
import Derived.Test.YtcjdjifooaeomaaDoorCB
namespace Go.Proofs.YtcjdjifooaeomaaDoor
open Go.Lib

def bareC (c : CfD) : CfD := ⟨c.maps, c.ros.map fun r => ⟨r.name, r.nets, [], [], 0⟩⟩
def lessC (c : CfD) (k : Nat) : CfD := ⟨c.maps.take k ++ c.maps.drop (k + 1), c.ros⟩
theorem dup_nodup {α β : Type} [DecidableEq β] (key : α → β) : ∀ (l : List α) (seen : List β), dupR key seen l = none → (l.map key).Nodup ∧ ∀ x ∈ l.map key, x ∉ seen
  | [], _, _ => ⟨List.nodup_nil, fun x hx => by cases hx⟩
  | a :: r, seen, h => by
    rw [dupR] at h
    split at h
    · cases h
    · rename_i h1
      obtain ⟨h2, h3⟩ := dup_nodup key r _ h
      refine ⟨?_, fun x hx => ?_⟩
      · rw [List.map_cons, List.nodup_cons]
        exact ⟨fun hm => h3 _ hm (List.mem_append.2 (.inr (List.mem_singleton.2 rfl))), h2⟩
      · rw [List.map_cons] at hx
        rcases List.mem_cons.1 hx with rfl | hx
        · exact h1
        · exact fun hs => h3 x hx (List.mem_append.2 (.inl hs))
theorem bare_right {c : CfD} (h : wrongR c = none) : wrongR (bareC c) = none := by
  unfold wrongR at h
  cases h1 : dupR MpD.name [] c.maps with
  | some m => rw [h1] at h; cases h
  | none =>
    rw [h1] at h
    dsimp only at h
    cases h2 : dupR RoD.name [] c.ros with
    | some m => rw [h2] at h; cases h
    | none =>
      rw [h2] at h
      dsimp only at h
      have h3 : dupR RoD.name [] (bareC c).ros = none := by
        refine dup_none _ _ _ ?_
        rw [List.nil_append]
        show ((c.ros.map _).map RoD.name).Nodup
        rw [List.map_map]
        exact (dup_nodup RoD.name c.ros [] h2).1
      unfold wrongR
      rw [show (bareC c).maps = c.maps from rfl, h1, h3]
      dsimp only
      have key : ∀ rs : List RoD, firstR (routR c) rs = none → firstR (routR (bareC c)) (rs.map fun r => ⟨r.name, r.nets, [], [], 0⟩) = none := by
        intro rs
        induction rs with
        | nil => intro _; rfl
        | cons r rs ih =>
          intro h
          rw [firstR] at h
          cases h4 : routR c r with
          | some e => rw [h4] at h; cases h
          | none =>
            rw [h4] at h
            have h5 : routR (bareC c) ⟨r.name, r.nets, [], [], 0⟩ = none := by
              unfold routR at h4 ⊢
              cases h6 : dupR id [] r.nets with
              | some e => rw [h6] at h4; cases h4
              | none => rfl
            rw [List.map_cons, firstR, h5]
            exact ih h
      exact key _ h
theorem link_less {c c' : CfD} {r : RoD} {seen : List Bs} {l : LkD} (hn : ∀ n, namedR c' n = namedR c n) (h : linkR c r seen l = none) : linkR c' r seen l = if mappedR c' l.imp = true ∧ mappedR c' l.exp = true then none else some (3, l.pl) := by
  unfold linkR at h ⊢
  rw [hn]
  cases hp : namedR c l.peer with
  | none => rw [hp] at h; cases h
  | some p =>
    rw [hp] at h
    dsimp only at h ⊢
    split at h
    · cases h
    · rename_i h1
      have h2 : ¬ l.peer = r.name := fun he => h1 (.inl he)
      split at h
      · cases h
      · rename_i h3
        split at h
        · rename_i h4
          by_cases hm : mappedR c' l.imp = true ∧ mappedR c' l.exp = true
          · rw [if_pos hm, if_neg (by rw [hm.1, hm.2]; simpa using h2), if_neg h3, if_pos h4]
          · rw [if_neg hm, if_pos]
            rcases Decidable.not_and_iff_or_not.1 hm with h5 | h5
            · exact .inr (.inl (by simpa using h5))
            · exact .inr (.inr (by simpa using h5))
        · cases h
theorem links_less {c c' : CfD} {r : RoD} (hn : ∀ n, namedR c' n = namedR c n) : ∀ (ls : List LkD) (seen : List Bs), linksR c r seen ls = none →
    (linksR c' r seen ls = none ∧ ∀ l ∈ ls, mappedR c' l.imp = true ∧ mappedR c' l.exp = true) ∨ ((∃ p, linksR c' r seen ls = some (3, p)) ∧ ∃ l ∈ ls, ¬ (mappedR c' l.imp = true ∧ mappedR c' l.exp = true))
  | [], _, _ => .inl ⟨rfl, fun l hl => by cases hl⟩
  | l :: ls, seen, h => by
    rw [linksR] at h
    cases h1 : linkR c r seen l with
    | some e => rw [h1] at h; cases h
    | none =>
      rw [h1] at h
      have h2 := link_less hn h1
      by_cases hm : mappedR c' l.imp = true ∧ mappedR c' l.exp = true
      · rw [if_pos hm] at h2
        rw [linksR, h2]
        rcases links_less hn ls _ h with ⟨h3, h4⟩ | ⟨h3, x, hx, h4⟩
        · refine .inl ⟨h3, fun x hx => ?_⟩
          rcases List.mem_cons.1 hx with rfl | hx
          · exact hm
          · exact h4 x hx
        · exact .inr ⟨h3, x, List.mem_cons_of_mem _ hx, h4⟩
      · rw [if_neg hm] at h2
        rw [linksR, h2]
        exact .inr ⟨⟨l.pl, rfl⟩, l, List.mem_cons_self .., hm⟩
theorem rout_less {c c' : CfD} {r : RoD} (hn : ∀ n, namedR c' n = namedR c n) (h : routR c r = none) :
    (routR c' r = none ∧ ∀ l ∈ r.lks, mappedR c' l.imp = true ∧ mappedR c' l.exp = true) ∨ ((∃ p, routR c' r = some (3, p)) ∧ ∃ l ∈ r.lks, ¬ (mappedR c' l.imp = true ∧ mappedR c' l.exp = true)) := by
  unfold routR at h ⊢
  cases h1 : dupR id [] r.nets with
  | some e => rw [h1] at h; cases h
  | none =>
    rw [h1] at h
    dsimp only at h ⊢
    cases h2 : linksR c r [] r.lks with
    | some e => rw [h2] at h; cases h
    | none =>
      rw [h2] at h
      dsimp only at h
      rcases links_less hn r.lks [] h2 with ⟨h3, h4⟩ | ⟨⟨p, h3⟩, h4⟩
      · rw [h3]; exact .inl ⟨h, h4⟩
      · rw [h3]; exact .inr ⟨⟨p, rfl⟩, h4⟩
theorem first_less {c c' : CfD} (hn : ∀ n, namedR c' n = namedR c n) : ∀ rs : List RoD, firstR (routR c) rs = none →
    (firstR (routR c') rs = none ∧ ∀ r ∈ rs, ∀ l ∈ r.lks, mappedR c' l.imp = true ∧ mappedR c' l.exp = true) ∨ ((∃ p, firstR (routR c') rs = some (3, p)) ∧ ∃ r ∈ rs, ∃ l ∈ r.lks, ¬ (mappedR c' l.imp = true ∧ mappedR c' l.exp = true))
  | [], _ => .inl ⟨rfl, fun r hr => by cases hr⟩
  | r :: rs, h => by
    rw [firstR] at h
    cases h1 : routR c r with
    | some e => rw [h1] at h; cases h
    | none =>
      rw [h1] at h
      rcases rout_less hn h1 with ⟨h2, h3⟩ | ⟨⟨p, h2⟩, h3⟩
      · rw [firstR, h2]
        rcases first_less hn rs h with ⟨h4, h5⟩ | ⟨h4, x, hx, h5⟩
        · refine .inl ⟨h4, fun x hx => ?_⟩
          rcases List.mem_cons.1 hx with rfl | hx
          · exact h3
          · exact h5 x hx
        · exact .inr ⟨h4, x, List.mem_cons_of_mem _ hx, h5⟩
      · rw [firstR, h2]
        exact .inr ⟨⟨p, rfl⟩, r, List.mem_cons_self .., h3⟩
/-- Without a map: right, if no link names it; else a name is wrong. -/
theorem less_of {c : CfD} (h : wrongR c = none) (k : Nat) :
    (wrongR (lessC c k) = none ∧ ∀ r ∈ c.ros, ∀ l ∈ r.lks, mappedR (lessC c k) l.imp = true ∧ mappedR (lessC c k) l.exp = true) ∨
      ((∃ p, wrongR (lessC c k) = some (3, p)) ∧ ∃ r ∈ c.ros, ∃ l ∈ r.lks, ¬ (mappedR (lessC c k) l.imp = true ∧ mappedR (lessC c k) l.exp = true)) := by
  unfold wrongR at h
  cases h1 : dupR MpD.name [] c.maps with
  | some m => rw [h1] at h; cases h
  | none =>
    rw [h1] at h
    dsimp only at h
    cases h2 : dupR RoD.name [] c.ros with
    | some m => rw [h2] at h; cases h
    | none =>
      rw [h2] at h
      dsimp only at h
      have h3 : dupR MpD.name [] (lessC c k).maps = none := by
        refine dup_none _ _ _ ?_
        rw [List.nil_append]
        have h4 := (dup_nodup MpD.name c.maps [] h1).1
        have h5 : (c.maps.take k ++ c.maps.drop (k + 1)).Sublist c.maps := by
          have e := List.take_append_drop k c.maps
          have : (c.maps.drop (k + 1)).Sublist (c.maps.drop k) := by
            rw [← List.drop_drop]
            exact List.drop_sublist ..
          exact (List.Sublist.append (List.Sublist.refl _) this).trans (by rw [e]; exact List.Sublist.refl _)
        exact h4.sublist (h5.map _)
      unfold wrongR
      rw [h3, show (lessC c k).ros = c.ros from rfl, h2]
      exact first_less (c := c) (c' := lessC c k) (fun _ => rfl) _ h
end Go.Proofs.YtcjdjifooaeomaaDoor
