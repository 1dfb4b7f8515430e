/- What is wrong first of a configuration, and where: plain data. No program. -/
import Derived.Test.YtcjdjifooaeomaaDoorUA
namespace Go.Proofs.YtcjdjifooaeomaaDoor
open Go.Lib

/-- The first whose key an earlier one has. -/
def dupR {α β : Type} [DecidableEq β] (key : α → β) : List β → List α → Option α
  | _, [] => none
  | seen, a :: r => if key a ∈ seen then some a else dupR key (seen ++ [key a]) r
/-- The first that has something to tell. -/
def firstR {α β : Type} (f : α → Option β) : List α → Option β
  | [] => none
  | a :: r => match f a with
    | some e => some e
    | none => firstR f r
def namedR (c : CfD) (n : Bs) : Option RoD := c.ros.find? fun r => decide (r.name = n)
def mappedR (c : CfD) (n : Bs) : Bool := decide (n = []) || c.maps.any fun m => decide (m.name = n)
/-- A link, where those links were ahead of it. -/
def linkR (c : CfD) (r : RoD) (seen : List Bs) (l : LkD) : Option (Nat × Int) :=
  match namedR c l.peer with
  | none => some (3, l.pl)
  | some p => if l.peer = r.name ∨ mappedR c l.imp = false ∨ mappedR c l.exp = false then some (3, l.pl) else if l.peer ∈ seen then some (4, l.pl) else if p.lks.any (fun x => decide (x.peer = r.name)) = true then none else some (5, l.pl)
def linksR (c : CfD) (r : RoD) : List Bs → List LkD → Option (Nat × Int)
  | _, [] => none
  | seen, l :: ls => match linkR c r seen l with
    | some e => some e
    | none => linksR c r (seen ++ [l.peer]) ls
def statR (r : RoD) (seen : List (Nat × Int)) (s : StD) : Option (Nat × Int) :=
  if r.lks.any (fun x => decide (x.peer = s.via)) = false then some (3, s.pl) else if (s.a, s.b) ∈ seen then some (4, s.pl) else none
def statsR (r : RoD) : List (Nat × Int) → List StD → Option (Nat × Int)
  | _, [] => none
  | seen, s :: ss => match statR r seen s with
    | some e => some e
    | none => statsR r (seen ++ [(s.a, s.b)]) ss
def routR (c : CfD) (r : RoD) : Option (Nat × Int) := match dupR id [] r.nets with
  | some _ => some (4, r.pl)
  | none => match linksR c r [] r.lks with
    | some e => some e
    | none => statsR r [] r.sts
def wrongR (c : CfD) : Option (Nat × Int) := match dupR MpD.name [] c.maps with
  | some m => some (4, m.pl)
  | none => match dupR RoD.name [] c.ros with
    | some r => some (4, r.pl)
    | none => firstR (routR c) c.ros
section
variable {α β : Type} [DecidableEq β]
/-- From a place on, the same. -/
theorem dup_at (key : α → β) (l : List α) (k : Nat) (a : α) (h : l[k]? = some a) : dupR key ((l.take k).map key) (l.drop k) = if key a ∈ (l.take k).map key then some a else dupR key ((l.take (k + 1)).map key) (l.drop (k + 1)) := by
  have hk : k < l.length := (List.getElem?_eq_some_iff.1 h).1
  have e : l[k] = a := (List.getElem?_eq_some_iff.1 h).2
  rw [List.drop_eq_getElem_cons hk, e, dupR, List.take_add_one, h]
  simp
theorem dup_end (key : α → β) (l : List α) : dupR key ((l.take l.length).map key) (l.drop l.length) = none := by
  rw [List.drop_length, dupR]
theorem first_at {γ : Type} (f : α → Option γ) (l : List α) (k : Nat) (a : α) (h : l[k]? = some a) : firstR f (l.drop k) = match f a with | some e => some e | none => firstR f (l.drop (k + 1)) := by
  have hk : k < l.length := (List.getElem?_eq_some_iff.1 h).1
  have e : l[k] = a := (List.getElem?_eq_some_iff.1 h).2
  rw [List.drop_eq_getElem_cons hk, e, firstR]
end
theorem links_at (c : CfD) (r : RoD) (ls : List LkD) (k : Nat) (l : LkD) (h : ls[k]? = some l) : linksR c r ((ls.take k).map LkD.peer) (ls.drop k) = match linkR c r ((ls.take k).map LkD.peer) l with | some e => some e | none => linksR c r ((ls.take (k + 1)).map LkD.peer) (ls.drop (k + 1)) := by
  have hk : k < ls.length := (List.getElem?_eq_some_iff.1 h).1
  have e : ls[k] = l := (List.getElem?_eq_some_iff.1 h).2
  rw [List.drop_eq_getElem_cons hk, e, linksR, List.take_add_one, h]
  simp
theorem stats_at (r : RoD) (ss : List StD) (k : Nat) (s : StD) (h : ss[k]? = some s) : statsR r ((ss.take k).map fun s => (s.a, s.b)) (ss.drop k) = match statR r ((ss.take k).map fun s => (s.a, s.b)) s with | some e => some e | none => statsR r ((ss.take (k + 1)).map fun s => (s.a, s.b)) (ss.drop (k + 1)) := by
  have hk : k < ss.length := (List.getElem?_eq_some_iff.1 h).1
  have e : ss[k] = s := (List.getElem?_eq_some_iff.1 h).2
  rw [List.drop_eq_getElem_cons hk, e, statsR, List.take_add_one, h]
  simp
/-- What is told is one of three kinds. -/
theorem wrong_kind {c : CfD} {e : Nat × Int} (h : wrongR c = some e) : e.1 = 3 ∨ e.1 = 4 ∨ e.1 = 5 := by
  have hl : ∀ (r : RoD) (ls : List LkD) (seen : List Bs), linksR c r seen ls = some e → e.1 = 3 ∨ e.1 = 4 ∨ e.1 = 5 := by
    intro r ls
    induction ls with
    | nil => intro seen h; cases h
    | cons l ls ih =>
      intro seen h
      rw [linksR] at h
      split at h
      · rename_i x hx
        cases h
        unfold linkR at hx
        split at hx
        · cases hx; exact .inl rfl
        · split at hx
          · cases hx; exact .inl rfl
          · split at hx
            · cases hx; exact .inr (.inl rfl)
            · split at hx
              · cases hx
              · cases hx; exact .inr (.inr rfl)
      · exact ih _ h
  have hs : ∀ (r : RoD) (ss : List StD) (seen : List (Nat × Int)), statsR r seen ss = some e → e.1 = 3 ∨ e.1 = 4 ∨ e.1 = 5 := by
    intro r ss
    induction ss with
    | nil => intro seen h; cases h
    | cons l ls ih =>
      intro seen h
      rw [statsR] at h
      split at h
      · rename_i x hx
        cases h
        unfold statR at hx
        split at hx
        · cases hx; exact .inl rfl
        · split at hx
          · cases hx; exact .inr (.inl rfl)
          · cases hx
      · exact ih _ h
  have hr : ∀ rs : List RoD, firstR (routR c) rs = some e → e.1 = 3 ∨ e.1 = 4 ∨ e.1 = 5 := by
    intro rs
    induction rs with
    | nil => intro h; cases h
    | cons r rs ih =>
      intro h
      rw [firstR] at h
      split at h
      · rename_i x hx
        cases h
        unfold routR at hx
        split at hx
        · cases hx; exact .inr (.inl rfl)
        · split at hx
          · rename_i y hy
            cases hx
            exact hl _ _ _ hy
          · exact hs _ _ _ hx
      · exact ih h
  unfold wrongR at h
  split at h
  · cases h; exact .inr (.inl rfl)
  · split at h
    · cases h; exact .inr (.inl rfl)
    · exact hr _ h
end Go.Proofs.YtcjdjifooaeomaaDoor
