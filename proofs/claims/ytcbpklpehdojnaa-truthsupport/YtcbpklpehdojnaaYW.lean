/- The nodes that a node leads to: plain mathematics. -/
import Derived.Test.YtcbpklpehdojnaaYV2
import Derived.Test.YtcbpklpehdojnaaRT
namespace Go.Proofs.Ytcbpklpehdojnaa

/-- A node leads to another one, in so many steps. -/
def rchN (ns : List Nd) : Nat → Int → Int → Prop
  | 0, _, _ => False
  | n + 1, k, x => (getN ns k).v < 1024 ∧ (x = k ∨ rchN ns n (getN ns k).lo x ∨ rchN ns n (getN ns k).hi x)
/-- A node leads to another one. -/
def Rch (ns : List Nd) (k x : Int) : Prop := ∃ n, rchN ns n k x
theorem Rch.self {ns : List Nd} {k : Int} (hv : (getN ns k).v < 1024) : Rch ns k k := ⟨1, hv, .inl rfl⟩
theorem Rch.lo {ns : List Nd} {k x : Int} (hv : (getN ns k).v < 1024) (h : Rch ns (getN ns k).lo x) : Rch ns k x := by
  obtain ⟨n, h⟩ := h
  exact ⟨n + 1, hv, .inr (.inl h)⟩
theorem Rch.hi {ns : List Nd} {k x : Int} (hv : (getN ns k).v < 1024) (h : Rch ns (getN ns k).hi x) : Rch ns k x := by
  obtain ⟨n, h⟩ := h
  exact ⟨n + 1, hv, .inr (.inr h)⟩
theorem Rch.ways {ns : List Nd} {k x : Int} (h : Rch ns k x) : (getN ns k).v < 1024 ∧ (x = k ∨ Rch ns (getN ns k).lo x ∨ Rch ns (getN ns k).hi x) := by
  obtain ⟨n, h⟩ := h
  cases n with
  | zero => exact absurd h id
  | succ n =>
    obtain ⟨hv, h1 | h1 | h1⟩ := h
    · exact ⟨hv, .inl h1⟩
    · exact ⟨hv, .inr (.inl ⟨n, h1⟩)⟩
    · exact ⟨hv, .inr (.inr ⟨n, h1⟩)⟩
/-- What holds of a node itself, and goes up from where it leads. -/
theorem Rch.ind {ns : List Nd} {C : Int → Int → Prop} (h1 : ∀ k, (getN ns k).v < 1024 → C k k) (h2 : ∀ k x, (getN ns k).v < 1024 → C (getN ns k).lo x → C k x) (h3 : ∀ k x, (getN ns k).v < 1024 → C (getN ns k).hi x → C k x) : ∀ {k x : Int}, Rch ns k x → C k x := by
  intro k x h
  obtain ⟨n, h⟩ := h
  induction n generalizing k with
  | zero => exact absurd h id
  | succ n ih =>
    obtain ⟨hv, h | h | h⟩ := h
    · rw [h]; exact h1 k hv
    · exact h2 k x hv (ih h)
    · exact h3 k x hv (ih h)
theorem Rch.asks {ns : List Nd} {k x : Int} (h : Rch ns k x) : (getN ns k).v < 1024 := h.ways.1
theorem rch_le {most : Int} {ns : List Nd} (hg : Good most ns) {k x : Int} (h : Rch ns k x) : x ≤ k ∧ 0 ≤ x := by
  refine Rch.ind (C := fun k x => x ≤ k ∧ 0 ≤ x) (fun k hv => ?_) (fun k x hv ih => ?_) (fun k x hv ih => ?_) h
  · obtain ⟨i, ei, _⟩ := asks hg hv
    omega
  · obtain ⟨i, ei, _, _, ⟨a, ea, la⟩, _⟩ := asks hg hv
    omega
  · obtain ⟨i, ei, _, _, _, ⟨a, ea, la⟩⟩ := asks hg hv
    omega
theorem rch_lt {most : Int} {ns : List Nd} (hg : Good most ns) {k : Int} (hv : (getN ns k).v < 1024) : (getN ns k).lo < k ∧ (getN ns k).hi < k ∧ 0 ≤ (getN ns k).lo ∧ 0 ≤ (getN ns k).hi ∧ 0 ≤ k ∧ In ns k ∧ In ns (getN ns k).lo ∧ In ns (getN ns k).hi := by
  obtain ⟨i, ei, h2, hl, ⟨a, ea, la⟩, ⟨b, eb, lb⟩⟩ := asks hg hv
  exact ⟨by omega, by omega, by omega, by omega, by omega, ⟨i, ei, hl⟩, ⟨a, ea, by omega⟩, ⟨b, eb, by omega⟩⟩
theorem rch_in {most : Int} {ns : List Nd} (hg : Good most ns) {k x : Int} (h : Rch ns k x) : In ns x :=
  Rch.ind (C := fun _ x => In ns x) (fun _ hv => (rch_lt hg hv).2.2.2.2.2.1) (fun _ _ _ ih => ih) (fun _ _ _ ih => ih) h

theorem visP_more {ns : List Nd} : ∀ (n : Nat) (k : Int) (S : List Int) (x : Int), x ∈ S → x ∈ visP ns n k S
  | 0, _, _, _, h => h
  | n + 1, k, S, x, h => by
    rw [visP]
    split
    · split
      · exact h
      · exact visP_more n _ _ x (visP_more n _ _ x (by simp [h]))
    · exact h
theorem visP_sub {ns : List Nd} : ∀ (n : Nat) (k : Int) (S : List Int) (x : Int), x ∈ visP ns n k S → x ∈ S ∨ Rch ns k x
  | 0, _, _, _, h => .inl h
  | n + 1, k, S, x, h => by
    rw [visP] at h
    split at h
    · rename_i hv
      split at h
      · exact .inl h
      · rcases visP_sub n _ _ x h with h1 | h1
        · rcases visP_sub n _ _ x h1 with h2 | h2
          · rcases List.mem_append.1 h2 with h3 | h3
            · exact .inl h3
            · rw [List.mem_singleton.1 h3]; exact .inr (.self hv)
          · exact .inr (.lo hv h2)
        · exact .inr (.hi hv h1)
    · exact .inl h
/-- What is seen below b has been gone through. -/
def Cl (ns : List Nd) (b : Int) (S : List Int) : Prop := ∀ s ∈ S, s < b → ∀ x, Rch ns s x → x ∈ S
theorem visP_all {most : Int} {ns : List Nd} (hg : Good most ns) : ∀ (n : Nat) (k : Int) (S : List Int) (b : Int), k.toNat < n → k < b → Cl ns b S → Cl ns b (visP ns n k S) ∧ ∀ x, Rch ns k x → x ∈ visP ns n k S
  | 0, _, _, _, h, _, _ => by omega
  | n + 1, k, S, b, hn, hb, hc => by
    rw [visP]
    by_cases hv : (getN ns k).v < 1024
    · rw [if_pos hv]
      by_cases hk : k ∈ S
      · rw [if_pos hk]
        exact ⟨hc, fun x hx => hc k hk hb x hx⟩
      · rw [if_neg hk]
        obtain ⟨l1, l2, l3, l4, l5, _⟩ := rch_lt hg hv
        have c1 : Cl ns k (S ++ [k]) := by
          intro s hs hlt x hx
          rcases List.mem_append.1 hs with h | h
          · exact List.mem_append.2 (.inl (hc s h (by omega) x hx))
          · have := List.mem_singleton.1 h
            omega
        obtain ⟨c2, r2⟩ := visP_all hg n (getN ns k).lo (S ++ [k]) k (by omega) l1 c1
        obtain ⟨c3, r3⟩ := visP_all hg n (getN ns k).hi _ k (by omega) l2 c2
        have rk : ∀ x, Rch ns k x → x ∈ visP ns n (getN ns k).hi (visP ns n (getN ns k).lo (S ++ [k])) := by
          intro x hx
          rcases hx.ways.2 with h | h | h
          · rw [h]; exact visP_more _ _ _ _ (visP_more _ _ _ _ (by simp))
          · exact visP_more _ _ _ _ (r2 x h)
          · exact r3 x h
        refine ⟨?_, rk⟩
        intro s hs hlt x hx
        rcases Int.lt_trichotomy s k with h | h | h
        · exact c3 s hs h x hx
        · subst h; exact rk x hx
        · rcases visP_sub _ _ _ _ hs with h1 | h1
          · rcases visP_sub _ _ _ _ h1 with h2 | h2
            · rcases List.mem_append.1 h2 with h3 | h3
              · exact visP_more _ _ _ _ (visP_more _ _ _ _ (by simp [hc s h3 hlt x hx]))
              · have := List.mem_singleton.1 h3
                omega
            · have := (rch_le hg h2).1
              omega
          · have := (rch_le hg h1).1
            omega
    · rw [if_neg hv]
      exact ⟨hc, fun x hx => absurd hx.asks hv⟩
theorem sees_mem {most : Int} {ns : List Nd} (hg : Good most ns) {k x : Int} : x ∈ seesP ns k ↔ Rch ns k x := by
  constructor
  · intro h
    rcases visP_sub _ _ _ _ h with h1 | h1
    · cases h1
    · exact h1
  · exact (visP_all hg (k.toNat + 1) k [] (k + 1) (by omega) (by omega) (fun s hs => by cases hs)).2 x
theorem visP_once {ns : List Nd} : ∀ (n : Nat) (k : Int) (S : List Int), S.Nodup → (visP ns n k S).Nodup
  | 0, _, _, h => h
  | n + 1, k, S, h => by
    rw [visP]
    split
    · split
      · exact h
      · rename_i hk
        refine visP_once n _ _ (visP_once n _ _ ?_)
        rw [List.nodup_append]
        exact ⟨h, by simp, fun a ha b hb e => hk (by rw [← List.mem_singleton.1 hb, ← e]; exact ha)⟩
    · exact h
theorem sees_once (ns : List Nd) (k : Int) : (seesP ns k).Nodup := visP_once _ _ _ List.nodup_nil

/-! ### Which variables are asked -/
theorem rch_var {most : Int} {ns : List Nd} (hg : Good most ns) {k x : Int} (h : Rch ns k x) : (getN ns k).v ≤ (getN ns x).v := by
  refine Rch.ind (C := fun k x => (getN ns k).v ≤ (getN ns x).v) (fun k hv => Int.le_refl _) (fun k x hv ih => ?_) (fun k x hv ih => ?_) h
  · obtain ⟨_, _, _, _, _, ⟨i, ei, hi⟩, _⟩ := rch_lt hg hv
    rw [ei, getN_in hi] at hv
    obtain ⟨_, _, ⟨a, ea, la, va⟩, _⟩ := asks_at hg hi hv
    rw [ei, getN_in hi] at ih ⊢
    rw [ea, getN_in (by omega)] at ih
    omega
  · obtain ⟨_, _, _, _, _, ⟨i, ei, hi⟩, _⟩ := rch_lt hg hv
    rw [ei, getN_in hi] at hv
    obtain ⟨_, _, _, ⟨a, ea, la, va⟩, _⟩ := asks_at hg hi hv
    rw [ei, getN_in hi] at ih ⊢
    rw [ea, getN_in (by omega)] at ih
    omega
theorem free_rch {most : Int} {ns : List Nd} (hg : Good most ns) {v : Int} (hlt : v < 1024) : ∀ (n : Nat) (k : Int), k.toNat < n → In ns k → ((¬ Free ns v k) ↔ ∃ x, Rch ns k x ∧ (getN ns x).v = v)
  | 0, _, h, _ => by omega
  | n + 1, k, hn, hk => by
    by_cases hv : (getN ns k).v < 1024
    · obtain ⟨l1, l2, l3, l4, l5, _, i1, i2⟩ := rch_lt hg hv
      have n1 : (getN ns k).lo.toNat < n := by clear hlt; omega
      have n2 : (getN ns k).hi.toNat < n := by clear hlt; omega
      rcases Int.lt_trichotomy (getN ns k).v v with h | h | h
      · have ha := free_rch hg hlt n (getN ns k).lo n1 i1
        have hb := free_rch hg hlt n (getN ns k).hi n2 i2
        rw [free_split hg hk h hlt]
        constructor
        · intro hf
          by_cases hl : Free ns v (getN ns k).lo
          · obtain ⟨x, h1, h2⟩ := hb.1 (fun hh => hf ⟨hl, hh⟩)
            exact ⟨x, .hi hv h1, h2⟩
          · obtain ⟨x, h1, h2⟩ := ha.1 hl
            exact ⟨x, .lo hv h1, h2⟩
        · rintro ⟨x, h1, h2⟩ ⟨f1, f2⟩
          rcases h1.ways.2 with h1 | h1 | h1
          · rw [h1] at h2; omega
          · exact ha.2 ⟨x, h1, h2⟩ f1
          · exact hb.2 ⟨x, h1, h2⟩ f2
      · exact ⟨fun _ => ⟨k, .self hv, h⟩, fun _ => free_at hg hk h hlt⟩
      · constructor
        · intro hf; exact absurd (free_behind hg hk h) hf
        · rintro ⟨x, h1, h2⟩
          have := rch_var hg h1
          omega
    · constructor
      · intro hf; exact absurd (free_behind hg hk (by omega)) hf
      · rintro ⟨x, h1, _⟩
        exact absurd h1.asks hv
theorem asked_is {most : Int} {ns : List Nd} (hg : Good most ns) {k : Int} (hk : In ns k) {v : Nat} (hlt : v < 1024) : askedB ((seesP ns k).map (getN ns)) v = true ↔ ¬ Free ns v k := by
  rw [free_rch hg (by omega) (k.toNat + 1) k (by omega) hk]
  unfold askedB
  rw [List.any_eq_true]
  constructor
  · rintro ⟨n, hn, hv⟩
    obtain ⟨x, hx, rfl⟩ := List.mem_map.1 hn
    exact ⟨x, (sees_mem hg).1 hx, by simpa using hv⟩
  · rintro ⟨x, hx, hv⟩
    exact ⟨getN ns x, List.mem_map.2 ⟨x, (sees_mem hg).2 hx, rfl⟩, by simpa using hv⟩
end Go.Proofs.Ytcbpklpehdojnaa
