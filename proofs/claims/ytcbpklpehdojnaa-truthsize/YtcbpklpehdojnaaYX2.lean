/- As many nodes as unlike parts: plain mathematics. -/
import Derived.Test.YtcbpklpehdojnaaYX
namespace Go.Proofs.Ytcbpklpehdojnaa

/-- Part i of a table, of 2^d rows. -/
def partN (bits d i : Nat) : Nat := bits / 2 ^ (i * 2 ^ d) % 2 ^ (2 ^ d)
theorem part_lt (bits d i : Nat) : partN bits d i < 2 ^ (2 ^ d) := Nat.mod_lt _ (Nat.pow_pos (by decide))
theorem part_test (bits d i r : Nat) (hr : r < 2 ^ d) : (partN bits d i).testBit r = bits.testBit (i * 2 ^ d + r) := by
  rw [partN, Nat.testBit_mod_two_pow, ← Nat.shiftRight_eq_div_pow, Nat.testBit_shiftRight]
  simp [hr]
theorem part_eq (bits d i i' : Nat) : partN bits d i = partN bits d i' ↔ ∀ r, r < 2 ^ d → bits.testBit (i * 2 ^ d + r) = bits.testBit (i' * 2 ^ d + r) := by
  constructor
  · intro h r hr
    rw [← part_test bits d i r hr, h, part_test bits d i' r hr]
  · intro h
    apply Nat.eq_of_testBit_eq
    intro r
    rcases Nat.lt_or_ge r (2 ^ d) with hr | hr
    · rw [part_test bits d i r hr, part_test bits d i' r hr, h r hr]
    · rw [Nat.testBit_lt_two_pow (Nat.lt_of_lt_of_le (part_lt bits d i) (Nat.pow_le_pow_right (by decide) hr)), Nat.testBit_lt_two_pow (Nat.lt_of_lt_of_le (part_lt bits d i') (Nat.pow_le_pow_right (by decide) hr))]
/-- A part's halves are unlike. -/
def unlikeB (d q : Nat) : Bool := q % 2 ^ (2 ^ d) != q / 2 ^ (2 ^ d)
theorem unlike_is (bits d i : Nat) : unlikeB d (partN bits (d + 1) i) = true ↔ ¬ ∀ r, r < 2 ^ d → bits.testBit (i * 2 ^ (d + 1) + r) = bits.testBit (i * 2 ^ (d + 1) + 2 ^ d + r) := by
  have hp : 2 ^ (d + 1) = 2 ^ d + 2 ^ d := by rw [Nat.pow_succ]; omega
  have lo : ∀ r, r < 2 ^ d → (partN bits (d + 1) i % 2 ^ (2 ^ d)).testBit r = bits.testBit (i * 2 ^ (d + 1) + r) := fun r hr => by
    rw [Nat.testBit_mod_two_pow, part_test bits (d + 1) i r (by omega)]
    simp [hr]
  have hi : ∀ r, r < 2 ^ d → (partN bits (d + 1) i / 2 ^ (2 ^ d)).testBit r = bits.testBit (i * 2 ^ (d + 1) + 2 ^ d + r) := fun r hr => by
    rw [← Nat.shiftRight_eq_div_pow, Nat.testBit_shiftRight, part_test bits (d + 1) i (2 ^ d + r) (by omega), Nat.add_assoc]
  have l1 : partN bits (d + 1) i % 2 ^ (2 ^ d) < 2 ^ (2 ^ d) := Nat.mod_lt _ (Nat.pow_pos (by decide))
  have l2 : partN bits (d + 1) i / 2 ^ (2 ^ d) < 2 ^ (2 ^ d) := by
    have := part_lt bits (d + 1) i
    rw [hp, Nat.pow_add] at this
    exact Nat.div_lt_of_lt_mul this
  unfold unlikeB
  rw [bne_iff_ne]
  constructor
  · intro h hs
    refine h (Nat.eq_of_testBit_eq fun r => ?_)
    rcases Nat.lt_or_ge r (2 ^ d) with hr | hr
    · rw [lo r hr, hi r hr, hs r hr]
    · rw [Nat.testBit_lt_two_pow (Nat.lt_of_lt_of_le l1 (Nat.pow_le_pow_right (by decide) hr)), Nat.testBit_lt_two_pow (Nat.lt_of_lt_of_le l2 (Nat.pow_le_pow_right (by decide) hr))]
  · intro h e
    exact h (fun r hr => by rw [← lo r hr, ← hi r hr, e])

/-- The unlike parts among the first j, each once. -/
def seenL (bits d : Nat) : Nat → List Nat
  | 0 => []
  | j + 1 => if unlikeB d (partN bits (d + 1) j) = true ∧ partN bits (d + 1) j ∉ seenL bits d j then seenL bits d j ++ [partN bits (d + 1) j] else seenL bits d j
theorem seenL_once (bits d : Nat) : ∀ j, (seenL bits d j).Nodup
  | 0 => List.nodup_nil
  | j + 1 => by
    rw [seenL]
    split
    · rename_i h
      rw [List.nodup_append]
      exact ⟨seenL_once bits d j, by simp, fun a ha b hb e => h.2 (by rw [← List.mem_singleton.1 hb, ← e]; exact ha)⟩
    · exact seenL_once bits d j
theorem seenL_mem (bits d : Nat) : ∀ j q, q ∈ seenL bits d j ↔ ∃ i, i < j ∧ q = partN bits (d + 1) i ∧ unlikeB d q = true
  | 0, q => by
    constructor
    · intro h; cases h
    · rintro ⟨i, h, _⟩; omega
  | j + 1, q => by
    rw [seenL]
    have ih := seenL_mem bits d j
    constructor
    · intro h
      split at h
      · rename_i hc
        rcases List.mem_append.1 h with h1 | h1
        · obtain ⟨i, h2, h3⟩ := (ih q).1 h1
          exact ⟨i, by omega, h3⟩
        · rw [List.mem_singleton] at h1
          exact ⟨j, by omega, h1, h1 ▸ hc.1⟩
      · obtain ⟨i, h2, h3⟩ := (ih q).1 h
        exact ⟨i, by omega, h3⟩
    · rintro ⟨i, h1, h2, h3⟩
      rcases (by omega : i < j ∨ i = j) with h | rfl
      · have := (ih q).2 ⟨i, h, h2, h3⟩
        split
        · exact List.mem_append.2 (.inl this)
        · exact this
      · subst h2
        split
        · simp
        · rename_i hc
          by_cases hm : partN bits (d + 1) i ∈ seenL bits d i
          · exact hm
          · exact absurd ⟨h3, hm⟩ hc
/-- All unlike parts of the variables ahead of v. -/
def pairs (bits : Nat) : Nat → List (Nat × Nat)
  | 0 => []
  | v + 1 => pairs bits v ++ (seenL bits (3 - v) (2 ^ v)).map (fun q => (v, q))
theorem pairs_mem (bits : Nat) : ∀ v u q, (u, q) ∈ pairs bits v ↔ u < v ∧ q ∈ seenL bits (3 - u) (2 ^ u)
  | 0, u, q => by
    constructor
    · intro h; cases h
    · rintro ⟨h, _⟩; omega
  | v + 1, u, q => by
    rw [pairs, List.mem_append, pairs_mem bits v]
    constructor
    · rintro (⟨h1, h2⟩ | h)
      · exact ⟨by omega, h2⟩
      · obtain ⟨q', h1, h2⟩ := List.mem_map.1 h
        simp only [Prod.mk.injEq] at h2
        obtain ⟨rfl, rfl⟩ := h2
        exact ⟨by omega, h1⟩
    · rintro ⟨h1, h2⟩
      rcases (by omega : u < v ∨ u = v) with h | rfl
      · exact .inl ⟨h, h2⟩
      · exact .inr (List.mem_map.2 ⟨q, h2, rfl⟩)
theorem pairs_once (bits : Nat) : ∀ v, (pairs bits v).Nodup
  | 0 => List.nodup_nil
  | v + 1 => by
    rw [pairs, List.nodup_append]
    refine ⟨pairs_once bits v, ?_, ?_⟩
    · rw [List.Nodup, List.pairwise_map]
      exact (seenL_once bits (3 - v) (2 ^ v)).imp (fun h e => h (Prod.mk.inj e).2)
    · rintro ⟨u, q⟩ ha ⟨u', q'⟩ hb e
      obtain ⟨q2, _, h2⟩ := List.mem_map.1 hb
      have := ((pairs_mem bits v u q).1 ha).1
      have h3 := (Prod.mk.inj h2).1
      have h4 := (Prod.mk.inj e).1
      omega
theorem len_le {α β : Type} [DecidableEq β] (T : α → β → Prop) (inj : ∀ a a' b, T a b → T a' b → a = a') : ∀ (A : List α) (B : List β), A.Nodup → (∀ a ∈ A, ∃ b ∈ B, T a b) → A.length ≤ B.length
  | [], _, _, _ => by simp
  | a :: A, B, hn, h => by
    obtain ⟨b, hb, hT⟩ := h a (by simp)
    have hn' := List.nodup_cons.1 hn
    have := len_le T inj A (B.erase b) hn'.2 (fun a' ha' => by
      obtain ⟨b', hb', hT'⟩ := h a' (by simp [ha'])
      refine ⟨b', ?_, hT'⟩
      rw [List.mem_erase_of_ne]
      · exact hb'
      · rintro rfl
        exact hn'.1 (inj a a' b' hT hT' ▸ ha'))
    have hl := List.length_erase_of_mem hb
    have hp : 0 < B.length := List.length_pos_of_mem hb
    simp only [List.length_cons]
    omega

/-- A node and the unlike part whose diagram it is. -/
def Node (F : List Nd) (bits : Nat) (x : Int) (b : Nat × Nat) : Prop :=
  b.1 < 4 ∧ (getN F x).v = b.1 ∧ ∃ i, i < 2 ^ b.1 ∧ b.2 = partN bits (3 - b.1 + 1) i ∧ Dg F bits (3 - b.1 + 1) b.1 (i * 2 ^ (3 - b.1 + 1)) x
theorem sees_len {most : Int} {F : List Nd} {bits : Nat} {k : Int} (hg : Good most F) (h : Dg F bits 4 0 0 k) : (seesP F k).length = (pairs bits 4).length := by
  have e34 : ∀ v, v < 4 → 4 - v = 3 - v + 1 := fun v hv => by omega
  apply Nat.le_antisymm
  · refine len_le (Node F bits) ?_ _ _ (sees_once F k) ?_
    · rintro a a' ⟨v, q⟩ ⟨_, _, i, _, h2, h3⟩ ⟨_, _, i', _, h2', h3'⟩
      simp only at h2 h2' h3 h3'
      exact h3.one hg h3' ((part_eq bits _ i i').1 (h2.symm.trans h2'))
    · intro x hx
      obtain ⟨v, i, hv, hi, hd, ha⟩ := (Dg.rch hg 4 0 0 k (by decide) h x).1 ((sees_mem hg).1 hx)
      rw [e34 v hv, Nat.zero_add, Nat.zero_add] at hd
      rw [Nat.zero_add] at ha
      refine ⟨(v, partN bits (3 - v + 1) i), (pairs_mem bits 4 v _).2 ⟨hv, (seenL_mem bits (3 - v) (2 ^ v) _).2 ⟨i, hi, rfl, ?_⟩⟩, hv, ha, i, hi, rfl, hd⟩
      exact (unlike_is bits (3 - v) i).2 ((Dg.asks hg (by omega) hd).1 ha)
  · refine len_le (fun b x => Node F bits x b) ?_ _ _ (pairs_once bits 4) ?_
    · rintro ⟨v, q⟩ ⟨v', q'⟩ x ⟨_, h1, i, _, h2, h3⟩ ⟨_, h1', i', _, h2', h3'⟩
      simp only at h1 h1' h2 h2' h3 h3'
      obtain rfl : v = v' := by omega
      rw [h2, h2', (part_eq bits _ i i').2 (h3.same h3')]
    · rintro ⟨v, q⟩ hb
      obtain ⟨hv, hq⟩ := (pairs_mem bits 4 v q).1 hb
      obtain ⟨i, hi, rfl, hu⟩ := (seenL_mem bits (3 - v) (2 ^ v) q).1 hq
      obtain ⟨x, hx⟩ := Dg.ex hg v 4 0 0 i k (by decide) (by omega) hi h
      rw [e34 v hv, Nat.zero_add, Nat.zero_add] at hx
      have ha := (Dg.asks hg (by omega) hx).2 ((unlike_is bits (3 - v) i).1 hu)
      refine ⟨x, (sees_mem hg).2 ((Dg.rch hg 4 0 0 k (by decide) h x).2 ⟨v, i, hv, hi, ?_, by rw [Nat.zero_add]; exact ha⟩), hv, ha, i, hi, rfl, hx⟩
      rw [e34 v hv, Nat.zero_add, Nat.zero_add]
      exact hx
end Go.Proofs.Ytcbpklpehdojnaa
