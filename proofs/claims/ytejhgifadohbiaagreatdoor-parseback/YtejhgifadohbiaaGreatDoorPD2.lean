/- What numbers make is sound. -/
import Derived.Test.YtejhgifadohbiaaGreatDoorPX
import Derived.Test.YtejhgifadohbiaaGreatDoorUN
namespace Go.Proofs.YtejhgifadohbiaaGreatDoor
open Go.Lib

theorem mapN_name {k : Nat} (h : k < 4) : nameP (mapN k) = true := by
  have : ∀ i : Fin 4, nameP (mapN i.val) = true := by decide
  exact this ⟨k, h⟩
theorem nameS_name {k : Nat} (h : k < 8) : nameP (nameS k) = true := by
  have : ∀ i : Fin 8, nameP (nameS i.val) = true := by decide
  exact this ⟨k, h⟩
theorem mapped_name (s : ShD) (v : Nat) : mappedS s v ≠ [] → nameP (mappedS s v) = true := by
  intro h0
  unfold mappedS at h0 ⊢
  split
  · rename_i h
    rw [if_pos h] at h0
    exact absurd rfl h0
  · rename_i h
    refine mapN_name (Nat.lt_of_lt_of_le (Nat.mod_lt _ ?_) (Nat.min_le_right _ _))
    omega
theorem ruleC_sound {r : RlD} (h : r.ok) : (ruleC r).sound := by
  have ho := ruleC_ok h
  obtain ⟨h1, h2, h3, h4, h5, h6⟩ := h
  refine ⟨fun hc => ?_, ?_, ?_, ?_, ?_, ⟨ho.wi, ho.ou, ho.se, ho.cl⟩, ho.a⟩
  · have h3 : ¬ r.tg % 3 = 0 := by simpa [ruleC] using hc
    unfold ruleC
    simp only [if_neg h3]
    exact ⟨mk_may _, mkA_lt h1⟩
  all_goals
    unfold ruleC
    dsimp only
    try split
    all_goals omega
theorem conf_sound {s : ShD} (h : s.ok) : (confS s).sound := by
  refine ⟨fun m hm => ?_, fun r hr => ?_, ?_, ?_⟩
  · obtain ⟨k, rs, h1, h2, rfl⟩ := mapsS_mem hm
    have hl := clausesS_len rs
    refine ⟨mapN_name ?_, fun c hc => ?_, by dsimp only; omega⟩
    · simp at h2; omega
    · obtain ⟨r, hr, rfl⟩ := List.mem_map.1 hc
      exact ruleC_sound (h.m rs (List.mem_of_mem_take h1) r (List.mem_of_mem_take hr))
  · obtain ⟨k, hk, rfl⟩ := rosS_mem hr
    have key : ∀ j l, j ≤ 8 → l ∈ linksS s (s.n % 8) k j → LkD.sound l := by
      intro j l hj hl
      obtain ⟨i, hi, rfl⟩ := linksS_mem hl
      refine ⟨nameS_name (by omega), ?_, ?_, mapped_name _ _, mapped_name _ _⟩
      · show (1 : Int) ≤ ((1 + _ : Nat) : Int); omega
      · show ((1 + _ / 3 % 3 : Nat) : Int) ≤ 1000; omega
    have hll := linksS_len s (s.n % 8) k (s.n % 8)
    refine ⟨nameS_name (by omega), fun p hp => ?_, fun l hl => key _ l (by omega) hl, fun x hx => ?_, ?_, by show (linksS s (s.n % 8) k (s.n % 8)).length ≤ 64; omega, ?_⟩
    · have : p ∈ netsS s k := hp
      unfold netsS at this
      split at this
      · rw [List.mem_singleton] at this
        subst this
        exact ⟨mk_may _, mkA_lt (numS_lt h.t k)⟩
      · cases this
    · have : x ∈ statS s (linksS s (s.n % 8) k (s.n % 8)) k := hx
      unfold statS at this
      split at this
      · rename_i h2
        rw [List.mem_singleton] at this
        subst this
        refine ⟨⟨mk_may _, mkA_lt (numS_lt h.w k)⟩, ?_⟩
        show nameP (((_ : Option LkD).map LkD.peer).getD []) = true
        have hlt := Nat.mod_lt (numS s.ways k / 8) h2.2
        rw [List.getElem?_eq_getElem hlt]
        exact (key _ _ (by omega) (List.getElem_mem hlt)).n
      · cases this
    · show (netsS s k).length ≤ 8
      unfold netsS; split <;> simp
    · show (statS s (linksS s (s.n % 8) k (s.n % 8)) k).length ≤ 8
      unfold statS; split <;> simp
  · show (mapsS (s.maps.take 4) 0).length ≤ 64
    rw [mapsS_len]
    simp
    omega
  · show (rosS s (s.n % 8) (s.n % 8)).length ≤ 64
    rw [rosS_len]
    omega
end Go.Proofs.YtejhgifadohbiaaGreatDoor
