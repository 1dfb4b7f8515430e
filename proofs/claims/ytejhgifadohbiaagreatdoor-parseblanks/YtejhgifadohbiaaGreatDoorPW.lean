/- What numbers make is sound. How long the texts are that numbers make. No program. -/
import Derived.Test.YtejhgifadohbiaaGreatDoorPX
import Derived.Test.YtejhgifadohbiaaGreatDoorUN
namespace Go.Proofs.YtejhgifadohbiaaGreatDoor
open Go.Lib

theorem mapN_name {k : Nat} (h : k < 4) : nameP (mapN k) = true := by
  have : ∀ i : Fin 4, nameP (mapN i.val) = true := by decide
  exact this ⟨k, h⟩
theorem nameS_name {k : Nat} (h : k < 8) : nameP (nameS k) = true := by
  have : ∀ i : Fin 8, nameP (nameS i.val) = true := by decide
  exact this ⟨k, h⟩
theorem mapped_name (s : ShD) (v : Nat) : mappedS s v ≠ [] → nameP (mappedS s v) = true := by
  intro h0
  unfold mappedS at h0 ⊢
  split
  · rename_i h
    rw [if_pos h] at h0
    exact absurd rfl h0
  · rename_i h
    refine mapN_name (Nat.lt_of_lt_of_le (Nat.mod_lt _ ?_) (Nat.min_le_right _ _))
    omega
theorem ruleC_sound {r : RlD} (h : r.ok) : (ruleC r).sound := by
  have ho := ruleC_ok h
  obtain ⟨h1, h2, h3, h4, h5, h6⟩ := h
  refine ⟨fun hc => ?_, ?_, ?_, ?_, ?_, ⟨ho.wi, ho.ou, ho.se, ho.cl⟩, ho.a⟩
  · have h3 : ¬ r.tg % 3 = 0 := by simpa [ruleC] using hc
    unfold ruleC
    simp only [if_neg h3]
    exact ⟨mk_may _, mkA_lt h1⟩
  all_goals
    unfold ruleC
    dsimp only
    try split
    all_goals omega
theorem conf_sound {s : ShD} (h : s.ok) : (confS s).sound := by
  refine ⟨fun m hm => ?_, fun r hr => ?_, ?_, ?_⟩
  · obtain ⟨k, rs, h1, h2, rfl⟩ := mapsS_mem hm
    have hl := clausesS_len rs
    refine ⟨mapN_name ?_, fun c hc => ?_, by dsimp only; omega⟩
    · simp at h2; omega
    · obtain ⟨r, hr, rfl⟩ := List.mem_map.1 hc
      exact ruleC_sound (h.m rs (List.mem_of_mem_take h1) r (List.mem_of_mem_take hr))
  · obtain ⟨k, hk, rfl⟩ := rosS_mem hr
    have key : ∀ j l, j ≤ 8 → l ∈ linksS s (s.n % 8) k j → LkD.sound l := by
      intro j l hj hl
      obtain ⟨i, hi, rfl⟩ := linksS_mem hl
      refine ⟨nameS_name (by omega), ?_, ?_, mapped_name _ _, mapped_name _ _⟩
      · show (1 : Int) ≤ ((1 + _ : Nat) : Int); omega
      · show ((1 + _ / 3 % 3 : Nat) : Int) ≤ 1000; omega
    have hll := linksS_len s (s.n % 8) k (s.n % 8)
    refine ⟨nameS_name (by omega), fun p hp => ?_, fun l hl => key _ l (by omega) hl, fun x hx => ?_, ?_, by show (linksS s (s.n % 8) k (s.n % 8)).length ≤ 64; omega, ?_⟩
    · have : p ∈ netsS s k := hp
      unfold netsS at this
      split at this
      · rw [List.mem_singleton] at this
        subst this
        exact ⟨mk_may _, mkA_lt (numS_lt h.t k)⟩
      · cases this
    · have : x ∈ statS s (linksS s (s.n % 8) k (s.n % 8)) k := hx
      unfold statS at this
      split at this
      · rename_i h2
        rw [List.mem_singleton] at this
        subst this
        refine ⟨⟨mk_may _, mkA_lt (numS_lt h.w k)⟩, ?_⟩
        show nameP (((_ : Option LkD).map LkD.peer).getD []) = true
        have hlt := Nat.mod_lt (numS s.ways k / 8) h2.2
        rw [List.getElem?_eq_getElem hlt]
        exact (key _ _ (by omega) (List.getElem_mem hlt)).n
      · cases this
    · show (netsS s k).length ≤ 8
      unfold netsS; split <;> simp
    · show (statS s (linksS s (s.n % 8) k (s.n % 8)) k).length ≤ 8
      unfold statS; split <;> simp
  · show (mapsS (s.maps.take 4) 0).length ≤ 64
    rw [mapsS_len]
    simp
    omega
  · show (rosS s (s.n % 8) (s.n % 8)).length ≤ 64
    rw [rosS_len]
    omega
end Go.Proofs.YtejhgifadohbiaaGreatDoor
namespace Go.Proofs.YtejhgifadohbiaaGreatDoor
open Go.Lib

theorem flat_many {α : Type} (f : α → Bs) (k : Nat) (l : List α) (h : ∀ x ∈ l, (f x).length ≤ k) : (l.flatMap f).length ≤ k * l.length := by
  have := flat_len f (fun _ => 1) k l fun x hx => by have := h x hx; omega
  rw [sum_one] at this
  exact this
theorem mul_few {a b c : Nat} (h : b ≤ c) : a * b ≤ a * c := Nat.mul_le_mul_left a h
theorem confS_text {s : ShD} (h : s.ok) : (confT (confS s)).length ≤ 7000 := by
  have hok := (confS_ok h).1
  have h1 : ((confS s).maps.flatMap mapT).length ≤ 761 * (confS s).maps.length := by
    refine flat_many mapT 761 _ fun m hm => ?_
    have hmo := hok.m m hm
    obtain ⟨k, rs, _, _, rfl⟩ := mapsS_mem hm
    have hl := flat_many lineT 150 (clausesS rs) fun c hc => line_len (hmo.h c hc)
    have hc := clausesS_len rs
    have := mul_few (a := 150) hc
    show (headT [109, 97, 112] (mapN k) ++ (clausesS rs).flatMap lineT ++ footT).length ≤ 761
    simp only [headT, footT, mapN, List.length_append, List.length_cons, List.length_nil]
    omega
  have h2 : ((confS s).ros.flatMap routT).length ≤ 468 * (confS s).ros.length := by
    refine flat_many routT 468 _ fun r hr => ?_
    have hro := hok.r r hr
    obtain ⟨k, hk, rfl⟩ := rosS_mem hr
    have hn := flat_many netT 26 (netsS s k) fun p hp => by
      have := pf_len p.1 p.2 (hro.n p hp)
      unfold netT innT
      simp only [List.length_append, List.length_cons, List.length_nil]
      omega
    have hl := flat_many linkT 56 (linksS s (s.n % 8) k (s.n % 8)) fun l hl => by
      have hlo := hro.l l hl
      have e1 := itoa_len hlo.c0 hlo.c1
      have e2 := nm_len [105, 109, 112, 111, 114, 116] l.imp
      have e3 := nm_len [101, 120, 112, 111, 114, 116] l.exp
      obtain ⟨i, _, rfl⟩ := linksS_mem hl
      have e4 := mapped_len s (numS s.names (k * (s.n % 8) + i))
      have e5 := mapped_len s (numS s.names (k * (s.n % 8) + i) / 12)
      unfold linkT linkW innT
      unfold linkS at e1 e2 e3 ⊢
      simp only [nameS, List.length_append, List.length_cons, List.length_nil] at *
      omega
    have hs := flat_many statT 36 (statS s (linksS s (s.n % 8) k (s.n % 8)) k) fun x hx => by
      have e1 := pf_len x.a x.b (hro.s x hx)
      have e2 : x.via.length ≤ 2 := by
        have : x ∈ statS s (linksS s (s.n % 8) k (s.n % 8)) k := hx
        unfold statS at this
        split at this
        · rw [List.mem_singleton] at this
          subst this
          show (((_ : Option LkD).map LkD.peer).getD []).length ≤ 2
          cases hl : (linksS s (s.n % 8) k (s.n % 8))[numS s.ways k / 8 % (linksS s (s.n % 8) k (s.n % 8)).length]? with
          | none => simp
          | some l =>
            obtain ⟨i, _, rfl⟩ := linksS_mem (List.mem_of_getElem? hl)
            simp [linkS, nameS]
        · cases this
      unfold statT innT
      simp only [List.length_append, List.length_cons, List.length_nil]
      omega
    have l1 : (netsS s k).length ≤ 1 := by unfold netsS; split <;> simp
    have l2 := linksS_len s (s.n % 8) k (s.n % 8)
    have l3 : (statS s (linksS s (s.n % 8) k (s.n % 8)) k).length ≤ 1 := by unfold statS; split <;> simp
    have m1 := mul_few (a := 26) l1
    have m2 := mul_few (a := 56) l2
    have m3 := mul_few (a := 36) l3
    show (headT [114, 111, 117, 116, 101, 114] (nameS k) ++ (netsS s k).flatMap netT ++ (linksS s (s.n % 8) k (s.n % 8)).flatMap linkT ++ (statS s (linksS s (s.n % 8) k (s.n % 8)) k).flatMap statT ++ footT).length ≤ 468
    simp only [headT, footT, nameS, List.length_append, List.length_cons, List.length_nil]
    omega
  have l1 : (confS s).maps.length ≤ 4 := by
    show (mapsS (s.maps.take 4) 0).length ≤ 4
    rw [mapsS_len]
    simp
    omega
  have l2 : (confS s).ros.length ≤ 7 := by
    show (rosS s (s.n % 8) (s.n % 8)).length ≤ 7
    rw [rosS_len]
    omega
  unfold confT
  rw [List.length_append]
  omega
theorem blow_len (W : Bs) : ∀ l : Bs, (blow W l).length ≤ (1 + W.length) * l.length
  | [] => by simp [blow]
  | c :: r => by
    have := blow_len W r
    rw [blow_cons, List.length_cons, List.length_append, List.length_cons, Nat.mul_succ]
    split
    · omega
    · simp
      omega
end Go.Proofs.YtejhgifadohbiaaGreatDoor
