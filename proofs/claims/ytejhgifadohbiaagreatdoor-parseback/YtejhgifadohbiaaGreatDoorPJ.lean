/- How long the texts are that numbers make. No program. -/
import Derived.Test.YtejhgifadohbiaaGreatDoorPD2
namespace Go.Proofs.YtejhgifadohbiaaGreatDoor
open Go.Lib

theorem flat_many {α : Type} (f : α → Bs) (k : Nat) (l : List α) (h : ∀ x ∈ l, (f x).length ≤ k) : (l.flatMap f).length ≤ k * l.length := by
  have := flat_len f (fun _ => 1) k l fun x hx => by have := h x hx; omega
  rw [sum_one] at this
  exact this
theorem mul_few {a b c : Nat} (h : b ≤ c) : a * b ≤ a * c := Nat.mul_le_mul_left a h
theorem confS_text {s : ShD} (h : s.ok) : (confT (confS s)).length ≤ 7000 := by
  have hok := (confS_ok h).1
  have h1 : ((confS s).maps.flatMap mapT).length ≤ 761 * (confS s).maps.length := by
    refine flat_many mapT 761 _ fun m hm => ?_
    have hmo := hok.m m hm
    obtain ⟨k, rs, _, _, rfl⟩ := mapsS_mem hm
    have hl := flat_many lineT 150 (clausesS rs) fun c hc => line_len (hmo.h c hc)
    have hc := clausesS_len rs
    have := mul_few (a := 150) hc
    show (headT [109, 97, 112] (mapN k) ++ (clausesS rs).flatMap lineT ++ footT).length ≤ 761
    simp only [headT, footT, mapN, List.length_append, List.length_cons, List.length_nil]
    omega
  have h2 : ((confS s).ros.flatMap routT).length ≤ 468 * (confS s).ros.length := by
    refine flat_many routT 468 _ fun r hr => ?_
    have hro := hok.r r hr
    obtain ⟨k, hk, rfl⟩ := rosS_mem hr
    have hn := flat_many netT 26 (netsS s k) fun p hp => by
      have := pf_len p.1 p.2 (hro.n p hp)
      unfold netT innT
      simp only [List.length_append, List.length_cons, List.length_nil]
      omega
    have hl := flat_many linkT 56 (linksS s (s.n % 8) k (s.n % 8)) fun l hl => by
      have hlo := hro.l l hl
      have e1 := itoa_len hlo.c0 hlo.c1
      have e2 := nm_len [105, 109, 112, 111, 114, 116] l.imp
      have e3 := nm_len [101, 120, 112, 111, 114, 116] l.exp
      obtain ⟨i, _, rfl⟩ := linksS_mem hl
      have e4 := mapped_len s (numS s.names (k * (s.n % 8) + i))
      have e5 := mapped_len s (numS s.names (k * (s.n % 8) + i) / 12)
      unfold linkT linkW innT
      unfold linkS at e1 e2 e3 ⊢
      simp only [nameS, List.length_append, List.length_cons, List.length_nil] at *
      omega
    have hs := flat_many statT 36 (statS s (linksS s (s.n % 8) k (s.n % 8)) k) fun x hx => by
      have e1 := pf_len x.a x.b (hro.s x hx)
      have e2 : x.via.length ≤ 2 := by
        have : x ∈ statS s (linksS s (s.n % 8) k (s.n % 8)) k := hx
        unfold statS at this
        split at this
        · rw [List.mem_singleton] at this
          subst this
          show (((_ : Option LkD).map LkD.peer).getD []).length ≤ 2
          cases hl : (linksS s (s.n % 8) k (s.n % 8))[numS s.ways k / 8 % (linksS s (s.n % 8) k (s.n % 8)).length]? with
          | none => simp
          | some l =>
            obtain ⟨i, _, rfl⟩ := linksS_mem (List.mem_of_getElem? hl)
            simp [linkS, nameS]
        · cases this
      unfold statT innT
      simp only [List.length_append, List.length_cons, List.length_nil]
      omega
    have l1 : (netsS s k).length ≤ 1 := by unfold netsS; split <;> simp
    have l2 := linksS_len s (s.n % 8) k (s.n % 8)
    have l3 : (statS s (linksS s (s.n % 8) k (s.n % 8)) k).length ≤ 1 := by unfold statS; split <;> simp
    have m1 := mul_few (a := 26) l1
    have m2 := mul_few (a := 56) l2
    have m3 := mul_few (a := 36) l3
    show (headT [114, 111, 117, 116, 101, 114] (nameS k) ++ (netsS s k).flatMap netT ++ (linksS s (s.n % 8) k (s.n % 8)).flatMap linkT ++ (statS s (linksS s (s.n % 8) k (s.n % 8)) k).flatMap statT ++ footT).length ≤ 468
    simp only [headT, footT, nameS, List.length_append, List.length_cons, List.length_nil]
    omega
  have l1 : (confS s).maps.length ≤ 4 := by
    show (mapsS (s.maps.take 4) 0).length ≤ 4
    rw [mapsS_len]
    simp
    omega
  have l2 : (confS s).ros.length ≤ 7 := by
    show (rosS s (s.n % 8) (s.n % 8)).length ≤ 7
    rw [rosS_len]
    omega
  unfold confT
  rw [List.length_append]
  omega
theorem blow_len (W : Bs) : ∀ l : Bs, (blow W l).length ≤ (1 + W.length) * l.length
  | [] => by simp [blow]
  | c :: r => by
    have := blow_len W r
    rw [blow_cons, List.length_cons, List.length_append, List.length_cons, Nat.mul_succ]
    split
    · omega
    · simp
      omega
end Go.Proofs.YtejhgifadohbiaaGreatDoor
