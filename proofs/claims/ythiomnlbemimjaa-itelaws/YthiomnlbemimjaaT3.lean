/- IteLaws: the walk. -/
import Derived.Test.YthiomnlbemimjaaT1
import Derived.Deep.RegionHeld3
namespace Go.Proofs.Ythiomnlbemimjaa
open Go.RowKit

theorem c300 : clampN 300 = 300 := rfl
theorem len2 : (first2.length : Int) = 2 := rfl
/-- What is known behind a closure that puts diagrams together. -/
def SitK (w : World) (p m v : Nat) (most : Int) (ns : List Nd) (φ : (Int → Bool) → Bool) (e : Ending) (V' : World) : Prop :=
  ∃ k ns', e = .returned (.int .i64 k) ∧ Sit w V' p m v most ns' ∧ Went 4 most ns ns' k φ
/-- The same, where what is asked for is there. -/
def SitF (w : World) (p m v : Nat) (most : Int) (ns : List Nd) (i : Int) (e : Ending) (V' : World) : Prop := e = .returned (.int .i64 i) ∧ Sit w V' p m v most ns
theorem SitK.there {w V' : World} {p m v : Nat} {most : Int} {ns : List Nd} {φ ψ : (Int → Bool) → Bool} {e : Ending} {i : Int} (h : SitK w p m v most ns φ e V') (d : D ns i ψ) (he : ∀ f, ψ f = φ f) : SitF w p m v most ns i e V' := by
  obtain ⟨k, ns', rfl, S, W⟩ := h
  have e1 := W.new i (d.eq he)
  subst e1
  have e2 := W.is.one S.good d (fun f => (he f).symm)
  subst e2
  exact ⟨rfl, S⟩
theorem enterLLawsA (args : Array Value) (W : World) : Sem.run Try.prog (callFunc 18 args) W = .ok (.enter 18 args) W := by kernel_rfl
set_option maxHeartbeats 400000 in
theorem lawsA_any {w V : World} {p m v : Nat} {most : Int} {ns : List Nd} (h : Sit w V p m v most ns) {a b : Int} {α β : (Int → Bool) → Bool} (da : D ns a α) (db : D ns b β) (hr : (ns.length : Int) + 15 ≤ most) :
    Calls Try.prog 18 #[.int .i64 a, .int .i64 b, .pointer (some ⟨v, 0, none⟩)] V (SitK w p m v most ns (fun f => opChoose (α f) (β f) false)) := by
  have c := h.cell
  have t := sit_and h da db hr
  clear h
  go_enter Try.func18, Try.ntmps18
  go_wp2_with fail
  refine t.mono ?_
  rintro e V1 ⟨k, ns', rfl, S1, W1⟩
  clear t
  go_wp2_with fail
  go_ret
  exact ⟨k, ns', rfl, S1, W1⟩
theorem enterLLawsO (args : Array Value) (W : World) : Sem.run Try.prog (callFunc 19 args) W = .ok (.enter 19 args) W := by kernel_rfl
set_option maxHeartbeats 400000 in
theorem lawsO_any {w V : World} {p m v : Nat} {most : Int} {ns : List Nd} (h : Sit w V p m v most ns) {a b : Int} {α β : (Int → Bool) → Bool} (da : D ns a α) (db : D ns b β) (hr : (ns.length : Int) + 15 ≤ most) :
    Calls Try.prog 19 #[.int .i64 a, .int .i64 b, .pointer (some ⟨v, 0, none⟩)] V (SitK w p m v most ns (fun f => opChoose (α f) true (β f))) := by
  have c := h.cell
  have t := sit_or h da db hr
  clear h
  go_enter Try.func19, Try.ntmps19
  go_wp2_with fail
  refine t.mono ?_
  rintro e V1 ⟨k, ns', rfl, S1, W1⟩
  clear t
  go_wp2_with fail
  go_ret
  exact ⟨k, ns', rfl, S1, W1⟩
theorem enterLLawsN (args : Array Value) (W : World) : Sem.run Try.prog (callFunc 20 args) W = .ok (.enter 20 args) W := by kernel_rfl
set_option maxHeartbeats 400000 in
theorem lawsN_any {w V : World} {p m v : Nat} {most : Int} {ns : List Nd} (h : Sit w V p m v most ns) {a : Int} {α : (Int → Bool) → Bool} (da : D ns a α) (hr : (ns.length : Int) + 15 ≤ most) :
    Calls Try.prog 20 #[.int .i64 a, .pointer (some ⟨v, 0, none⟩)] V (SitK w p m v most ns (fun f => opChoose (α f) false true)) := by
  have c := h.cell
  have t := sit_not h da hr
  clear h
  go_enter Try.func20, Try.ntmps20
  go_wp2_with fail
  refine t.mono ?_
  rintro e V1 ⟨k, ns', rfl, S1, W1⟩
  clear t
  go_wp2_with fail
  go_ret
  exact ⟨k, ns', rfl, S1, W1⟩

set_option maxHeartbeats 4000000 in
theorem itelaws_any (f g h : Nat) (hf : f < 65536) (hg : g < 65536) (hh : h < 65536) (w : World) :
    Calls Try.prog 5 #[.int .u16 f, .int .u16 g, .int .u16 h] w fun e w' => e = .returned (.bool true) ∧ Below w.heap.size w w' := by
  have hmf : ∀ (fn : Fn) (first cap : Array Value) (w : World), (Instr.makeFunc fn first cap).run Try.prog w = .ok (.func fn first cap) w := fun _ _ _ _ => rfl
  have hentA := enterLLawsA
  have hentO := enterLLawsO
  have hentN := enterLLawsN
  go_enter Try.func5, Try.ntmps5
  go_wp2_with fail
  refine (awake2_any w).mono ?_
  rintro e w0 ⟨rfl, b0⟩
  go_wp2_with fail
  refine (of_any 300 w0).mono ?_
  rintro e w1 ⟨rfl, a1, b1, s1⟩
  have S0 := sit_new c300 b0 a1 b1
  clear a1 b1 b0 s1
  go_wp2_with fail
  obtain ⟨W, hW⟩ : ∃ W, W = w1.alloc (.cells #[.pointer (some ⟨w0.heap.size + 2, 0, none⟩)] 24) := ⟨_, rfl⟩
  rw [← hW] at S0 ⊢
  clear hW
  obtain ⟨p, hp'⟩ : ∃ p, p = w0.heap.size + 2 := ⟨_, rfl⟩
  obtain ⟨m, hm'⟩ : ∃ m, m = w0.heap.size + 1 := ⟨_, rfl⟩
  obtain ⟨v, hv'⟩ : ∃ v, v = w1.heap.size := ⟨_, rfl⟩
  rw [← hp', ← hm', ← hv'] at S0
  rw [← hp', ← hv']
  clear hp' hm' hv'
  have M1 := fun (V : World) (S : Sit w V p m v 300 first2) => sit_build S f hf
  have D1 := built f S0.good S0.upto (by rw [len2]; decide)
  have L1 := D1.len
  rw [len2] at L1
  generalize bld 300 f 4 0 0 first2 = R1 at M1 D1 L1
  have M2 := fun (V : World) (S : Sit w V p m v 300 R1.2) => sit_build S g hg
  have D2 := built g D1.good D1.upto (by omega)
  have L2 := D2.len
  generalize bld 300 g 4 0 0 R1.2 = R2 at M2 D2 L2
  have M3 := fun (V : World) (S : Sit w V p m v 300 R2.2) => sit_build S h hh
  have D3 := built h D2.good D2.upto (by omega)
  have L3 := D3.len
  generalize bld 300 h 4 0 0 R2.2 = R3 at M3 D3 L3
  have x := (D1.is.on D1.good D2.good D2.on).on D2.good D3.good D3.on
  have y := D2.is.on D2.good D3.good D3.on
  have z := D3.is
  have S0' := S0.on (Below.refl W.heap.size W).drew
  have C0 := S0'.cell
  clear D1 D2 D3 S0
  go_region_held3 (fun V => V.cell? ⟨v, 0, none⟩ = some (.pointer (some ⟨p, 0, none⟩)))
    (first
      | exact C0
      | exact S3.cell
      | exact S2.cell
      | exact S1.cell)
    (first
      | (go_at_call_of 10 (Value.int .u16 (f : Int)); refine (M1 _ S0').mono ?_; rintro e V1 ⟨rfl, S1⟩)
      | (go_at_call_of 10 (Value.int .u16 (g : Int)); refine (M2 _ S1).mono ?_; rintro e V2 ⟨rfl, S2⟩)
      | (go_at_call_of 10 (Value.int .u16 (h : Int)); refine (M3 _ S2).mono ?_; rintro e V3 ⟨rfl, S3⟩))
  clear S0' C0 S1 S2 M1 M2 M3
  obtain ⟨X, hX⟩ : ∃ X, X = R1.1 := ⟨_, rfl⟩
  obtain ⟨Y, hY⟩ : ∃ Y, Y = R2.1 := ⟨_, rfl⟩
  obtain ⟨Z, hZ⟩ : ∃ Z, Z = R3.1 := ⟨_, rfl⟩
  obtain ⟨n0, hn0⟩ : ∃ n0, n0 = R3.2 := ⟨_, rfl⟩
  rw [← hX] at x ⊢
  rw [← hY] at y ⊢
  rw [← hZ] at z ⊢
  have l0 : (n0.length : Int) ≤ 47 := by rw [hn0]; omega
  rw [← hn0] at x y z S3
  clear hX hY hZ hn0 L1 L2 L3 R1 R2 R3
  have t := lawsO_any S3 y z (by omega)
  go_wp2_with fail
  refine t.mono ?_
  rintro e V4 ⟨k1, n1, rfl, S4, W1⟩
  replace x := x.on S3.good S4.good W1.on
  replace y := y.on S3.good S4.good W1.on
  replace z := z.on S3.good S4.good W1.on
  have yz := W1.is
  have l1 : (n1.length : Int) ≤ 62 := by have := W1.len4; omega
  clear t W1 S3 l0
  have t := lawsA_any S4 x yz (by omega)
  go_wp2_with fail
  refine t.mono ?_
  rintro e V5 ⟨k2, n2, rfl, S5, W2⟩
  replace x := x.on S4.good S5.good W2.on
  replace y := y.on S4.good S5.good W2.on
  replace z := z.on S4.good S5.good W2.on
  replace yz := yz.on S4.good S5.good W2.on
  have xyz := W2.is
  have l2 : (n2.length : Int) ≤ 77 := by have := W2.len4; omega
  clear t W2 S4 l1
  have t := lawsA_any S5 x y (by omega)
  go_wp2_with fail
  refine t.mono ?_
  rintro e V6 ⟨k3, n3, rfl, S6, W3⟩
  replace x := x.on S5.good S6.good W3.on
  replace y := y.on S5.good S6.good W3.on
  replace z := z.on S5.good S6.good W3.on
  replace yz := yz.on S5.good S6.good W3.on
  replace xyz := xyz.on S5.good S6.good W3.on
  have xy := W3.is
  have l3 : (n3.length : Int) ≤ 92 := by have := W3.len4; omega
  clear t W3 S5 l2
  have t := lawsA_any S6 x z (by omega)
  go_wp2_with fail
  refine t.mono ?_
  rintro e V7 ⟨k4, n4, rfl, S7, W4⟩
  replace x := x.on S6.good S7.good W4.on
  replace y := y.on S6.good S7.good W4.on
  replace z := z.on S6.good S7.good W4.on
  replace yz := yz.on S6.good S7.good W4.on
  replace xyz := xyz.on S6.good S7.good W4.on
  replace xy := xy.on S6.good S7.good W4.on
  have xz := W4.is
  have l4 : (n4.length : Int) ≤ 107 := by have := W4.len4; omega
  clear t W4 S6 l3
  have t := (lawsO_any S7 xy xz (by omega)).mono (fun e V hp => SitK.there hp xyz (fun φ => by unfold opChoose; cases tb f φ <;> cases tb g φ <;> cases tb h φ <;> rfl))
  go_wp2_with fail
  refine t.mono ?_
  rintro e V8 ⟨rfl, S8⟩
  clear t S7
  have t := (lawsA_any S8 x y (by omega)).mono (fun e V hp => SitK.there hp xy (fun φ => by unfold opChoose; cases tb f φ <;> cases tb g φ <;> cases tb h φ <;> rfl))
  go_wp2_with fail
  refine t.mono ?_
  rintro e V9 ⟨rfl, S9⟩
  clear t S8
  have t := lawsN_any S9 xy (by omega)
  go_wp2_with fail
  refine t.mono ?_
  rintro e V10 ⟨k5, n5, rfl, S10, W5⟩
  replace x := x.on S9.good S10.good W5.on
  replace y := y.on S9.good S10.good W5.on
  replace z := z.on S9.good S10.good W5.on
  replace yz := yz.on S9.good S10.good W5.on
  replace xyz := xyz.on S9.good S10.good W5.on
  replace xy := xy.on S9.good S10.good W5.on
  replace xz := xz.on S9.good S10.good W5.on
  have nxy := W5.is
  have l5 : (n5.length : Int) ≤ 122 := by have := W5.len4; omega
  clear t W5 S9 l4
  have t := lawsN_any S10 x (by omega)
  go_wp2_with fail
  refine t.mono ?_
  rintro e V11 ⟨k6, n6, rfl, S11, W6⟩
  replace x := x.on S10.good S11.good W6.on
  replace y := y.on S10.good S11.good W6.on
  replace z := z.on S10.good S11.good W6.on
  replace yz := yz.on S10.good S11.good W6.on
  replace xyz := xyz.on S10.good S11.good W6.on
  replace xy := xy.on S10.good S11.good W6.on
  replace xz := xz.on S10.good S11.good W6.on
  replace nxy := nxy.on S10.good S11.good W6.on
  have nx := W6.is
  have l6 : (n6.length : Int) ≤ 137 := by have := W6.len4; omega
  clear t W6 S10 l5
  have t := lawsN_any S11 y (by omega)
  go_wp2_with fail
  refine t.mono ?_
  rintro e V12 ⟨k7, n7, rfl, S12, W7⟩
  replace x := x.on S11.good S12.good W7.on
  replace y := y.on S11.good S12.good W7.on
  replace z := z.on S11.good S12.good W7.on
  replace yz := yz.on S11.good S12.good W7.on
  replace xyz := xyz.on S11.good S12.good W7.on
  replace xy := xy.on S11.good S12.good W7.on
  replace xz := xz.on S11.good S12.good W7.on
  replace nxy := nxy.on S11.good S12.good W7.on
  replace nx := nx.on S11.good S12.good W7.on
  have ny := W7.is
  have l7 : (n7.length : Int) ≤ 152 := by have := W7.len4; omega
  clear t W7 S11 l6
  have t := (lawsO_any S12 nx ny (by omega)).mono (fun e V hp => SitK.there hp nxy (fun φ => by unfold opChoose; cases tb f φ <;> cases tb g φ <;> cases tb h φ <;> rfl))
  go_wp2_with fail
  refine t.mono ?_
  rintro e V13 ⟨rfl, S13⟩
  clear t S12
  have t := (lawsN_any S13 x (by omega)).mono (fun e V hp => SitK.there hp nx (fun φ => by unfold opChoose; cases tb f φ <;> cases tb g φ <;> cases tb h φ <;> rfl))
  go_wp2_with fail
  refine t.mono ?_
  rintro e V14 ⟨rfl, S14⟩
  clear t S13
  have t := (lawsN_any S14 nx (by omega)).mono (fun e V hp => SitK.there hp x (fun φ => by unfold opChoose; cases tb f φ <;> cases tb g φ <;> cases tb h φ <;> rfl))
  go_wp2_with fail
  refine t.mono ?_
  rintro e V15 ⟨rfl, S15⟩
  clear t S14
  have t := (lawsN_any S15 x (by omega)).mono (fun e V hp => SitK.there hp nx (fun φ => by unfold opChoose; cases tb f φ <;> cases tb g φ <;> cases tb h φ <;> rfl))
  go_wp2_with fail
  refine t.mono ?_
  rintro e V16 ⟨rfl, S16⟩
  clear t S15
  have t := (lawsA_any S16 x nx (by omega)).mono (fun e V hp => SitK.there hp (d0 S16.good) (fun φ => by unfold opChoose; cases tb f φ <;> cases tb g φ <;> cases tb h φ <;> rfl))
  go_wp2_with fail
  refine t.mono ?_
  rintro e V17 ⟨rfl, S17⟩
  clear t S16
  have t := (lawsN_any S17 x (by omega)).mono (fun e V hp => SitK.there hp nx (fun φ => by unfold opChoose; cases tb f φ <;> cases tb g φ <;> cases tb h φ <;> rfl))
  go_wp2_with fail
  refine t.mono ?_
  rintro e V18 ⟨rfl, S18⟩
  clear t S17
  have t := (lawsO_any S18 x nx (by omega)).mono (fun e V hp => SitK.there hp (d1 S18.good) (fun φ => by unfold opChoose; cases tb f φ <;> cases tb g φ <;> cases tb h φ <;> rfl))
  go_wp2_with fail
  refine t.mono ?_
  rintro e V19 ⟨rfl, S19⟩
  clear t S18
  have t := (lawsA_any S19 x y (by omega)).mono (fun e V hp => SitK.there hp xy (fun φ => by unfold opChoose; cases tb f φ <;> cases tb g φ <;> cases tb h φ <;> rfl))
  go_wp2_with fail
  refine t.mono ?_
  rintro e V20 ⟨rfl, S20⟩
  clear t S19
  have t := (lawsA_any S20 y x (by omega)).mono (fun e V hp => SitK.there hp xy (fun φ => by unfold opChoose; cases tb f φ <;> cases tb g φ <;> cases tb h φ <;> rfl))
  go_wp2_with fail
  refine t.mono ?_
  rintro e V21 ⟨rfl, S21⟩
  clear t S20
  have bel := S21.below
  go_wp2_with fail
  go_ret
  exact ⟨rfl, bel⟩
end Go.Proofs.Ythiomnlbemimjaa
