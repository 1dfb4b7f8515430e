/- IteTwo: the walk. -/
import Derived.Test.YthiomnlbemimjaaT1
import Derived.Deep.RegionHeld3
namespace Go.Proofs.Ythiomnlbemimjaa
open Go.RowKit

theorem c200 : clampN 200 = 200 := rfl
theorem len2 : (first2.length : Int) = 2 := rfl
theorem enterTwo (args : Array Value) (W : World) : Sem.run Try.prog (callFunc 17 args) W = .ok (.enter 17 args) W := by kernel_rfl

set_option maxHeartbeats 400000 in
theorem twoF_any {w V : World} {p m v : Nat} {most : Int} {ns : List Nd} (h : Sit w V p m v most ns) (k : Int) {bits : Nat} (hn : numTo (fun i => evalP ns (rowF i) k) 16 = bits) :
    Calls Try.prog 17 #[.int .i64 k, .pointer (some ⟨v, 0, none⟩)] V fun e V' => e = .returned (.int .u16 bits) ∧ Below V.heap.size V V' := by
  have c := h.cell
  have t := sit_table h k
  clear h
  go_enter Try.func17, Try.ntmps17
  go_wp2_with fail
  refine t.mono ?_
  rintro e w1 ⟨rfl, b1⟩
  have p1 := bits_any (fun i => evalP ns (rowF i) k) w1
  rw [hn] at p1
  clear t
  go_wp2_with fail
  refine p1.mono ?_
  rintro e w2 ⟨rfl, b2⟩
  go_wp2_with fail
  go_ret
  exact ⟨rfl, Below.up b1 b2 (Nat.le_refl _)⟩

set_option maxHeartbeats 2000000 in
theorem itetwo_any (f g : Nat) (hf : f < 65536) (hg : g < 65536) (w : World) :
    Calls Try.prog 4 #[.int .u16 f, .int .u16 g] w fun e w' => e = .returned (.bool true) ∧ Below w.heap.size w w' := by
  have hmf : ∀ (fn : Fn) (first cap : Array Value) (w : World), (Instr.makeFunc fn first cap).run Try.prog w = .ok (.func fn first cap) w := fun _ _ _ _ => rfl
  have hent := enterTwo
  have e_and := u16_and_nat f g hf hg
  have e_or := u16_or_nat f g hf hg
  have e_xor := u16_xor_nat f g hf hg
  have e_not := u16_flip f hf
  have l_and := and_lt f g hf
  have l_or := or_lt f g hf hg
  have l_xor := xor_lt f g hf hg
  have l_not := flip_lt f hf
  have t_and := tb_and f g
  have t_or := tb_or f g
  have t_xor := tb_xor f g
  have t_not := tb_flip f
  generalize f &&& g = fand at *
  generalize f ||| g = for_ at *
  generalize f ^^^ g = fxor at *
  generalize 65535 ^^^ f = fnot at *
  go_enter Try.func4, Try.ntmps4
  go_wp2_with fail
  refine (awake2_any w).mono ?_
  rintro e w0 ⟨rfl, b0⟩
  go_wp2_with fail
  refine (of_any 200 w0).mono ?_
  rintro e w1 ⟨rfl, a1, b1, s1⟩
  have S0 := sit_new c200 b0 a1 b1
  clear a1 b1 b0 s1
  go_wp2_with fail
  obtain ⟨W, hW⟩ : ∃ W, W = w1.alloc (.cells #[.pointer (some ⟨w0.heap.size + 2, 0, none⟩)] 24) := ⟨_, rfl⟩
  rw [← hW] at S0 ⊢
  clear hW
  obtain ⟨p, hp'⟩ : ∃ p, p = w0.heap.size + 2 := ⟨_, rfl⟩
  obtain ⟨m, hm'⟩ : ∃ m, m = w0.heap.size + 1 := ⟨_, rfl⟩
  obtain ⟨v, hv'⟩ : ∃ v, v = w1.heap.size := ⟨_, rfl⟩
  rw [← hp', ← hm', ← hv'] at S0
  rw [← hp', ← hv']
  clear hp' hm' hv'
  have M1 := fun (V : World) (S : Sit w V p m v 200 first2) => sit_build S f hf
  have D1 := built f S0.good S0.upto (by rw [len2]; decide)
  have L1 := D1.len
  rw [len2] at L1
  generalize bld 200 f 4 0 0 first2 = R1 at M1 D1 L1
  have M2 := fun (V : World) (S : Sit w V p m v 200 R1.2) => sit_build S g hg
  have D2 := built g D1.good D1.upto (by omega)
  have L2 := D2.len
  generalize bld 200 g 4 0 0 R1.2 = R2 at M2 D2 L2
  have x1 := D1.is.on D1.good D2.good D2.on
  have x2 := D2.is
  have S0' := S0.on (Below.refl W.heap.size W).drew
  have C0 := S0'.cell
  clear D1 D2 S0
  go_region_held3 (fun V => V.cell? ⟨v, 0, none⟩ = some (.pointer (some ⟨p, 0, none⟩)))
    (first
      | exact C0
      | exact S2.cell
      | exact S1.cell)
    (first
      | (go_at_call_of 10 (Value.int .u16 (f : Int)); refine (M1 _ S0').mono ?_; rintro e V1 ⟨rfl, S1⟩)
      | (go_at_call_of 10 (Value.int .u16 (g : Int)); refine (M2 _ S1).mono ?_; rintro e V2 ⟨rfl, S2⟩))
  clear S0' C0 S1 M1 M2
  -- and
  have c2 := S2.cell
  have m3 := sit_and S2 x1 x2 (by omega)
  go_wp2_with fail
  refine m3.mono ?_
  rintro e V3 ⟨k3, n3, rfl, S3, W3⟩
  have y1 := x1.on S2.good S3.good W3.on
  have y2 := x2.on S2.good S3.good W3.on
  have y3 := W3.is
  have L3 := W3.len4
  clear m3 c2 x1 x2 W3 S2
  -- or
  have c3 := S3.cell
  have m4 := sit_or S3 y1 y2 (by omega)
  go_wp2_with fail
  refine m4.mono ?_
  rintro e V4 ⟨k4, n4, rfl, S4, W4⟩
  have z1 := y1.on S3.good S4.good W4.on
  have z2 := y2.on S3.good S4.good W4.on
  have z3 := y3.on S3.good S4.good W4.on
  have z4 := W4.is
  have L4 := W4.len4
  clear m4 c3 y1 y2 y3 W4 S3
  -- unlike
  have c4 := S4.cell
  have m5 := sit_xor S4 z1 z2 (by omega)
  go_wp2_with fail
  refine m5.mono ?_
  rintro e V5 ⟨k5, n5, rfl, S5, W5⟩
  have y1 := z1.on S4.good S5.good W5.on
  have y3 := z3.on S4.good S5.good W5.on
  have y4 := z4.on S4.good S5.good W5.on
  have y5 := W5.is
  have L5 := W5.len4
  clear m5 c4 z1 z2 z3 z4 W5 S4
  -- not
  have c5 := S5.cell
  have m6 := sit_not S5 y1 (by omega)
  go_wp2_with fail
  refine m6.mono ?_
  rintro e V6 ⟨k6, n6, rfl, S6, W6⟩
  have z3 := table_is (y3.on S5.good S6.good W6.on) l_and (fun φ => by rw [t_and, opChoose]; cases tb f φ <;> simp)
  have z4 := table_is (y4.on S5.good S6.good W6.on) l_or (fun φ => by rw [t_or, opChoose]; cases tb f φ <;> simp)
  have z5 := table_is (y5.on S5.good S6.good W6.on) l_xor (fun φ => by rw [t_xor, opDiffer])
  have z6 := table_is W6.is l_not (fun φ => by rw [t_not, opChoose]; cases tb f φ <;> simp)
  clear m6 c5 y1 y3 y4 y5 W6 S5
  go_wp2_with fail
  refine (twoF_any S6 k3 z3).mono ?_
  rintro e V7 ⟨rfl, b7⟩
  have S7 := S6.on b7
  clear z3
  go_wp2_with fail
  refine (twoF_any S7 k4 z4).mono ?_
  rintro e V8 ⟨rfl, b8⟩
  have S8 := S7.on b8
  clear z4
  go_wp2_with fail
  refine (twoF_any S8 k5 z5).mono ?_
  rintro e V9 ⟨rfl, b9⟩
  have S9 := S8.on b9
  clear z5
  go_wp2_with fail
  refine (twoF_any S9 k6 z6).mono ?_
  rintro e V10 ⟨rfl, b10⟩
  have S10 := S9.on b10
  clear z6
  go_wp2_with fail
  go_ret
  exact ⟨rfl, S10.below⟩
end Go.Proofs.Ythiomnlbemimjaa
