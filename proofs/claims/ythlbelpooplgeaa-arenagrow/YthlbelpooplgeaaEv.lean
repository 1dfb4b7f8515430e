/- ArenaEval: the walk. -/
import Derived.Test.YthlbelpooplgeaaTb2
import Derived.Test.YthlbelpooplgeaaOrd
namespace Go.Proofs.Ythlbelpooplgeaa
open Go.RowKit

theorem rowOf_rowF : ∀ k : Nat, k < 16 → rowOf (rowF k) 4 0 0 = k := by
  have : ∀ k : Fin 16, rowOf (rowF k.val) 4 0 0 = k.val := by decide
  exact fun k hk => this ⟨k, hk⟩
theorem numTo_bits (bits : Nat) : ∀ k, numTo (fun i => bitN bits i == 1) k = bits % 2 ^ k
  | 0 => by simp [numTo]; omega
  | k + 1 => by
    rw [numTo, numTo_bits bits k, Nat.pow_succ, Nat.mod_mul]
    have : ((bitN bits k == 1) = true) ↔ bits / 2 ^ k % 2 = 1 := by
      rw [bitN, beq_iff_eq]
      generalize bits / 2 ^ k = q
      omega
    by_cases h : bits / 2 ^ k % 2 = 1
    · rw [if_pos (this.2 h), h]; omega
    · rw [if_neg (fun e => h (this.1 e))]
      have : bits / 2 ^ k % 2 = 0 := by omega
      rw [this]
      omega
theorem numTo_congr {b c : Nat → Bool} : ∀ k, (∀ i, i < k → b i = c i) → numTo b k = numTo c k
  | 0, _ => rfl
  | k + 1, h => by rw [numTo, numTo, numTo_congr k (fun i hi => h i (by omega)), h k (by omega)]

/-- What two builds do. -/
theorem ev_all (bits more : Nat) (hb : bits < 65536) (hm : more < 65536) : ∃ n1 n2 k1 k2, bld 100 bits 4 0 0 first2 = (k1, n1) ∧ bld 100 more 4 0 0 n1 = (k2, n2) ∧
    numTo (fun k => evalP n2 (rowF k) k1) 16 = bits ∧ numTo (fun k => evalP n2 (rowF k) k2) 16 = more ∧ (k1 = k2 ↔ bits = more) := by
  have g0 : Good 100 first2 := good2 100
  obtain ⟨a1, a2, a3, a4, a5, a6⟩ := bld_all 100 bits 4 0 0 first2 g0 (by decide) (by decide)
  have e1 : (first2.length : Int) = 2 := rfl
  have e2 : (2 : Int) ^ 4 = 16 := rfl
  rw [e1, e2] at a3
  generalize hA : bld 100 bits 4 0 0 first2 = A at a1 a2 a3 a4 a5 a6
  obtain ⟨b1, b2, b3, b4, b5, b6⟩ := bld_all 100 more 4 0 0 A.2 a1 (by decide) (by rw [e2]; omega)
  generalize hB : bld 100 more 4 0 0 A.2 = B at b1 b2 b3 b4 b5
  have q1 : numTo (fun k => evalP B.2 (rowF k) A.1) 16 = bits := by
    rw [numTo_congr (c := fun i => bitN bits i == 1) 16, numTo_bits]
    · omega
    · intro i hi
      obtain ⟨j, ej, hj, _⟩ := a4
      have := evalP_on a1 b1 b2 (rowF i) (j + 1) j (by omega) hj
      rw [← ej] at this
      rw [this, a5, rowOf_rowF i hi]
  have q2 : numTo (fun k => evalP B.2 (rowF k) B.1) 16 = more := by
    rw [numTo_congr (c := fun i => bitN more i == 1) 16, numTo_bits]
    · omega
    · intro i hi
      rw [b5, rowOf_rowF i hi]
  refine ⟨A.2, B.2, A.1, B.1, rfl, hB, q1, q2, ?_, ?_⟩
  · intro e
    rw [← q1, ← q2, e]
  · rintro rfl
    have := a6 A.2 a1 (On.refl _)
    rw [hB] at this
    rw [this]

set_option maxHeartbeats 1000000 in
theorem ev_any (bits more : Nat) (hb : bits < 65536) (hm : more < 65536) (w : World) :
    Calls Try.prog 3 #[.int .u16 bits, .int .u16 more] w fun e w' => e = .returned (.bool true) ∧ Below w.heap.size w w' := by
  obtain ⟨n1, n2, k1, k2, E1, E2, Q1, Q2, Q3⟩ := ev_all bits more hb hm
  go_enter Try.func3, Try.ntmps3
  go_wp2_with fail
  refine (awake_any w).mono ?_
  rintro e w0 ⟨rfl, b0⟩
  go_wp2_with fail
  refine (of_any 100 w0).mono ?_
  rintro e w1 ⟨rfl, a1, b1, s1⟩
  have B1 := Below.up b0 b1 (Nat.le_refl _)
  have hs0 := b0.size
  obtain ⟨p, hp, hp'⟩ : ∃ p, w.heap.size ≤ p ∧ p = w0.heap.size + 2 := ⟨_, by omega, rfl⟩
  obtain ⟨g, hg, hg'⟩ : ∃ g, w.heap.size ≤ g ∧ g = w0.heap.size := ⟨_, by omega, rfl⟩
  obtain ⟨m, hmm, hm'⟩ : ∃ m, w.heap.size ≤ m ∧ m = w0.heap.size + 1 := ⟨_, by omega, rfl⟩
  rw [← hp', ← hm', ← hg', c100] at a1
  rw [← hp']
  clear hp' hm' hg' s1 b0 b1 hs0
  have m1 := build_any bits hb a1
  rw [E1] at m1
  go_wp2_with fail
  refine m1.mono ?_
  rintro e w2 ⟨g2, c2, rfl, a2, q2, e2⟩
  obtain ⟨b2, hg2⟩ := next B1 (Nat.le_refl _) hp hg hmm q2 e2
  clear m1 a1 B1 q2 e2 hg E1
  have m2 := build_any more hm a2
  rw [E2] at m2
  go_wp2_with fail
  refine m2.mono ?_
  rintro e w3 ⟨g3, c3, rfl, a3, q3, e3⟩
  obtain ⟨b3, hg3⟩ := next b2 (Nat.le_refl _) hp hg2 hmm q3 e3
  clear m2 a2 b2 q3 e3 hg2 E2
  simp only at a3 ⊢
  have t1 := table_any a3 k1
  have t2 := fun (V : World) (hV : Below w3.heap.size w3 V) => table_any (a3.below hV) k2
  have d3 : ((k1 == k2) == ((bits : Int) == (more : Int))) = true := by
    rw [beq_iff_eq, Bool.eq_iff_iff]
    simp only [beq_iff_eq]
    rw [Q3]
    omega
  have HD : Hid (((k1 == k2) == ((bits : Int) == (more : Int))) = true) := d3
  clear d3 Q3
  go_wp2_with fail
  refine t1.mono ?_
  rintro e w4 ⟨rfl, b4⟩
  have p1 := bits_any (fun k => evalP n2 (rowF k) k1) w4
  rw [Q1] at p1
  clear t1 Q1
  go_wp2_with fail
  refine p1.mono ?_
  rintro e w5 ⟨rfl, b5⟩
  have b45 := Below.up b4 b5 (Nat.le_refl _)
  have t3 := t2 w5 b45
  clear p1 t2 b4 b5
  go_wp2_with fail
  refine t3.mono ?_
  rintro e w6 ⟨rfl, b6⟩
  have p2 := bits_any (fun k => evalP n2 (rowF k) k2) w6
  rw [Q2] at p2
  clear t3 Q2
  go_wp2_with fail
  refine p2.mono ?_
  rintro e w7 ⟨rfl, b7⟩
  go_wp2_with fail
  go_ret
  exact ⟨congrArg (fun x => Ending.returned (.bool x)) HD.out, Below.up (Below.up (Below.up b3 b45 (Nat.le_refl _)) b6 (Nat.le_refl _)) b7 (Nat.le_refl _)⟩
end Go.Proofs.Ythlbelpooplgeaa
