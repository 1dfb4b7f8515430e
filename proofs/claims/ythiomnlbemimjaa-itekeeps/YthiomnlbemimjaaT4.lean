/- IteKeeps: the walk. -/
import Derived.Test.YthiomnlbemimjaaT1
import Derived.LoopTactic
import Derived.Deep.RegionHeld3
import Derived.Deep.AppendLies
namespace Go.Proofs.Ythiomnlbemimjaa
open Go.RowKit

theorem c200 : clampN 200 = 200 := rfl
theorem len2 : (first2.length : Int) = 2 := rfl

theorem rowN_kept {w w' : World} {fv : Value} {n : Nat} {xs : List Value} {own : List Nat} (h : w.ownsRow 0 44 3 fv n xs) (k : Kept own w w') (hn : ∀ b, fv.ownBlock = some b → b ∉ own) : w'.ownsRow 0 44 3 fv n xs := by
  obtain ⟨h1, h2⟩ := h
  refine ⟨h1, ?_⟩
  rcases h2 with h2 | ⟨g, cap, cur, rfl, hb, hg, r⟩
  · exact .inl h2
  · exact .inr ⟨g, cap, cur, rfl, hb, k.stays hg (hn g rfl), r⟩
theorem rowN_lt {w : World} {fv : Value} {n : Nat} {xs : List Value} (h : w.ownsRow 0 44 3 fv n xs) : ∀ b, fv.ownBlock = some b → b < w.heap.size := fun b hb => (h.lt b hb).2
/-- The first n nodes. -/
def firstN (ns : List Nd) (n : Nat) : List Value := (ns.take n).flatMap ndL
theorem firstN_succ {ns : List Nd} {j : Nat} (hj : j < ns.length) : firstN ns (j + 1) = firstN ns j ++ ndL (ndAt ns j) := by
  unfold firstN
  rw [List.take_add_one, List.flatMap_append]
  congr 1
  simp [ndAt, List.getElem?_eq_getElem hj]
theorem rowN_form {w : World} {fv : Value} {ns : List Nd} {n : Nat} (hn : n ≤ ns.length) (h : w.ownsRow 0 44 3 fv n (firstN ns n)) :
    ∃ ao capf, fv = .slice ao n capf ∧ (0 < n → ∃ gf, ao = some ⟨gf, 0, none⟩ ∧ fv.ownBlock = some gf ∧ ∀ i, i < n → w.cell? ⟨gf, i * 3, none⟩ = some (.int .i64 (ndAt ns i).v) ∧ w.cell? ⟨gf, i * 3 + 1, none⟩ = some (.int .i64 (ndAt ns i).lo) ∧ w.cell? ⟨gf, i * 3 + 2, none⟩ = some (.int .i64 (ndAt ns i).hi)) := by
  rcases h.2 with ⟨rfl, rfl⟩ | ⟨gf, capf, cur, rfl, _, hg, h1, _, h3, h4⟩
  · exact ⟨none, 0, rfl, fun h => by omega⟩
  · refine ⟨_, capf, rfl, fun _ => ⟨gf, rfl, rfl, fun i hi => ?_⟩⟩
    have key : ∀ j, j < 3 → w.cell? ⟨gf, i * 3 + j, none⟩ = (ndL (ndAt ns i))[j]? := fun j hj => by
      simp only [World.cell?, hg]
      have e1 : (cur.toList.take (n * 3))[i * 3 + j]? = cur.toList[i * 3 + j]? := List.getElem?_take_of_lt (by omega)
      rw [h4, firstN, flat_get (ns.take n) i j (by simp; omega) hj] at e1
      have e2 : ndAt (ns.take n) i = ndAt ns i := by simp [ndAt, List.getD, List.getElem?_take_of_lt hi]
      rw [e2] at e1
      rw [e1]
      simp
    exact ⟨key 0 (by omega), key 1 (by omega), key 2 (by omega)⟩

set_option maxHeartbeats 2000000 in
theorem itekeeps_any (f g : Nat) (hf : f < 65536) (hg : g < 65536) (w : World) :
    Calls Try.prog 6 #[.int .u16 f, .int .u16 g] w fun e w' => e = .returned (.bool true) ∧ Below w.heap.size w w' := by
  obtain ⟨i0, hi0, hz0, hz1, hz2⟩ := info_parts infoN
  have hnil := errV_zero
  go_enter Try.func6, Try.ntmps6
  go_wp2_with fail
  refine (awake2_any w).mono ?_
  rintro e w0 ⟨rfl, b0⟩
  go_wp2_with fail
  refine (of_any 200 w0).mono ?_
  rintro e w1 ⟨rfl, a1, b1, s1⟩
  have B1 := Below.up b0 b1 (Nat.le_refl _)
  have hs0 := b0.size
  obtain ⟨p, hp, hp'⟩ : ∃ p, w.heap.size ≤ p ∧ p = w0.heap.size + 2 := ⟨_, by omega, rfl⟩
  obtain ⟨gg, hgg, hg'⟩ : ∃ gg, w.heap.size ≤ gg ∧ gg = w0.heap.size := ⟨_, by omega, rfl⟩
  obtain ⟨m, hmm, hm'⟩ : ∃ m, w.heap.size ≤ m ∧ m = w0.heap.size + 1 := ⟨_, by omega, rfl⟩
  rw [← hp', ← hm', ← hg', c200] at a1
  rw [← hp']
  clear hp' hm' hg' s1 b0 b1 hs0
  have m1 := build_any f hf a1
  have D1 := built f a1.good (upto_first 4) (by rw [len2]; decide)
  have L1 := D1.len
  rw [len2] at L1
  generalize bld 200 f 4 0 0 first2 = R1 at m1 D1 L1
  go_wp2_with fail
  refine m1.mono ?_
  rintro e w2 ⟨g2, c2, rfl, a2, q2, e2⟩
  obtain ⟨b2, hg2⟩ := next B1 (Nat.le_refl _) hp hgg hmm q2 e2
  clear m1 a1 B1 q2 e2 hgg
  have m2 := build_any g hg a2
  have D2 := built g a2.good D1.upto (by omega)
  have L2 := D2.len
  generalize bld 200 g 4 0 0 R1.2 = R2 at m2 D2 L2
  go_wp2_with fail
  refine m2.mono ?_
  rintro e w3 ⟨g3, c3, rfl, a3, q3, e3⟩
  obtain ⟨b3, hg3⟩ := next b2 (Nat.le_refl _) hp hg2 hmm q3 e3
  have x1 := D1.is.on D1.good D2.good D2.on
  have x2 := D2.is
  have u2 := D2.upto
  clear m2 b2 q3 e3 hg2 a2 D1 D2
  obtain ⟨ns, hns⟩ : ∃ ns, ns = R2.2 := ⟨_, rfl⟩
  rw [← hns] at a3 x1 x2 u2
  have hlen : ns.length ≤ 32 := by rw [hns]; omega
  obtain ⟨X, hX⟩ : ∃ X, X = R1.1 := ⟨_, rfl⟩
  obtain ⟨Y, hY⟩ : ∃ Y, Y = R2.1 := ⟨_, rfl⟩
  rw [← hX] at x1 ⊢
  rw [← hY] at x2 ⊢
  clear hns hX hY L1 L2
  clear R1 R2
  have hl := len_any a3
  go_wp2_with fail
  refine hl.mono ?_
  rintro e w3' ⟨rfl, rfl⟩
  clear hl
  go_wp2_with fail
  go_loopw [9, 10] (fun fv i wr => ∃ j : Nat, j ≤ ns.length ∧ i = .int .i64 j ∧ wr.ownsRow 0 44 3 fv j (firstN ns j) ∧ (∀ b, fv.ownBlock = some b → w3'.heap.size ≤ b) ∧ Below w3'.heap.size w3' wr) (fun _ i _ => ns.length - (intOf i).toNat)
  case atStart => exact ⟨0, by omega, rfl, World.ownsRow_nil _ _ _ _, (by intro b hb; cases hb), Below.refl _ _⟩
  case round =>
    obtain ⟨j, hj, rfl, hrow, hown, hbel⟩ := hrel
    rename World => wr
    by_cases hlt : j < ns.length
    · have h1 : (j : Int) < ns.length := by omega
      have h9 : (ns.length : Int) ≤ 32 := by omega
      have hge := get_any (a3.below hbel) j
      rw [getN_in hlt] at hge
      go_wp2_with fail
      refine hge.mono ?_
      rintro e w4 ⟨rfl, b4, s4⟩
      have hrow4 := rowN_kept hrow (Kept.of_below b4 []) (by simp)
      have hlt4 := rowN_lt hrow
      have hb4 := Below.up hbel b4 (Nat.le_refl _)
      have hsucc := firstN_succ hlt
      unfold ndL at hsucc
      unfold ndV
      generalize ndAt ns j = nd at hsucc ⊢
      obtain ⟨x, y, z⟩ := nd
      simp only at hsucc ⊢
      have HS : Hid (firstN ns (j + 1) = firstN ns j ++ [.int .i64 x, .int .i64 y, .int .i64 z]) := hsucc
      clear hge s4 b4 hsucc
      go_wp2_with (at_builtin; refine wpList_append_lies _ rfl _ _ _ rfl 0 44 i0 (.agg #[.int .i64 0, .int .i64 0, .int .i64 0]) 3 24 Try.underlying42 hi0 hz0 hz1 hz2 rfl (by omega) _ j (firstN ns j) rfl (hrow4.alloc _) ⟨w4.heap.size, 0, none⟩ 1 1 [.int .i64 x, .int .i64 y, .int .i64 z] rfl rfl (World.news_of_block (cs := #[.int .i64 x, .int .i64 y, .int .i64 z]) (t := 44) (fr := (0, 0)) (heap_new_at _ _ _ rfl)) (by simp [Value.oneCell']) (by omega) (by unfold maxLen; omega) (by omega) (Nat.zero_le _) (w4.heap.size + 1) (by simp) ?_; intro gf capf w5 hown5 hgrow5 hat5 hlt5)
      go_roundw
      case rel =>
        have sz4 := hb4.size
        refine ⟨j + 1, by omega, by go_num, ?_, ?_, ?_⟩
        · rw [HS.out]
          exact hown5
        · intro b hb
          have eb : b = gf := by simpa [Value.ownBlock] using hb.symm
          subst eb
          rcases hat5 with h | h
          · exact hown _ h
          · omega
        · exact Below.grown (hb4.alloc sz4 _) hgrow5 (by simp; omega) hown
      case measure => simp [intOf]; omega
    · obtain rfl : j = ns.length := by omega
      have hx := ixor_any (a3.below hbel) (N := 4) (by decide) u2 X Y
      have lp := a3.ltp
      have lg := a3.ltg
      have lm := a3.ltm
      go_wp2_with fail
      refine hx.mono ?_
      rintro e V ⟨g5, c5, n5, k, e1, rfl, a5, q5, e5, O5⟩
      have G3 := a3.good
      obtain ⟨rfl, W5⟩ := iout_room x1 x2 (d0 G3) O5 (room4 (by omega))
      have hrowV := rowN_kept hrow q5 (fun b hb => by have := hown b hb; simp; omega)
      have bV : Below w.heap.size w V := (next (Below.up b3 hbel (Nat.le_refl _)) (Nat.le_refl _) hp hg3 hmm q5 e5).1
      have O := W5.on
      obtain ⟨ao, capf, rfl, hform⟩ := rowN_form (Nat.le_refl _) hrowV
      obtain ⟨gf, rfl, hgf, hcells⟩ := hform (by have := G3.len; omega)
      have lgf := rowN_lt hrowV gf hgf
      have O' := O.len
      clear hx O5 W5 x1 x2 u2 q5 e5 hrow hown hrowV hform
      go_wp2_with fail
      go_loopw [13] (fun i wr2 => ∃ j : Nat, j ≤ ns.length ∧ i = .int .i64 j ∧ Below V.heap.size V wr2) (fun i _ => ns.length - (intOf i).toNat)
      case atStart => exact ⟨0, by omega, rfl, Below.refl _ _⟩
      case round =>
        obtain ⟨j, hj, rfl, hbel2⟩ := hrel
        rename World => wr2
        by_cases hlt : j < ns.length
        · have h1 : (j : Int) < ns.length := by omega
          have h0 : (0 : Int) ≤ (j : Int) := by omega
          have hge := fun (U : World) (hU : Below wr2.heap.size wr2 U) => get_any ((a5.below hbel2).below hU) j
          rw [O.get hlt, getN_in hlt] at hge
          obtain ⟨K0, K1, K2⟩ := hcells j hlt
          unfold ndV at hge
          generalize ndAt ns j = nd at hge K0 K1 K2
          obtain ⟨x, y, z⟩ := nd
          simp only at hge K0 K1 K2
          have lgf2 : gf < wr2.heap.size := Nat.lt_of_lt_of_le lgf hbel2.size
          have Q0 : wr2.cell? ⟨gf, j * 3, none⟩ = some (.int .i64 x) := by rw [hbel2.cell lgf]; exact K0
          have Q1 : wr2.cell? ⟨gf, j * 3 + 1, none⟩ = some (.int .i64 y) := by rw [hbel2.cell lgf]; exact K1
          have Q2 : wr2.cell? ⟨gf, j * 3 + 2, none⟩ = some (.int .i64 z) := by rw [hbel2.cell lgf]; exact K2
          have HC : ∀ U, Below wr2.heap.size wr2 U → U.cell? ⟨gf, j * 3, none⟩ = some (.int .i64 x) ∧ U.cell? ⟨gf, j * 3 + 1, none⟩ = some (.int .i64 y) ∧ U.cell? ⟨gf, j * 3 + 2, none⟩ = some (.int .i64 z) := fun U hU => ⟨by rw [hU.cell lgf2]; exact Q0, by rw [hU.cell lgf2]; exact Q1, by rw [hU.cell lgf2]; exact Q2⟩
          have hX0 : Below wr2.heap.size wr2 wr2.drew := (Below.refl _ _).drew
          clear hcells K0 K1 K2
          go_wp2_with fail
          go_region_held3 (fun U => U.cell? ⟨gf, j * 3, none⟩ = some (.int .i64 x) ∧ U.cell? ⟨gf, j * 3 + 1, none⟩ = some (.int .i64 y) ∧ U.cell? ⟨gf, j * 3 + 2, none⟩ = some (.int .i64 z))
            (first
              | exact HC _ hX0
              | exact HC _ hXn)
            (first
              | (go_at_call 22; refine (hge _ hX0).mono ?_; rintro e U ⟨rfl, hbu, hsu⟩; have hXn := Below.up hX0 hbu (Nat.le_refl _)))
          clear hge HC Q0 Q1 Q2
          go_wp2_with fail
          go_roundw
          case rel => exact ⟨j + 1, by omega, by go_num, Below.up hbel2 hXn (Nat.le_refl _)⟩
          case measure => simp [intOf]; omega
        · obtain rfl : j = ns.length := by omega
          have hl := len_any (a5.below hbel2)
          go_wp2_with fail
          refine hl.mono ?_
          rintro e _ ⟨rfl, rfl⟩
          go_wp2_with fail
          go_ret
          exact ⟨congrArg (fun x => Ending.returned (.bool x)) (by simp), Below.up bV hbel2 (Nat.le_refl _)⟩
end Go.Proofs.Ythiomnlbemimjaa
