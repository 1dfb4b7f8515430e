/- ArenaGrow: the walk. -/
import Derived.Test.YthlbelpooplgeaaG0
import Derived.Deep.AppendLies
namespace Go.Proofs.Ythlbelpooplgeaa
open Go.RowKit Go.Maps

/-- What came in: a list of numbers. -/
structure Came16 (w : World) (a : Option Addr) (len : Nat) (t : Nat → Nat) : Prop where
  some : 0 < len → ∃ b off, a = some ⟨b, off, none⟩ ∧ ∀ i, i < len → w.cell? ⟨b, off + i, none⟩ = some (.int .u16 (t i))
  small : ∀ i, i < len → t i < 65536

set_option maxHeartbeats 2000000 in
theorem grow_any (a : Option Addr) (len cap : Nat) (t : Nat → Nat) (w : World) (hlen : len ≤ maxLen) (hc : Came16 w a len t) :
    Calls Try.prog 5 #[.slice a len cap] w fun e w' => e = .returned (.bool true) ∧ Below w.heap.size w w' := by
  unfold maxLen at hlen
  obtain ⟨i0, hi0, hz0, hz1, hz2⟩ := info_parts info3
  go_enter Try.func5, Try.ntmps5
  go_wp2_with fail
  refine (awake_any w).mono ?_
  rintro e w0 ⟨rfl, b0⟩
  go_wp2_with fail
  refine (of_any 4096 w0).mono ?_
  rintro e w1 ⟨rfl, a1, b1, s1⟩
  have B1 := Below.up b0 b1 (Nat.le_refl _)
  have hs0 := b0.size
  obtain ⟨p, hp, hp'⟩ : ∃ p, w.heap.size ≤ p ∧ p = w0.heap.size + 2 := ⟨_, by omega, rfl⟩
  obtain ⟨g, hg, hg'⟩ : ∃ g, w.heap.size ≤ g ∧ g = w0.heap.size := ⟨_, by omega, rfl⟩
  obtain ⟨m, hmm, hm'⟩ : ∃ m, w.heap.size ≤ m ∧ m = w0.heap.size + 1 := ⟨_, by omega, rfl⟩
  rw [← hp', ← hm', ← hg', c4096] at a1
  rw [← hp']
  clear hp' hm' hg' s1 b0 b1 hs0
  go_wp2_with fail
  go_loopw [4, 16] (fun fv i wr => ∃ (j g' cap' : Nat), j ≤ len ∧ i = .int .i64 j ∧ ArenaAt 49 33 wr p g' m cap' 4096 (grw t (min j 20)) ∧ w.heap.size ≤ g' ∧ wr.ownsRow 0 3 1 fv (min j 20) (ints (fsTo t (min j 20))) ∧ (∀ b, fv.ownBlock = some b → b ≠ p ∧ b ≠ g' ∧ b ≠ m ∧ w.heap.size ≤ b) ∧ Below w.heap.size w wr) (fun _ i _ => len - (intOf i).toNat)
  case atStart => exact ⟨0, g, 2, by omega, rfl, a1, hg, World.ownsRow_nil _ _ _ _, (by intro b hb; cases hb), B1⟩
  case round =>
    rename World => wr
    obtain ⟨j, g', cap', hj, rfl, aj, hgj, hrow, hown, hbel⟩ := hrel
    clear a1 B1 hg
    by_cases hlt : j < len
    · obtain ⟨ab, ao, rfl, hcell⟩ := hc.some (by omega)
      have hsm := hc.small j hlt
      have hcj : wr.cell? ⟨ab, ao + j, none⟩ = some (.int .u16 (t j)) := by
        rw [hbel.cell (p := ⟨ab, ao + j, none⟩) (World.block_lt_of_cell? w _ (hcell j hlt))]
        exact hcell j hlt
      have h1 : (j : Int) < len := by omega
      have h0 : (0 : Int) ≤ (j : Int) := by omega
      have h9 : (len : Int) ≤ 9223372036854775807 := by omega
      by_cases h20 : j < 20
      · have h2 : (j : Int) < 20 := by omega
        have em : min j 20 = j := by omega
        have em' : min (j + 1) 20 = j + 1 := by omega
        rw [em] at aj hrow
        have hb := build_any (t j) hsm aj
        go_wp2_with fail
        refine hb.mono ?_
        rintro e w2 ⟨g2, c2, rfl, a2, q2, e2⟩
        obtain ⟨b2, hg2⟩ := next hbel (Nat.le_refl _) hp hgj hmm q2 e2
        have hrow2 := row_kept hrow q2 (fun b hb => by have := hown b hb; simp; omega)
        have hlt2 := row_lt hrow
        have ek : (bld 4096 (t j) 4 0 0 (grw t j)).1 = grk t j := rfl
        have en : (bld 4096 (t j) 4 0 0 (grw t j)).2 = grw t (j + 1) := rfl
        rw [ek]
        rw [en] at a2
        clear hb q2 ek en hcell hcj
        go_wp2_with (at_builtin; refine wpList_append_lies _ rfl _ _ _ rfl 0 3 i0 (.int .i64 0) 1 8 Try.underlying36 hi0 hz0 hz1 hz2 rfl (by omega) _ j (ints (fsTo t j)) rfl (hrow2.alloc _) ⟨w2.heap.size, 0, none⟩ 1 1 [.int .i64 (grk t j)] rfl rfl (World.news_of_block (cs := #[.int .i64 (grk t j)]) (t := 3) (fr := (0, 0)) (heap_new_at _ _ _ rfl)) (by simp [Value.oneCell']) (by omega) (by unfold maxLen; omega) (by omega) (Nat.zero_le _) (w2.heap.size + 1) (by simp) ?_; intro gf capf w3 hown3 hgrow3 hat3 hlt3)
        go_roundw
        case rel =>
          have ga : ∀ b, Value.ownBlock _ = some b → b ≠ p ∧ b ≠ g2 ∧ b ≠ m := fun b hb => by
            have := hown b hb
            have := hlt2 b hb
            omega
          refine ⟨j + 1, g2, c2, by omega, by go_num, ?_, hg2, ?_, ?_, ?_⟩
          · rw [em']
            exact arena_grown (a2.below ((Below.refl _ _).alloc (Nat.le_refl _) _)) hgrow3 ga
          · rw [em', fsTo_succ]
            simpa [ints] using hown3
          · intro b hb
            have eb : b = gf := by simpa [Value.ownBlock] using hb.symm
            subst eb
            have l1 := a2.ltp
            have l2 := a2.ltg
            have l3 := a2.ltm
            rcases hat3 with h | h
            · have := hown _ h
              have := ga _ h
              omega
            · have := b2.size
              omega
          · exact Below.grown (b2.alloc b2.size _) hgrow3 (by simp; have := b2.size; omega) (fun b hb => (hown b hb).2.2.2)
        case measure => simp [intOf]; omega
      · have h2 : ¬ (j : Int) < 20 := by omega
        have em : min j 20 = 20 := by omega
        have em' : min (j + 1) 20 = 20 := by omega
        go_wp2_with fail
        go_roundw
        case rel => exact ⟨j + 1, g', cap', by omega, by go_num, by rw [em']; rwa [em] at aj, hgj, by rw [em']; rwa [em] at hrow, hown, hbel⟩
        case measure => simp [intOf]; omega
    · obtain rfl : j = len := by omega
      have hmm2 := @run_makeMap Try.prog
      obtain ⟨fo, fc, rfl, _⟩ := row_form hrow
      generalize hns : grw t (min j 20) = ns at aj
      have HNS : Hid (grw t (min j 20) = ns) := hns
      clear hns
      go_wp2_with fail
      obtain ⟨W, hW⟩ : ∃ W, W = wr.alloc (.map #[] 0) := ⟨_, rfl⟩
      obtain ⟨m2, hm2⟩ : ∃ m2, m2 = wr.heap.size := ⟨_, rfl⟩
      rw [← hW, ← hm2]
      have W1 : Below wr.heap.size wr W := by rw [hW]; exact (Below.refl _ _).alloc (Nat.le_refl _) _
      have W2 : mapIs W m2 (seenTo ns 2) := ⟨#[], 0, by rw [hW, hm2]; exact heap_new_at _ _ _ rfl, by simp [seenTo]⟩
      have W3 := Below.up hbel W1 (Nat.le_refl _)
      have W4 := aj.below W1
      have W5 := row_below hrow W1
      obtain ⟨fo', fc', e', hform⟩ := row_form W5
      cases e'
      have l2 : m2 < W.heap.size := by rw [hW, hm2]; simp
      have n2 : m2 ≠ p ∧ m2 ≠ g' ∧ m2 ≠ m := by
        have := aj.ltp
        have := aj.ltg
        have := aj.ltm
        omega
      have n3 : w.heap.size ≤ m2 := by
        have := hbel.size
        omega
      have n4 : ∀ b, Value.ownBlock _ = some b → b ≠ m2 := fun b hb => by
        have := row_lt hrow b hb
        omega
      clear hW hm2 W1 hbel aj hrow
      go_loopw [8] (fun i wr => ∃ k : Nat, 2 ≤ k ∧ k ≤ ns.length ∧ i = .int .i64 k ∧ mapIs wr m2 (seenTo ns k) ∧ Kept [m2] W wr) (fun i _ => ns.length - (intOf i).toNat)
      case atStart => exact ⟨2, by omega, W4.good.len, rfl, W2, Kept.refl _ _⟩
      case round =>
        rename World => wr2
        obtain ⟨k, hk2, hkl, rfl, hmap, hkept⟩ := hrel
        clear W2
        have A2 : ArenaAt 49 33 wr2 p g' m cap' 4096 ns := W4.stays (hkept.block p W4.ltp (by simp; omega)) (hkept.block g' W4.ltg (by simp; omega)) (hkept.block m W4.ltm (by simp; omega))
        have hl := len_any A2
        have h9 : (ns.length : Int) ≤ 4096 := A2.good.room
        by_cases hkt : k < ns.length
        · have hg1 := get_any A2 k
          rw [getN_in hkt] at hg1
          have d1 : (k : Int) < ns.length := by omega
          go_wp2_with fail
          refine hl.mono ?_
          rintro e wq ⟨rfl, rfl⟩
          go_wp2_with fail
          refine hg1.mono ?_
          rintro e w5 ⟨rfl, b5, s5⟩
          have hm5 : mapIs w5 m2 (seenTo ns k) := by
            obtain ⟨es, c, he1, he2⟩ := hmap
            exact ⟨es, c, below_block b5 he1, he2⟩
          have hlook := seen_look A2.good hk2 hkt hm5
          have hg2 := get_any (A2.below b5) k
          rw [getN_in hkt] at hg2
          clear hg1 hl
          go_wp2_with fail
          refine hg2.mono ?_
          rintro e w6 ⟨rfl, b6, s6⟩
          have b56 := Below.up b5 b6 (Nat.le_refl _)
          have hm6 : mapIs w6 m2 (seenTo ns k) := by
            obtain ⟨es, c, he1, he2⟩ := hm5
            exact ⟨es, c, below_block b6 he1, he2⟩
          obtain ⟨w7, hst, hm7, hgr⟩ := seen_store A2.good hk2 hkt hm6
          clear hg2 hlook hm5 hm6
          go_wp2_with fail
          go_roundw
          case rel =>
            refine ⟨k + 1, by omega, by omega, by go_num, hm7, ?_⟩
            have k6 := hkept.up b56
            refine ⟨hgr.os.trans k6.os, hgr.tape.trans k6.tape, hgr.output.trans k6.output, Nat.le_trans k6.size hgr.size, fun x hx hn => ?_⟩
            have := k6.size
            rw [hgr.block x (by omega) (by simp at hn ⊢; omega), k6.block x hx hn]
          case measure => simp [intOf]; omega
        · obtain rfl : k = ns.length := by omega
          go_wp2_with fail
          refine hl.mono ?_
          rintro e wq ⟨rfl, rfl⟩
          have hn20 : min j 20 ≤ 20 := by omega
          have hnj : min j 20 ≤ j := by omega
          generalize hnn : min j 20 = n at *
          have HNN : Hid (min j 20 = n) := hnn
          clear hnn hl W5 hown
          have h20 : (n : Int) ≤ 20 := by omega
          go_wp2_with fail
          go_loopw [48] (fun i wr => ∃ k : Nat, k ≤ n ∧ i = .int .i64 k ∧ Below wq.heap.size wq wr) (fun i _ => n - (intOf i).toNat)
          case atStart => exact ⟨0, by omega, rfl, Below.refl _ _⟩
          case round =>
            rename World => wr3
            obtain ⟨i, hin, rfl, hb3⟩ := hrel
            by_cases hit : i < n
            · obtain ⟨gf, rfl, hgf, hfc⟩ := hform (by omega)
              obtain ⟨ab, ao, rfl, hcell⟩ := hc.some (by omega)
              have hsm := hc.small i (by omega)
              have lW : gf < W.heap.size := World.block_lt_of_cell? W ⟨gf, i, none⟩ (hfc i hit)
              have hfi : wr3.cell? ⟨gf, i, none⟩ = some (.int .i64 (grk t i)) := by
                rw [hb3.cell (p := ⟨gf, i, none⟩) (Nat.lt_of_lt_of_le lW hkept.size), World.cell?_of_block (hkept.block gf lW (by simp; exact n4 gf hgf))]
                exact hfc i hit
              have hA3 := A2.below hb3
              have hbw : Below w.heap.size w wr3 := Below.up (Below.kept W3 hkept (Nat.le_refl _) (by simp; exact n3)) hb3 (Nat.le_refl _)
              have hbi : ∀ U, Below wr3.heap.size wr3 U → U.cell? ⟨ab, ao + i, none⟩ = some (.int .u16 (t i)) := fun U hU => by
                rw [(Below.up hbw hU (Nat.le_refl _)).cell (p := ⟨ab, ao + i, none⟩) (World.block_lt_of_cell? w _ (hcell i (by omega)))]
                exact hcell i (by omega)
              have hright := grw_right t i n hit hn20 hsm
              rw [HNS.out] at hright
              have T1 : ∀ U, Below wr3.heap.size wr3 U → _ := fun U hU => table_any (hA3.below hU) (grk t i)
              have T2 := fun U => bits_any (fun k => evalP ns (rowF k) (grk t i)) U
              rw [hright] at T2
              generalize row16 (fun k => evalP ns (rowF k) (grk t i)) = rr at T1 T2
              have d1 : (i : Int) < n := by omega
              have d0 : (0 : Int) ≤ (i : Int) := by omega
              have dj : (i : Int) < (j : Int) := by omega
              have c0 := hbi wr3 (Below.refl _ _)
              clear hform hc hcell hfc A2 hA3 hright hkept hmap
              go_wp2_with fail
              go_region_held3 (fun U => U.cell? ⟨ab, ao + i, none⟩ = some (.int .u16 (t i)) ∧ Below wr3.heap.size wr3 U)
                (first
                  | exact ⟨c0, (Below.refl _ _).drew⟩
                  | (go_split_ands; have hz := Below.up (by assumption) hbu (Nat.le_refl _); exact ⟨hbi _ hz, hz⟩))
                (first
                  | (go_at_call 10; go_split_ands; refine (T1 _ ?_).mono ?_; assumption; rintro e U ⟨rfl, hbu⟩)
                  | (go_at_call 9; go_split_ands; refine (T2 _).mono ?_; rintro e U ⟨rfl, hbu⟩))
              go_wp2_with fail
              go_roundw
              case rel => exact ⟨i + 1, by omega, by go_num, Below.up hb3 (by go_split_ands; assumption) (Nat.le_refl _)⟩
              case measure => simp [intOf]; omega
            · go_wp2_with fail
              go_ret
              exact ⟨rfl, Below.up (Below.kept W3 hkept (Nat.le_refl _) (by simp; exact n3)) hb3 (Nat.le_refl _)⟩
end Go.Proofs.Ythlbelpooplgeaa
