/- ArenaScript: the walk. -/
import Derived.Test.YthlbelpooplgeaaDoorS0
import Derived.LoopTactic
import Derived.BigQuiet
import Derived.Deep.QuietTactic
import Derived.Deep.RegionHeld3
namespace Go.Proofs.YthlbelpooplgeaaDoor
open Go.RowKit Go.Maps

theorem clamp255 {most : Int} (h : 0 ≤ most) (h' : most ≤ 255) : clampN most = max 2 most := by unfold clampN; omega

set_option maxRecDepth 100000 in
set_option maxHeartbeats 4000000 in
theorem script_any (most : Int) (a : Option Addr) (len cap : Nat) (x : Nat → Nd) (w : World) (hL : Laid w) (h0 : 0 ≤ most) (h255 : most ≤ 255) (hlen : len ≤ maxLen) (hc : CameA w a len x) :
    Calls Tryd.prog 3 #[.int .u8 most, .slice a len cap] w fun e w' => e = .returned (.bool true) ∧ Below w.heap.size w w' := by
  unfold maxLen at hlen
  obtain ⟨i0, hi0, hz0, hz1, hz2⟩ := info_parts infoN
  have hcl := clamp255 h0 h255
  go_enter Tryd.func3, Tryd.ntmps3
  go_wp2_with fail
  refine (awake_any w).mono ?_
  rintro e w0 ⟨rfl, b0⟩
  go_wp2_with fail
  refine (of_any most w0).mono ?_
  rintro e w1 ⟨rfl, a1, b1, s1⟩
  have B1 := Below.up b0 b1 (Nat.le_refl _)
  have hs0 := b0.size
  obtain ⟨p, hp, hp'⟩ : ∃ p, w.heap.size ≤ p ∧ p = w0.heap.size + 2 := ⟨_, by omega, rfl⟩
  obtain ⟨g, hg, hg'⟩ : ∃ g, w.heap.size ≤ g ∧ g = w0.heap.size := ⟨_, by omega, rfl⟩
  obtain ⟨m, hmm, hm'⟩ : ∃ m, w.heap.size ≤ m ∧ m = w0.heap.size + 1 := ⟨_, by omega, rfl⟩
  rw [← hp', ← hm', ← hg', hcl] at a1
  rw [← hp']
  obtain ⟨room, hroom⟩ : ∃ room, room = max 2 most := ⟨_, rfl⟩
  rw [← hroom] at a1
  have hr1 : 2 ≤ room ∧ room ≤ 255 := by omega
  have hmx : (if most > 2 then most else 2) = room := by rw [hroom]; split <;> omega
  clear hroom
  clear hp' hm' hg' s1 b0 b1 hs0 hcl
  go_wp2_with fail
  clear hmx
  obtain ⟨W, hW⟩ : ∃ W, W = w1.alloc (.cells #[.int .i64 1024, .int .i64 0, .int .i64 0, .int .i64 1024, .int .i64 1, .int .i64 1] 27) := ⟨_, rfl⟩
  rw [← hW]
  have W1 : Below w1.heap.size w1 W := by rw [hW]; exact (Below.refl _ _).alloc (Nat.le_refl _) _
  have W2 : W.ownsRow 0 27 3 (.slice (some ⟨w1.heap.size, 0, none⟩) first2.length 2) first2.length (first2.flatMap ndL) :=
    ⟨by simp [first2, ndL], .inr ⟨w1.heap.size, 2, _, rfl, Nat.zero_le _, by rw [hW]; exact heap_new_at _ _ _ rfl, by simp [first2], by unfold maxLen; omega, by simp, by simp [first2, ndL]⟩⟩
  have W3 := a1.below W1
  have W4 := Below.up B1 W1 (Nat.le_refl _)
  have W5 : w1.heap.size ≠ p ∧ w1.heap.size ≠ g ∧ w1.heap.size ≠ m := by
    have := a1.ltp
    have := a1.ltg
    have := a1.ltm
    omega
  have W6 := B1.size
  clear hW W1 a1 B1
  go_loopw [7, 33] (fun nv i wr => ∃ (j g' cap' hb hcap : Nat) (ns : List Nd), j ≤ len ∧ i = .int .i64 j ∧ nv = .slice (some ⟨hb, 0, none⟩) ns.length hcap ∧ ArenaAt 48 27 wr p g' m cap' room ns ∧ w.heap.size ≤ g' ∧ wr.ownsRow 0 27 3 (.slice (some ⟨hb, 0, none⟩) ns.length hcap) ns.length (ns.flatMap ndL) ∧ (hb ≠ p ∧ hb ≠ g' ∧ hb ≠ m ∧ w.heap.size ≤ hb) ∧ Below w.heap.size w wr) (fun _ i _ => len - (intOf i).toNat)
  case atStart => exact ⟨0, g, 2, _, 2, first2, by omega, rfl, rfl, W3, hg, W2, ⟨W5.1, W5.2.1, W5.2.2, W6⟩, W4⟩
  case round =>
    rename World => wr
    obtain ⟨j, g', cap', hb, hcap, ns, hj, rfl, rfl, aj, hgj, hrow, hown, hbel⟩ := hrel
    clear W2 W3 W4 W5 W6 hg
    have hns := aj.good.room
    have hns2 := aj.good.len
    by_cases hlt : j < len
    · obtain ⟨ab, ao, rfl, hcell⟩ := hc.some (by omega)
      obtain ⟨X1, X2, X3⟩ := hcell j hlt
      have hsm := hc.small j hlt
      have lab : ab < w.heap.size := World.block_lt_of_cell? w _ X1
      rw [← hbel.cell (p := ⟨ab, ao + j * 3, none⟩) lab] at X1
      rw [← hbel.cell (p := ⟨ab, ao + j * 3 + 1, none⟩) lab] at X2
      rw [← hbel.cell (p := ⟨ab, ao + j * 3 + 2, none⟩) lab] at X3
      generalize x j = n at X1 X2 X3 hsm
      obtain ⟨v, lo, hi⟩ := n
      simp only at X1 X2 X3 hsm
      obtain ⟨v1, v2, l1, l2, u1, u2⟩ := hsm
      have h1 : (j : Int) < len := by omega
      have hz : (0 : Int) ≤ (j : Int) := by omega
      have h9 : (len : Int) ≤ 9223372036854775807 := by omega
      clear hcell hc
      go_wp2_with fail
      obtain ⟨U, hU⟩ : ∃ U, U = (wr.alloc (.cells #[.int .i8 v, .int .i8 lo, .int .i8 hi] 31)).alloc (.cells #[.int .i64 v, .int .i64 lo, .int .i64 hi] 27) := ⟨_, rfl⟩
      obtain ⟨bn, hbn⟩ : ∃ bn, bn = wr.heap.size + 1 := ⟨_, rfl⟩
      rw [← hU, ← hbn]
      have U1 : Below wr.heap.size wr U := by rw [hU]; exact ((Below.refl _ _).alloc (Nat.le_refl _) _).alloc (by simp) _
      have U2 : U.heap[bn]? = some (.cells #[.int .i64 v, .int .i64 lo, .int .i64 hi] 27 (0, 0)) := by rw [hU, hbn]; exact heap_new_at _ _ _ (by simp)
      have U3 := aj.below U1
      have U4 := Below.up hbel U1 (Nat.le_refl _)
      have U5 := row3_below hrow U1
      have U6 : bn ≠ p ∧ bn ≠ g' ∧ bn ≠ m ∧ bn ≠ hb := by
        have := aj.ltp
        have := aj.ltg
        have := aj.ltm
        have := (hrow.lt hb rfl).2
        omega
      have lbn : bn < U.heap.size := (Array.getElem?_eq_some_iff.1 U2).1
      have lhb : hb < U.heap.size := (U5.lt hb rfl).2
      have hmk := mk_any U3 v lo hi
      obtain ⟨R, hR⟩ : ∃ R, R = mkR room ns v lo hi := ⟨_, rfl⟩
      rw [← hR] at hmk
      have HR : Hid (R = mkR room ns v lo hi) := hR
      have HG : Hid (Good room ns) := U3.good
      clear hU hbn U1 aj hbel hrow hR X1 X2 X3
      refine hmk.mono ?_
      rintro e w2 ⟨g2, c2, rfl, a2, q2, e2⟩
      obtain ⟨b2, hg2⟩ := next U4 (Nat.le_refl _) hp hgj hmm q2 e2
      have N2 := q2.stays U2 (by simp; omega)
      have R2 := row3_kept U5 q2 (by simp; omega)
      have D2 : hb ≠ p ∧ hb ≠ g2 ∧ hb ≠ m ∧ w.heap.size ≤ hb := by omega
      clear hmk U3 U4 q2 hown
      obtain ⟨ek, hek⟩ : ∃ ek, ek = errV R.2.1 := ⟨_, rfl⟩
      rw [← hek]
      have HK : Hid (ek = errV R.2.1) := hek
      clear hek
      obtain ⟨kr, hkr⟩ : ∃ kr, kr = R.1 := ⟨_, rfl⟩
      rw [← hkr]
      have HKR : Hid (kr = R.1) := hkr
      clear hkr
      go_wp2_with fail
      go_loopw [15, 60] (fun at_ i wr => ∃ k : Nat, k ≤ ns.length ∧ i = .int .i64 k ∧ at_ = .int .i64 (lastTo ns ⟨v, lo, hi⟩ k) ∧ Below w2.heap.size w2 wr) (fun _ i _ => ns.length - (intOf i).toNat)
      case atStart => exact ⟨0, by omega, rfl, rfl, Below.refl _ _⟩
      case round =>
        rename World => wr3
        obtain ⟨k, hkl, rfl, rfl, hb3⟩ := hrel
        by_cases hkt : k < ns.length
        · have N3 := below_block hb3 N2
          have R3 := row3_below R2 hb3
          have y1 := row3_x R3 hkt
          have y2 := row3_y R3 hkt
          have y3 := row3_z R3 hkt
          have z1 : wr3.cell? ⟨bn, 0, none⟩ = some (.int .i64 v) := by simp [World.cell?, N3]
          have z2 : wr3.cell? ⟨bn, 1, none⟩ = some (.int .i64 lo) := by simp [World.cell?, N3]
          have z3 : wr3.cell? ⟨bn, 2, none⟩ = some (.int .i64 hi) := by simp [World.cell?, N3]
          have lt3 : bn < wr3.heap.size := (Array.getElem?_eq_some_iff.1 N3).1
          have d1 : (k : Int) < ns.length := by omega
          have d0 : (0 : Int) ≤ (k : Int) := by omega
          have hsucc : lastTo ns ⟨v, lo, hi⟩ (k + 1) = if sameN (ndAt ns k) ⟨v, lo, hi⟩ = true then (k : Int) else lastTo ns ⟨v, lo, hi⟩ k := rfl
          have HS : Hid (lastTo ns ⟨v, lo, hi⟩ (k + 1) = if sameN (ndAt ns k) ⟨v, lo, hi⟩ = true then (k : Int) else lastTo ns ⟨v, lo, hi⟩ k) := hsucc
          clear hsucc
          go_wp2_with fail
          all_goals
            go_roundw
            case rel =>
              refine ⟨k + 1, by omega, by go_num, ?_, Below.up hb3 ((Below.refl _ _).alloc (Nat.le_refl _) _) (Nat.le_refl _)⟩
              rw [HS.out]
              first
                | rw [if_pos (by simp only [sameN, Bool.and_eq_true, beq_iff_eq]; omega)]
                | rw [if_neg (by simp only [sameN, Bool.and_eq_true, beq_iff_eq]; omega)]
            case measure => simp [intOf]; omega
        · obtain rfl : k = ns.length := by omega
          have A3 := a2.below hb3
          have N3 := below_block hb3 N2
          have R3 := row3_below R2 hb3
          have B3 := Below.up b2 hb3 (Nat.le_refl _)
          have hL3 := hL.below B3
          have z1 : wr3.cell? ⟨bn, 0, none⟩ = some (.int .i64 v) := by simp [World.cell?, N3]
          have z2 : wr3.cell? ⟨bn, 1, none⟩ = some (.int .i64 lo) := by simp [World.cell?, N3]
          have z3 : wr3.cell? ⟨bn, 2, none⟩ = some (.int .i64 hi) := by simp [World.cell?, N3]
          clear a2 N2 R2 b2 hb3 U2 U5
          obtain ⟨AT, hAT⟩ : ∃ AT, AT = lastTo ns ⟨v, lo, hi⟩ ns.length := ⟨_, rfl⟩
          rw [← hAT]
          have HAT : Hid (AT = lastTo ns ⟨v, lo, hi⟩ ns.length) := hAT
          clear hAT
          rcases parts ns v lo hi v2 with ⟨hok, hwhy⟩ | ⟨hok, f1, f2, f3, f4, f5, hwhy⟩ | ⟨hok, f1, f2, f3, f4, f5, f6, f7⟩
          · have hR : R = (0, 10, ns) := by
              have := HR.out
              rw [mkR, if_neg (by rw [hok]; decide)] at this
              exact this
            subst hR
            obtain rfl : ek = .iface 36 (.int .i64 10) := HK.out
            obtain rfl : kr = 0 := HKR.out
            clear HR HK HKR
            have hn := fun nq => number_hit 10 (wr3.drewN nq) hL3
            rcases hwhy with f1 | ⟨f1, f2⟩ | ⟨f1, f2, f3⟩ | ⟨f1, f2, f3, f4⟩ | ⟨f1, f2, f3, f4, f5⟩
            all_goals
              go_wp2_with fail
              go_quiet (fail)
              go_wp2_with fail
              refine (hn _).mono ?_
              rintro e w5 ⟨rfl, b5⟩
              have b5' : Below wr3.heap.size wr3 w5 := Below.up (below_drewN (Below.refl _ _) _) b5 (Nat.le_refl _)
              have A5 := A3.below b5'
              have hl := len_any A5
              clear hn b5
              go_wp2_with fail
              refine hl.mono ?_
              rintro e _ ⟨rfl, rfl⟩
              go_wp2_with fail
              go_roundw
              case rel => exact ⟨j + 1, g2, c2, hb, hcap, ns, by omega, by go_num, rfl, A5, hg2, row3_below R3 b5', D2, Below.up B3 b5' (Nat.le_refl _)⟩
              case measure => simp [intOf]; omega
          · have hR : R = (0, 10, ns) := by
              have := HR.out
              rw [mkR, if_neg (by rw [hok]; decide)] at this
              exact this
            subst hR
            obtain rfl : ek = .iface 36 (.int .i64 10) := HK.out
            obtain rfl : kr = 0 := HKR.out
            clear HR HK HKR
            have hn := fun nq => number_hit 10 (wr3.drewN nq) hL3
            have g2' : 0 ≤ lo := by simpa using f2
            have g3' : lo < ns.length := by simpa using f3
            have g4' : 0 ≤ hi := by simpa using f4
            have g5' : hi < ns.length := by simpa using f5
            have yl := row3_x R3 (i := lo.toNat) (by omega)
            have yh := row3_x R3 (i := hi.toNat) (by omega)
            generalize (ndAt ns lo.toNat).v = vl at yl hwhy
            generalize (ndAt ns hi.toNat).v = vh at yh hwhy
            rcases hwhy with f6 | ⟨f6, f7⟩
            all_goals
              go_wp2_with fail
              go_quiet (fail)
              go_wp2_with fail
              refine (hn _).mono ?_
              rintro e w5 ⟨rfl, b5⟩
              have b5' : Below wr3.heap.size wr3 w5 := Below.up (below_drewN (Below.refl _ _) _) b5 (Nat.le_refl _)
              have A5 := A3.below b5'
              have hl := len_any A5
              clear hn b5
              go_wp2_with fail
              refine hl.mono ?_
              rintro e _ ⟨rfl, rfl⟩
              go_wp2_with fail
              go_roundw
              case rel => exact ⟨j + 1, g2, c2, hb, hcap, ns, by omega, by go_num, rfl, A5, hg2, row3_below R3 b5', D2, Below.up B3 b5' (Nat.le_refl _)⟩
              case measure => simp [intOf]; omega
          · have g2' : 0 ≤ lo := by simpa using f2
            have g3' : lo < ns.length := by simpa using f3
            have g4' : 0 ≤ hi := by simpa using f4
            have g5' : hi < ns.length := by simpa using f5
            have yl := row3_x R3 (i := lo.toNat) (by omega)
            have yh := row3_x R3 (i := hi.toNat) (by omega)
            generalize (ndAt ns lo.toNat).v = vl at yl f6
            generalize (ndAt ns hi.toNat).v = vh at yh f7
            have hnil := fun nq => number_nil (wr3.drewN nq)
            by_cases hlh : lo = hi
            · have hR : R = (lo, 0, ns) := by
                have := HR.out
                rw [mkR, if_pos hok, if_pos hlh] at this
                exact this
              subst hR
              obtain rfl : ek = .nilIface := HK.out
              obtain rfl : kr = lo := HKR.out
              have f8 : (kr == hi) = true := by simpa using hlh
              clear HR HK HKR hlh
              go_wp2_with fail
              go_quiet (fail)
              go_wp2_with fail
              refine (hnil _).mono ?_
              rintro e w5 ⟨rfl, b5⟩
              have b5' : Below wr3.heap.size wr3 w5 := Below.up (below_drewN (Below.refl _ _) _) b5 (Nat.le_refl _)
              have A5 := A3.below b5'
              have hl := len_any A5
              clear hnil b5
              go_wp2_with fail
              refine hl.mono ?_
              rintro e _ ⟨rfl, rfl⟩
              go_wp2_with fail
              go_roundw
              case rel => exact ⟨j + 1, g2, c2, hb, hcap, ns, by omega, by go_num, rfl, A5, hg2, row3_below R3 b5', D2, Below.up B3 b5' (Nat.le_refl _)⟩
              case measure => simp [intOf]; omega
            · have f8 : (lo == hi) = false := by simpa using hlh
              cases hf : findN ns ⟨v, lo, hi⟩ with
              | some q =>
                have hR : R = ((q : Int), 0, ns) := by
                  have := HR.out
                  rw [mkR, if_pos hok, if_neg hlh, hf] at this
                  exact this
                subst hR
                obtain rfl : ek = .nilIface := HK.out
                obtain rfl : kr = (q : Int) := HKR.out
                obtain rfl : AT = (q : Int) := HAT.out.trans (lastTo_found A3.good.once hf)
                have f9 : (0 : Int) ≤ (q : Int) := by omega
                clear HR HK HKR HAT hlh hf
                go_wp2_with fail
                go_quiet (fail)
                go_wp2_with fail
                refine (hnil _).mono ?_
                rintro e w5 ⟨rfl, b5⟩
                have b5' : Below wr3.heap.size wr3 w5 := Below.up (below_drewN (Below.refl _ _) _) b5 (Nat.le_refl _)
                have A5 := A3.below b5'
                have hl := len_any A5
                clear hnil b5
                go_wp2_with fail
                refine hl.mono ?_
                rintro e _ ⟨rfl, rfl⟩
                go_wp2_with fail
                go_roundw
                case rel => exact ⟨j + 1, g2, c2, hb, hcap, ns, by omega, by go_num, rfl, A5, hg2, row3_below R3 b5', D2, Below.up B3 b5' (Nat.le_refl _)⟩
                case measure => simp [intOf]; omega
              | none =>
                obtain rfl : AT = -1 := HAT.out.trans (lastTo_none hf _ (Nat.le_refl _))
                by_cases hfull : room ≤ ns.length
                · have hR : R = (0, 8, ns) := by
                    have := HR.out
                    rw [mkR, if_pos hok, if_neg hlh, hf] at this
                    simp only [if_pos hfull] at this
                    exact this
                  subst hR
                  obtain rfl : ek = .iface 36 (.int .i64 8) := HK.out
                  obtain rfl : kr = 0 := HKR.out
                  have f9 : ((ns.length : Int) == room) = true := by simp; omega
                  have hn := fun nq => number_hit 8 (wr3.drewN nq) hL3
                  clear HR HK HKR HAT hlh hf hnil
                  go_wp2_with fail
                  go_quiet (fail)
                  go_wp2_with fail
                  refine (hn _).mono ?_
                  rintro e w5 ⟨rfl, b5⟩
                  have b5' : Below wr3.heap.size wr3 w5 := Below.up (below_drewN (Below.refl _ _) _) b5 (Nat.le_refl _)
                  have A5 := A3.below b5'
                  have hl := len_any A5
                  clear hn b5
                  go_wp2_with fail
                  refine hl.mono ?_
                  rintro e _ ⟨rfl, rfl⟩
                  go_wp2_with fail
                  go_roundw
                  case rel => exact ⟨j + 1, g2, c2, hb, hcap, ns, by omega, by go_num, rfl, A5, hg2, row3_below R3 b5', D2, Below.up B3 b5' (Nat.le_refl _)⟩
                  case measure => simp [intOf]; omega
                · have hR : R = ((ns.length : Int), 0, ns ++ [⟨v, lo, hi⟩]) := by
                    have := HR.out
                    rw [mkR, if_pos hok, if_neg hlh, hf] at this
                    simp only [if_neg hfull] at this
                    exact this
                  subst hR
                  obtain rfl : ek = .nilIface := HK.out
                  obtain rfl : kr = (ns.length : Int) := HKR.out
                  have f9 : ((ns.length : Int) == room) = false := by rw [beq_eq_false_iff_ne]; omega
                  clear HR HK HKR HAT hlh hf hnil
                  simp only at A3
                  have lhb3 := (R3.lt hb rfl).2
                  go_wp2_with fail
                  go_quiet (fail)
                  go_wp2_with (at_builtin; refine wpList_append_lies _ rfl _ _ _ rfl 0 27 i0 _ 3 24 Tryd.underlying28 hi0 hz0 hz1 hz2 rfl (by omega) (.slice (some ⟨hb, 0, none⟩) ns.length hcap) ns.length (ns.flatMap ndL) rfl (ownsRow_drewN R3 _ |>.alloc _) ⟨wr3.heap.size, 0, none⟩ 1 1 [.int .i64 v, .int .i64 lo, .int .i64 hi] rfl rfl (World.news_of_block (cs := #[.int .i64 v, .int .i64 lo, .int .i64 hi]) (t := 27) (fr := (0, 0)) (heap_new_at _ _ _ rfl)) (by simp [Value.oneCell']) (by omega) (by unfold maxLen; omega) (by omega) (Nat.zero_le _) (wr3.heap.size + 1) (by simp) ?_; intro gf capf w6 hown6 hgrow6 hat6 hlt6)
                  have n6 := number_nil w6
                  have A6 : ArenaAt 48 27 w6 p g2 m c2 room (ns ++ [⟨v, lo, hi⟩]) :=
                    arena_grown (A3.below (Below.up (below_drewN (Below.refl _ _) _) ((Below.refl _ _).alloc (Nat.le_refl _) _) (Nat.le_refl _))) hgrow6 (fun b hb' => by simp [Value.ownBlock] at hb'; omega)
                  have b6 : Below w.heap.size w w6 := Below.grown (Below.up (below_drewN B3 _) ((Below.refl _ _).alloc (Nat.le_refl _) _) (Nat.le_refl _)) hgrow6 (by have := B3.size; simp; omega) (fun b hb' => by simp [Value.ownBlock] at hb'; omega)
                  have o6 : w6.ownsRow 0 27 3 (.slice (some ⟨gf, 0, none⟩) (ns ++ [(⟨v, lo, hi⟩ : Nd)]).length capf) (ns ++ [(⟨v, lo, hi⟩ : Nd)]).length ((ns ++ [(⟨v, lo, hi⟩ : Nd)]).flatMap ndL) := by
                    have := hown6
                    simpa [ndL] using this
                  have d6 : gf ≠ p ∧ gf ≠ g2 ∧ gf ≠ m ∧ w.heap.size ≤ gf := by
                    have := A3.ltp
                    have := A3.ltg
                    have := A3.ltm
                    have := B3.size
                    rcases hat6 with q | q
                    · simp [Value.ownBlock] at q
                      omega
                    · omega
                  clear hown6 hgrow6 hat6
                  refine n6.mono ?_
                  rintro e w7 ⟨rfl, b7⟩
                  have A7 := A6.below b7
                  have o7 := row3_below o6 b7
                  have b67 := Below.up b6 b7 (Nat.le_refl _)
                  have hl := len_any A7
                  have el : (((ns ++ [(⟨v, lo, hi⟩ : Nd)]).length : Nat) : Int) = (ns.length : Int) + 1 := by simp
                  rw [el] at hl
                  clear n6 A6 o6 b6 b7 el
                  go_wp2_with fail
                  refine hl.mono ?_
                  rintro e _ ⟨rfl, rfl⟩
                  go_wp2_with fail
                  go_roundw
                  case rel => exact ⟨j + 1, g2, c2, gf, capf, _, by omega, by go_num, by simp, A7, hg2, o7, d6, b67⟩
                  case measure => simp [intOf]; omega
    · obtain rfl : j = len := by omega
      have h255' : (ns.length : Int) ≤ 255 := by omega
      clear hc
      go_wp2_with fail
      go_loopw [169] (fun i wr' => ∃ k : Nat, k ≤ ns.length ∧ i = .int .i64 k ∧ Below wr.heap.size wr wr') (fun i _ => ns.length - (intOf i).toNat)
      case atStart => exact ⟨0, by omega, rfl, Below.refl _ _⟩
      case round =>
        rename World => wr3
        obtain ⟨k, hkl, rfl, hb3⟩ := hrel
        have R3 := row3_below hrow hb3
        have A3 := aj.below hb3
        by_cases hkt : k < ns.length
        · have y1 := row3_x R3 hkt
          have y2 := row3_y R3 hkt
          have y3 := row3_z R3 hkt
          have d1 : (k : Int) < ns.length := by omega
          have d0 : (0 : Int) ≤ (k : Int) := by omega
          have hg1 : ∀ V, Below wr3.heap.size wr3 V → _ := fun V hV => get_any (A3.below hV) k
          rw [getN_in hkt] at hg1
          unfold ndV at hg1
          generalize ndAt ns k = n at y1 y2 y3 hg1
          obtain ⟨nv, nl, nh⟩ := n
          simp only at y1 y2 y3 hg1
          go_wp2_with fail
          obtain ⟨V, hV⟩ : ∃ V, V = wr3.alloc (.cells #[.int .i64 nv, .int .i64 nl, .int .i64 nh] 27) := ⟨_, rfl⟩
          obtain ⟨bx, hbx⟩ : ∃ bx, bx = wr3.heap.size := ⟨_, rfl⟩
          rw [← hV, ← hbx]
          have V1 : Below wr3.heap.size wr3 V := by rw [hV]; exact (Below.refl _ _).alloc (Nat.le_refl _) _
          have V2 : V.heap[bx]? = some (.cells #[.int .i64 nv, .int .i64 nl, .int .i64 nh] 27 (0, 0)) := by rw [hV, hbx]; exact heap_new_at _ _ _ rfl
          have C0 : V.cell? ⟨bx, 0, none⟩ = some (.int .i64 nv) := by simp [World.cell?, V2]
          have C1 : V.cell? ⟨bx, 1, none⟩ = some (.int .i64 nl) := by simp [World.cell?, V2]
          have C2 : V.cell? ⟨bx, 2, none⟩ = some (.int .i64 nh) := by simp [World.cell?, V2]
          have lbx : bx < V.heap.size := (Array.getElem?_eq_some_iff.1 V2).1
          have HC : ∀ U, Below V.heap.size V U → U.cell? ⟨bx, 0, none⟩ = some (.int .i64 nv) ∧ U.cell? ⟨bx, 1, none⟩ = some (.int .i64 nl) ∧ U.cell? ⟨bx, 2, none⟩ = some (.int .i64 nh) := fun U hU =>
            ⟨by rw [hU.cell lbx]; exact C0, by rw [hU.cell lbx]; exact C1, by rw [hU.cell lbx]; exact C2⟩
          have hg2 : ∀ U, Below V.heap.size V U → _ := fun U hU => hg1 U (Below.up V1 hU (Nat.le_refl _))
          clear hV hbx hg1 V2 y1 y2 y3
          go_region_held3 (fun U => U.cell? ⟨bx, 0, none⟩ = some (.int .i64 nv) ∧ U.cell? ⟨bx, 1, none⟩ = some (.int .i64 nl) ∧ U.cell? ⟨bx, 2, none⟩ = some (.int .i64 nh) ∧ Below V.heap.size V U)
            (first
              | exact ⟨C0, C1, C2, (Below.refl _ _).drew⟩
              | (go_split_ands; have hz := Below.up (by assumption) hbu (Nat.le_refl _); exact ⟨(HC _ hz).1, (HC _ hz).2.1, (HC _ hz).2.2, hz⟩))
            (first
              | (go_at_call 11; go_split_ands; refine (hg2 _ ?_).mono ?_; assumption; rintro e U ⟨rfl, hbu, hsu⟩))
          go_wp2_with fail
          go_roundw
          case rel => exact ⟨k + 1, by omega, by go_num, Below.up (Below.up hb3 V1 (Nat.le_refl _)) (by go_split_ands; assumption) (Nat.le_refl _)⟩
          case measure => simp [intOf]; omega
        · obtain rfl : k = ns.length := by omega
          obtain ⟨l, hl⟩ := aj.good.two
          have hlen2 := aj.good.len
          have y1 := row3_x R3 (i := 0) (by omega)
          have y2 := row3_y R3 (i := 0) (by omega)
          have y3 := row3_z R3 (i := 0) (by omega)
          have e0 : ndAt ns 0 = ⟨1024, 0, 0⟩ := by rw [hl]; rfl
          rw [e0] at y1 y2 y3
          simp only [Nat.zero_mul, Nat.zero_add] at y1 y2 y3
          have g1 : ∀ U, Below wr3.heap.size wr3 U → _ := fun U hU => get_any (A3.below hU) (ns.length : Int)
          have g2 : ∀ U, Below wr3.heap.size wr3 U → _ := fun U hU => get_any (A3.below hU) (-1)
          rw [getN_out (by simp [hasB])] at g1
          rw [getN_out (by simp [hasB])] at g2
          unfold ndV at g1 g2
          simp only at g1 g2
          have lhb3 := (R3.lt hb rfl).2
          have HC : ∀ U, Below wr3.heap.size wr3 U → U.cell? ⟨hb, 0, none⟩ = some (.int .i64 1024) ∧ U.cell? ⟨hb, 1, none⟩ = some (.int .i64 0) ∧ U.cell? ⟨hb, 2, none⟩ = some (.int .i64 0) := fun U hU =>
            ⟨by rw [hU.cell lhb3]; exact y1, by rw [hU.cell lhb3]; exact y2, by rw [hU.cell lhb3]; exact y3⟩
          clear hl e0
          go_wp2_with fail
          obtain ⟨L, hL⟩ : ∃ L, L = ns.length := ⟨_, rfl⟩
          rw [← hL] at g1 ⊢
          have d1 : (0 : Int) < L := by omega
          have d2 : 0 < L := by omega
          have HLL : Hid (L = ns.length) := hL
          clear hL hlen2 hkl hkt hns hns2 h255'
          go_region_held3 (fun U => U.cell? ⟨hb, 0, none⟩ = some (.int .i64 1024) ∧ U.cell? ⟨hb, 1, none⟩ = some (.int .i64 0) ∧ U.cell? ⟨hb, 2, none⟩ = some (.int .i64 0) ∧ Below wr3.heap.size wr3 U)
            (first
              | exact ⟨y1, y2, y3, (Below.refl _ _).drew⟩
              | (go_split_ands; have hz := Below.up (by assumption) hbu (Nat.le_refl _); exact ⟨(HC _ hz).1, (HC _ hz).2.1, (HC _ hz).2.2, hz⟩))
            (first
              | (go_at_call_of 11 (Value.int .i64 (L : Int)); go_split_ands; refine (g1 _ ?_).mono ?_; assumption; rintro e U ⟨rfl, hbu, hsu⟩)
              | (go_at_call 11; go_split_ands; refine (g2 _ ?_).mono ?_; assumption; rintro e U ⟨rfl, hbu, hsu⟩))
          go_wp2_with fail
          go_ret
          exact ⟨rfl, Below.up (Below.up hbel hb3 (Nat.le_refl _)) (by go_split_ands; assumption) (Nat.le_refl _)⟩
end Go.Proofs.YthlbelpooplgeaaDoor
