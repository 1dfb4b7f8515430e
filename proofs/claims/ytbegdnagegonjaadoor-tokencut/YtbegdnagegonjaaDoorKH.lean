/- What the law's own cut does. -/
import Derived.Test.YtbegdnagegonjaaDoorKG
import Derived.Test.YtbegdnagegonjaaDoorKE
namespace Go.Proofs.YtbegdnagegonjaaDoor
open Go.RowKit Go.Lib

/-- What the law's cut answers. -/
def LCutOut (w : World) : Nat ⊕ List Tk → Ending → World → Prop
  | .inl k, e, w' => e = .returned (.tuple #[.slice none 0 0, .int .i64 k]) ∧ Below w.heap.size w w'
  | .inr ts, e, w' => ∃ g cap, e = .returned (.tuple #[.slice (some ⟨g, 0, none⟩) ts.length cap, .int .i64 (-1)]) ∧ w'.ownsRow w.heap.size 42 6 (.slice (some ⟨g, 0, none⟩) ts.length cap) ts.length (ts.flatMap tkL) ∧ Below w.heap.size w w'
set_option maxHeartbeats 16000000 in
set_option maxRecDepth 20000 in
theorem lcut_any (s : ByteArray) (hs : s.size ≤ 65536) (w : World) :
    Calls Tryd.prog 9 #[.string s] w (LCutOut w (toks s.data.toList 0 0)) := by
  have hsz : s.data.toList.length = s.size := (size_eq s).symm
  obtain ⟨l, hl⟩ : ∃ l, l = s.data.toList := ⟨_, rfl⟩
  rw [← hl] at hsz ⊢
  have HIDX : Hid (∀ k (h : k < s.size), s[k] = l.getD k 0) := idx_at hl
  have HS1 : Hid (∀ k, k < l.length → s.extract k (k + 1) = ⟨[l.getD k 0].toArray⟩) := fun k h => sub_one hl h
  have HS2 : Hid (∀ k, s.extract k (k + spanN prtP (l.drop k)) = ⟨(pcAt l k).toArray⟩) := fun k => sub_pc hl
  clear hl
  have HS : Hid (l.length = s.size) := hsz
  clear hsz
  obtain ⟨i0, hi0, hz0, hz1, hz2⟩ := info_parts infoT
  go_enter Tryd.func9, Tryd.ntmps9
  go_wp2_with fail
  go_loopg [4, 5] s.size (fun g v i wr => CutAt w l s.size g v i wr)
  case atStart =>
    refine ⟨0, [], Nat.zero_add _, rfl, World.ownsRow_nil _ _ _ _, Nat.le_refl _, add_nil _, Below.refl _ _⟩
  case round =>
    obtain ⟨k, acc, hk, rfl, hown, hal, HJ, hb⟩ := hrel
    by_cases hlt : k < s.size
    · have hi := HIDX.out k hlt
      have d4 : decide ((k : Int) < s.size) = true := decide_eq_true (by omega)
      have hlt' : k < l.length := by rw [HS.out]; exact hlt
      obtain ⟨c, hc⟩ : ∃ c, c = l.getD k 0 := ⟨_, rfl⟩
      obtain ⟨x, hx⟩ : ∃ x : Nat, x = c.toNat := ⟨_, rfl⟩
      have hi2 : s[k].toNat = x := by rw [hi, hx, hc]
      clear hi
      by_cases hblk : x = 32 ∨ x = 9 ∨ x = 10
      · have HJ2 : Hid (addT acc (fromT l (k + 1)) = toks l 0 0) := by
          show addT acc (fromT l (k + 1)) = toks l 0 0
          rw [← HJ, from_blk hlt' (by unfold blkP; rw [← hc, ← hx]; simp; omega)]
        clear HJ hc hx hlt'
        rcases hblk with rfl | rfl | rfl
        all_goals
          go_wp2_with fail
          go_roundg (s.size - (k + 1))
          case measure => omega
          case rel => exact ⟨k + 1, acc, by omega, by go_num, hown, by omega, HJ2.out, hb⟩
      have nb : blkP (l.getD k 0) = false := by unfold blkP; rw [← hc, ← hx]; simp; omega
      have n32 : ((x : Int) == 32) = false := by rw [beq_eq_false_iff_ne]; omega
      have n9 : ((x : Int) == 9) = false := by rw [beq_eq_false_iff_ne]; omega
      have n10 : ((x : Int) == 10) = false := by rw [beq_eq_false_iff_ne]; omega
      by_cases hrem : x = 35
      · have h35 : (l.getD k 0).toNat = 35 := by rw [← hc, ← hx, hrem]
        have HJ0 : Hid (addT acc (fromT l (k + spanN nlfP (l.drop k))) = toks l 0 0) := by
          show addT acc (fromT l (k + spanN nlfP (l.drop k))) = toks l 0 0
          rw [← HJ, from_rem hlt' nb h35]
        have hpos := span_go (p := nlfP) hlt' (by unfold nlfP; rw [h35]; rfl)
        have HPO : Hid (1 ≤ spanN nlfP (l.drop k)) := by show 1 ≤ _; omega
        subst hrem
        clear HJ hc hx hlt' nb hblk n32 n9 n10 h35 hpos
        go_wp2_with fail
        go_loopg [5] (s.size - k) (fun g2 i wy => ∃ j : Nat, j + g2 = s.size ∧ k ≤ j ∧ i = .int .i64 j ∧ j + spanN nlfP (l.drop j) = k + spanN nlfP (l.drop k) ∧ wr = wy)
        case atStart => exact ⟨k, by omega, Nat.le_refl _, rfl, rfl, rfl⟩
        case round =>
          obtain ⟨j, hj, hkj, rfl, HN, rfl⟩ := hrel
          by_cases hjl : j < s.size
          · have hi := HIDX.out j hjl
            have d5 : decide ((j : Int) < s.size) = true := decide_eq_true (by omega)
            have hjl' : j < l.length := by rw [HS.out]; exact hjl
            obtain ⟨y, hy⟩ : ∃ y : Nat, y = (l.getD j 0).toNat := ⟨_, rfl⟩
            have hi3 : s[j].toNat = y := by rw [hi, hy]
            clear hi
            by_cases h10 : y = 10
            · rw [span_stop hjl' (by unfold nlfP; rw [← hy, h10]; rfl)] at HN
              have HN' : Hid (j = k + spanN nlfP (l.drop k)) := by show j = _; omega
              have hjk : k < j := by have := HN'.out; have := HPO.out; omega
              subst h10
              clear HN hy hjl'
              go_wp2_with fail
              go_roundg (s.size - j)
              case measure => omega
              case rel => exact ⟨j, acc, by omega, rfl, hown, by omega, by rw [HN'.out]; exact HJ0.out, hb⟩
            · rw [span_go hjl' (by unfold nlfP; rw [← hy, decide_eq_false h10]; rfl)] at HN
              have HN' : Hid (j + (spanN nlfP (l.drop (j + 1)) + 1) = k + spanN nlfP (l.drop k)) := HN
              have m10 : ((y : Int) != 10) = true := by simp; omega
              clear HN hy hjl'
              go_wp2_with fail
              go_roundg (s.size - (j + 1))
              case measure => omega
              case rel => exact ⟨j + 1, by omega, by omega, by go_num, by have := HN'.out; omega, rfl⟩
          · obtain rfl : j = s.size := by omega
            have d5 : decide ((s.size : Int) < s.size) = false := decide_eq_false (by omega)
            rw [span_out (by rw [HS.out]; exact Nat.le_refl _)] at HN
            have HN' : Hid (s.size = k + spanN nlfP (l.drop k)) := by show s.size = _; omega
            clear HN
            go_wp2_with fail
            go_roundg 0
            case measure => omega
            case rel => exact ⟨s.size, acc, by omega, rfl, hown, by omega, by rw [HN'.out]; exact HJ0.out, hb⟩
      have n35 : ((x : Int) == 35) = false := by rw [beq_eq_false_iff_ne]; omega
      have nr : ¬ (l.getD k 0).toNat = 35 := by rw [← hc, ← hx]; exact hrem
      by_cases hsgn : x = 123 ∨ x = 125 ∨ x = 59
      · have HJ2 : Hid (addT (acc ++ [⟨4, [c], 0, 0, 0, k⟩]) (fromT l (k + 1)) = toks l 0 0) := by
          show addT (acc ++ [⟨4, [c], 0, 0, 0, k⟩]) (fromT l (k + 1)) = toks l 0 0
          rw [← HJ, from_sgn hlt' nb nr (by unfold sgnP; rw [← hc, ← hx]; simp; omega), add_add, hc]
        obtain ⟨X, hX⟩ : ∃ X, X = s.extract k (k + 1) := ⟨_, rfl⟩
        have HX : Hid (X = ⟨[c].toArray⟩) := by show X = _; rw [hX, HS1.out k hlt', hc]
        have hX' : s.extract k (k + 1) = X := hX.symm
        have c1 : (0 : Int) ≤ k := by omega
        have c2 : (k : Int) + 1 ≤ s.size := by omega
        have c3 : (k : Int) ≤ k + 1 := by omega
        have QB := hb
        clear HJ hc hx hlt' nb nr hX hblk hrem
        rcases hsgn with rfl | rfl | rfl
        all_goals
          go_wp2_with (at_builtin; refine wpList_append_lies _ rfl _ _ _ rfl w.heap.size 42 i0 _ 6 56 Tryd.underlying23 hi0 hz0 hz1 hz2 rfl (by omega) _ acc.length (acc.flatMap tkL) rfl (hown.alloc _) ⟨wr.heap.size, 0, none⟩ 1 1 [.int .i64 4, .string X, .int .i64 0, .int .u32 0, .int .i64 0, .int .i64 k] rfl rfl (World.news_of_block (cs := #[.int .i64 4, .string X, .int .i64 0, .int .u32 0, .int .i64 0, .int .i64 k]) (t := 42) (fr := (0, 0)) (pf_new _ _ _ (by simp))) (by simp [Value.oneCell']) (by omega) (by unfold maxLen; omega) (by omega) (by simp; have := QB.size; omega) _ rfl ?_; intro g1 cap W1 hown1 hgrow hat hlt1)
          have q9 := own_up (hown.alloc _) hgrow (bel_alloc QB _)
          have e9 : acc.flatMap tkL ++ [.int .i64 4, .string X, .int .i64 0, .int .u32 0, .int .i64 0, .int .i64 k] = (acc ++ [(⟨4, [c], 0, 0, 0, k⟩ : Tk)]).flatMap tkL := by rw [← flat_add, HX.out]; rfl
          rw [e9] at hown1
          go_roundg (s.size - (k + 1))
          case measure => omega
          case rel => exact ⟨k + 1, _, by omega, by go_num, by rw [List.length_append]; exact hown1, by rw [List.length_append]; simp; omega, HJ2.out, q9⟩
      have n123 : ((x : Int) == 123) = false := by rw [beq_eq_false_iff_ne]; omega
      have n125 : ((x : Int) == 125) = false := by rw [beq_eq_false_iff_ne]; omega
      have n59 : ((x : Int) == 59) = false := by rw [beq_eq_false_iff_ne]; omega
      have ns : sgnP (l.getD k 0) = false := by unfold sgnP; rw [← hc, ← hx]; simp; omega
      have hle := span_in (p := prtP) (l := l) (i := k) (by omega)
      rw [HS.out] at hle
      obtain ⟨e, he⟩ : ∃ e, e = k + spanN prtP (l.drop k) := ⟨_, rfl⟩
      have hX := HS2.out k
      rw [← he] at hle hX
      have hof := lpiece_any (pcAt l k) (Nat.le_trans (pc_len l k) (by rw [HS.out]; exact hs))
      obtain ⟨X, hXe⟩ : ∃ X : ByteArray, X = ⟨(pcAt l k).toArray⟩ := ⟨_, rfl⟩
      rw [← hXe] at hX hof
      have c1 : (0 : Int) ≤ k := by omega
      have c2 : (e : Int) ≤ s.size := by omega
      have c3 : (k : Int) ≤ e := by omega
      have HPP : Hid ((pieceP (pcAt l k) = none → .inl k = toks l 0 0) ∧ (∀ t, pieceP (pcAt l k) = some t → addT (acc ++ [atT t k]) (fromT l e) = toks l 0 0 ∧ k < e)) := by
        refine ⟨fun hp => ?_, fun t hp => ?_⟩
        · rw [← HJ, from_bad hlt' nb nr ns hp]
          rfl
        · obtain ⟨hfr, hpos⟩ := from_pc hlt' nb nr ns hp
          refine ⟨?_, by omega⟩
          rw [← HJ, hfr, add_add, he]
      have HEE : Hid (e = k + spanN prtP (l.drop k)) := he
      clear HJ hc hx hlt' nb nr ns hXe hblk hrem hsgn he hle
      go_wp2_with fail
      go_loopg [7] (s.size - k) (fun g2 i wy => ∃ j : Nat, j + g2 = s.size ∧ k ≤ j ∧ i = .int .i64 j ∧ j + spanN prtP (l.drop j) = e ∧ wr = wy)
      case atStart => exact ⟨k, by omega, Nat.le_refl _, rfl, HEE.out.symm, rfl⟩
      case round =>
        obtain ⟨j, hj, hkj, rfl, HN, rfl⟩ := hrel
        have hgo : (j < s.size ∧ prtP (l.getD j 0) = true) ∨ ((j < s.size ∧ prtP (l.getD j 0) = false ∨ j = s.size) ∧ j = e) := by
          by_cases hjl : j < s.size
          · have hjl' : j < l.length := by rw [HS.out]; exact hjl
            cases hq : prtP (l.getD j 0)
            · rw [span_stop hjl' hq] at HN
              exact .inr ⟨.inl ⟨hjl, rfl⟩, by omega⟩
            · exact .inl ⟨hjl, rfl⟩
          · obtain rfl : j = s.size := by omega
            rw [span_out (by rw [HS.out]; exact Nat.le_refl _)] at HN
            exact .inr ⟨.inr rfl, by omega⟩
        rcases hgo with ⟨hjl, hq⟩ | ⟨hst, rfl⟩
        · have hjl' : j < l.length := by rw [HS.out]; exact hjl
          rw [span_go hjl' hq] at HN
          have HN' : Hid (j + (spanN prtP (l.drop (j + 1)) + 1) = e) := HN
          have h1 := lpart_any (l.getD j 0)
          have hi := HIDX.out j hjl
          have d5 : decide ((j : Int) < s.size) = true := decide_eq_true (by omega)
          rw [hq, ← hi] at h1
          clear hq HN hjl' hi
          obtain ⟨y, hy⟩ : ∃ y : Nat, y = s[j].toNat := ⟨_, rfl⟩
          rw [← hy] at h1
          have hy' : s[j].toNat = y := hy.symm
          clear hy
          go_wp2_with fail
          refine (h1 _).mono ?_
          rintro e' w1 ⟨rfl, rfl⟩
          go_wp2_with fail
          go_roundg (s.size - (j + 1))
          case measure => omega
          case rel => exact ⟨j + 1, by omega, by omega, by go_num, by have := HN'.out; omega, rfl⟩
        · clear HN
          have hex : ∃ b : Bool, (decide ((j : Int) < s.size) = b) ∧ (b = true → ∃ y : Nat, ∃ h : j < s.size, s[j].toNat = y ∧ ∀ w, Calls Tryd.prog 17 #[.int .u8 (y : Int)] w fun e w' => e = .returned (.bool false) ∧ w' = w) := by
            rcases hst with ⟨hjl, hq⟩ | rfl
            · refine ⟨true, decide_eq_true (by omega), fun _ => ⟨s[j].toNat, hjl, rfl, ?_⟩⟩
              have h1 := lpart_any (l.getD j 0)
              rw [hq, ← HIDX.out j hjl] at h1
              exact h1
            · exact ⟨false, decide_eq_false (by omega), fun h => by cases h⟩
          clear hst
          obtain ⟨b, d5, hy0⟩ := hex
          cases hp : pieceP (pcAt l k) with
          | none =>
            have HJ2 : Hid (.inl k = toks l 0 0) := HPP.out.1 hp
            rw [hp] at hof
            unfold ofV tkV noT at hof
            simp only [Int.natCast_zero] at hof
            clear hp HPP HEE
            cases b
            · clear hy0
              obtain rfl : j = s.size := by have := of_decide_eq_false d5; omega
              go_wp2_with ((go_at_call 18; refine (hof _).mono ?_; rintro e' Y ⟨rfl, q1⟩))
              rw [← HJ2.out]
              go_ret2
              exact ⟨rfl, bel_alloc (bel_up hb q1 hb.size) _⟩
            · obtain ⟨y, hjl, hy', h1⟩ := hy0 rfl
              clear hy0
              go_wp2_with (first | (go_at_call 17; refine (h1 _).mono ?_; rintro e' w1 ⟨rfl, rfl⟩) | (go_at_call 18; refine (hof _).mono ?_; rintro e' Y ⟨rfl, q1⟩))
              rw [← HJ2.out]
              go_ret2
              exact ⟨rfl, bel_alloc (bel_up hb q1 hb.size) _⟩
          | some t =>
            obtain ⟨HJ3, hke⟩ := HPP.out.2 t hp
            obtain ⟨tk, tx, tv, ta, tb, tp⟩ := t
            have HJ2 : Hid (addT (acc ++ [⟨tk, tx, tv, ta, tb, k⟩]) (fromT l j) = toks l 0 0) := HJ3
            rw [hp] at hof
            unfold ofV tkV at hof
            dsimp only at hof
            obtain ⟨TX, hTX⟩ : ∃ T : ByteArray, T = ⟨tx.toArray⟩ := ⟨_, rfl⟩
            rw [← hTX] at hof
            have HTX : Hid (TX = ⟨tx.toArray⟩) := hTX
            clear hp HPP HEE hTX HJ3
            cases b
            · clear hy0
              obtain rfl : j = s.size := by have := of_decide_eq_false d5; omega
              go_wp2_with fail
              refine (hof _).mono ?_
              rintro e' Y ⟨rfl, q1⟩
              have QB := bel_up hb q1 hb.size
              have ho2 := own_bel hown q1
              clear hof hown hb q1
              go_wp2_with (at_builtin; refine wpList_append_lies _ rfl _ _ _ rfl w.heap.size 42 i0 _ 6 56 Tryd.underlying23 hi0 hz0 hz1 hz2 rfl (by omega) _ acc.length (acc.flatMap tkL) rfl ((ho2.alloc _).alloc _) ⟨Y.heap.size + 1, 0, none⟩ 1 1 [.int .i64 tk, .string TX, .int .i64 tv, .int .u32 ta, .int .i64 tb, .int .i64 k] rfl rfl (World.news_of_block (cs := #[.int .i64 tk, .string TX, .int .i64 tv, .int .u32 ta, .int .i64 tb, .int .i64 k]) (t := 42) (fr := (0, 0)) (pf_new _ _ _ (by simp))) (by simp [Value.oneCell']) (by omega) (by unfold maxLen; omega) (by omega) (by simp; have := QB.size; omega) _ rfl ?_; intro g1 cap W1 hown1 hgrow hat hlt1)
              have q9 := own_up ((ho2.alloc _).alloc _) hgrow (bel_alloc (bel_alloc QB _) _)
              have e9 : acc.flatMap tkL ++ [.int .i64 tk, .string TX, .int .i64 tv, .int .u32 ta, .int .i64 tb, .int .i64 k] = (acc ++ [(⟨tk, tx, tv, ta, tb, k⟩ : Tk)]).flatMap tkL := by rw [← flat_add, HTX.out]; rfl
              rw [e9] at hown1
              go_roundg (s.size - s.size)
              case measure => omega
              case rel => exact ⟨s.size, _, by omega, rfl, by rw [List.length_append]; exact hown1, by rw [List.length_append]; simp; omega, HJ2.out, q9⟩
            · obtain ⟨y, hjl, hy', h1⟩ := hy0 rfl
              clear hy0
              go_wp2_with (first | (go_at_call 17; refine (h1 _).mono ?_; rintro e' w1 ⟨rfl, rfl⟩))
              refine (hof _).mono ?_
              rintro e' Y ⟨rfl, q1⟩
              have QB := bel_up hb q1 hb.size
              have ho2 := own_bel hown q1
              clear hof hown hb q1
              go_wp2_with (at_builtin; refine wpList_append_lies _ rfl _ _ _ rfl w.heap.size 42 i0 _ 6 56 Tryd.underlying23 hi0 hz0 hz1 hz2 rfl (by omega) _ acc.length (acc.flatMap tkL) rfl ((ho2.alloc _).alloc _) ⟨Y.heap.size + 1, 0, none⟩ 1 1 [.int .i64 tk, .string TX, .int .i64 tv, .int .u32 ta, .int .i64 tb, .int .i64 k] rfl rfl (World.news_of_block (cs := #[.int .i64 tk, .string TX, .int .i64 tv, .int .u32 ta, .int .i64 tb, .int .i64 k]) (t := 42) (fr := (0, 0)) (pf_new _ _ _ (by simp))) (by simp [Value.oneCell']) (by omega) (by unfold maxLen; omega) (by omega) (by simp; have := QB.size; omega) _ rfl ?_; intro g1 cap W1 hown1 hgrow hat hlt1)
              have q9 := own_up ((ho2.alloc _).alloc _) hgrow (bel_alloc (bel_alloc QB _) _)
              have e9 : acc.flatMap tkL ++ [.int .i64 tk, .string TX, .int .i64 tv, .int .u32 ta, .int .i64 tb, .int .i64 k] = (acc ++ [(⟨tk, tx, tv, ta, tb, k⟩ : Tk)]).flatMap tkL := by rw [← flat_add, HTX.out]; rfl
              rw [e9] at hown1
              go_roundg (s.size - j)
              case measure => omega
              case rel => exact ⟨j, _, by omega, rfl, by rw [List.length_append]; exact hown1, by rw [List.length_append]; simp; omega, HJ2.out, q9⟩
    · obtain rfl : k = s.size := by omega
      have d4 : decide ((s.size : Int) < s.size) = false := decide_eq_false (by omega)
      have HJ2 : Hid (addT acc (.inr [endT s.size]) = toks l 0 0) := by
        show addT acc (.inr [endT s.size]) = toks l 0 0
        rw [← HJ, from_end (by rw [HS.out]; exact Nat.le_refl _)]
      clear HJ
      have QB := hb
      go_wp2_with (at_builtin; refine wpList_append_lies _ rfl _ _ _ rfl w.heap.size 42 i0 _ 6 56 Tryd.underlying23 hi0 hz0 hz1 hz2 rfl (by omega) _ acc.length (acc.flatMap tkL) rfl (hown.alloc _) ⟨wr.heap.size, 0, none⟩ 1 1 [.int .i64 0, .string ⟨#[]⟩, .int .i64 0, .int .u32 0, .int .i64 0, .int .i64 s.size] rfl rfl (World.news_of_block (cs := #[.int .i64 0, .string ⟨#[]⟩, .int .i64 0, .int .u32 0, .int .i64 0, .int .i64 s.size]) (t := 42) (fr := (0, 0)) (pf_new _ _ _ (by simp))) (by simp [Value.oneCell']) (by omega) (by unfold maxLen; omega) (by omega) (by simp; have := QB.size; omega) _ rfl ?_; intro g1 cap W1 hown1 hgrow hat hlt1)
      have q9 := own_up (hown.alloc _) hgrow (bel_alloc hb _)
      have e9 : acc.flatMap tkL ++ [.int .i64 0, .string ⟨#[]⟩, .int .i64 0, .int .u32 0, .int .i64 0, .int .i64 s.size] = (acc ++ [endT s.size]).flatMap tkL := by rw [← flat_add]; rfl
      rw [e9] at hown1
      have hR := HJ2.out
      rw [← hR]
      clear e9 hgrow hat hlt1 QB
      go_ret2
      refine ⟨g1, cap, ?_, ?_, q9⟩
      · rw [List.length_append]; rfl
      · rw [List.length_append]; exact hown1
end Go.Proofs.YtbegdnagegonjaaDoor
