/- What Cut does. -/
import Derived.Test.YtejhgifadohbiaaGreatDoorKD
import Derived.Deep.AppendLies
import Derived.Deep.LoopGhost
import Derived.WalkMore
import Derived.Test.YtejhgifadohbiaaGreatDoorOW
namespace Go.Proofs.YtejhgifadohbiaaGreatDoor
open Go.RowKit Go.Lib

theorem infoT : (Tryz.prog.info? 103).map (fun i => (i.zero, i.size, i.bytes)) = some (some (.agg #[.int .i64 0, .string ⟨#[]⟩, .int .i64 0, .int .u32 0, .int .i64 0, .int .i64 0]), 6, 56) := by kernel_rfl
/-- An error at a place, as a value. -/
def faV (no k : Nat) : Value := .iface 88 (.agg #[.int .i64 no, .int .i64 k])
theorem wrap_any (no k : Nat) (w : World) : Calls Tryz.prog 37 #[.int .i64 no, .int .i64 k] w fun e w' => e = .returned (faV no k) ∧ w' = w := by
  unfold faV
  go_enter Tryz.func37, Tryz.ntmps37
  go_wp2
  go_ret
  exact ⟨rfl, rfl⟩
/-- What Cut answers. -/
def CutOut (w : World) : Nat ⊕ List Tk → Ending → World → Prop
  | .inl k, e, w' => e = .returned (.tuple #[.slice none 0 0, faV 1 k]) ∧ Below w.heap.size w w'
  | .inr ts, e, w' => ∃ g cap, e = .returned (.tuple #[.slice (some ⟨g, 0, none⟩) ts.length cap, .nilIface]) ∧ w'.ownsRow w.heap.size 103 6 (.slice (some ⟨g, 0, none⟩) ts.length cap) ts.length (ts.flatMap tkL) ∧ Below w.heap.size w w'
theorem sub_one {s : ByteArray} {l : List UInt8} {k : Nat} (hl : l = s.data.toList) (h : k < l.length) : s.extract k (k + 1) = ⟨[l.getD k 0].toArray⟩ := by
  rw [extract_eq, ← hl, drop_at h, show k + 1 - k = 1 by omega]
  rfl
theorem sub_pc {s : ByteArray} {l : List UInt8} {k : Nat} (hl : l = s.data.toList) : s.extract k (k + spanN prtP (l.drop k)) = ⟨(pcAt l k).toArray⟩ := by
  rw [extract_eq, ← hl, show k + spanN prtP (l.drop k) - k = spanN prtP (l.drop k) by omega]
  rfl
theorem tk_one (t : Tk) : ∀ u ∈ tkL t, u.oneCell' = true := by
  intro u hu
  simp [tkL] at hu
  rcases hu with rfl | rfl | rfl | rfl | rfl | rfl <;> rfl
theorem flat_add (acc : List Tk) (t : Tk) : acc.flatMap tkL ++ tkL t = (acc ++ [t]).flatMap tkL := by simp
theorem pc_len (l : List UInt8) (k : Nat) : (pcAt l k).length ≤ l.length := by
  unfold pcAt
  rw [List.length_take, List.length_drop]
  omega
/-- What holds ahead of each round. -/
def CutAt (w : World) (l : List UInt8) (n : Nat) (g : Nat) (v i : Value) (wr : World) : Prop :=
  ∃ (k : Nat) (acc : List Tk), k + g = n ∧ i = .int .i64 k ∧ wr.ownsRow w.heap.size 103 6 v acc.length (acc.flatMap tkL) ∧ acc.length ≤ k ∧ addT acc (fromT l k) = toks l 0 0 ∧ Below w.heap.size w wr
set_option maxHeartbeats 16000000 in
set_option maxRecDepth 20000 in
theorem cut_any (s : ByteArray) (hs : s.size ≤ 65536) (w : World) :
    Calls Tryz.prog 26 #[.string s] w (CutOut w (toks s.data.toList 0 0)) := by
  have hsz : s.data.toList.length = s.size := (size_eq s).symm
  obtain ⟨l, hl⟩ : ∃ l, l = s.data.toList := ⟨_, rfl⟩
  rw [← hl] at hsz ⊢
  have HIDX : Hid (∀ k (h : k < s.size), s[k] = l.getD k 0) := idx_at hl
  have HS1 : Hid (∀ k, k < l.length → s.extract k (k + 1) = ⟨[l.getD k 0].toArray⟩) := fun k h => sub_one hl h
  have HS2 : Hid (∀ k, s.extract k (k + spanN prtP (l.drop k)) = ⟨(pcAt l k).toArray⟩) := fun k => sub_pc hl
  have HE : Hid (∀ k, k ≤ s.size → ∀ w, Calls Tryz.prog 39 #[.string s, .int .i64 k] w fun e w' => e = .returned (.int .i64 ((k + spanN prtP (l.drop k) : Nat) : Int)) ∧ w' = w) := fun k h w => by rw [hl]; exact end_any s k hs h w
  clear hl
  have HS : Hid (l.length = s.size) := hsz
  clear hsz
  have d0 : decide ((65536 : Int) < s.size) = false := decide_eq_false (by omega)
  obtain ⟨i0, hi0, hz0, hz1, hz2⟩ := info_parts infoT
  go_enter Tryz.func26, Tryz.ntmps26
  go_wp2_with fail
  go_step3
  go_wp2_with fail
  go_step3
  go_wp2_with fail
  go_loopg [4, 5] s.size (fun g v i wr => CutAt w l s.size g v i wr)
  case atStart =>
    refine ⟨0, [], Nat.zero_add _, rfl, World.ownsRow_nil _ _ _ _, Nat.le_refl _, add_nil _, Below.refl _ _⟩
  case round =>
    obtain ⟨k, acc, hk, rfl, hown, hal, HJ, hb⟩ := hrel
    by_cases hlt : k < s.size
    · have hi := HIDX.out k hlt
      have d4 : decide ((k : Int) < s.size) = true := decide_eq_true (by omega)
      have hlt' : k < l.length := by rw [HS.out]; exact hlt
      obtain ⟨c, hc⟩ : ∃ c, c = l.getD k 0 := ⟨_, rfl⟩
      obtain ⟨x, hx⟩ : ∃ x : Nat, x = c.toNat := ⟨_, rfl⟩
      have hi2 : s[k].toNat = x := by rw [hi, hx, hc]
      clear hi
      by_cases hblk : x = 32 ∨ x = 9 ∨ x = 10
      · have HJ2 : Hid (addT acc (fromT l (k + 1)) = toks l 0 0) := by
          show addT acc (fromT l (k + 1)) = toks l 0 0
          rw [← HJ, from_blk hlt' (by unfold blkP; rw [← hc, ← hx]; simp; omega)]
        clear HJ hc hx hlt'
        rcases hblk with rfl | rfl | rfl
        all_goals
          go_wp2_with fail
          go_roundg (s.size - (k + 1))
          case measure => omega
          case rel => exact ⟨k + 1, acc, by omega, by go_num, hown, by omega, HJ2.out, hb⟩
      have nb : blkP (l.getD k 0) = false := by unfold blkP; rw [← hc, ← hx]; simp; omega
      have n32 : ((x : Int) == 32) = false := by rw [beq_eq_false_iff_ne]; omega
      have n9 : ((x : Int) == 9) = false := by rw [beq_eq_false_iff_ne]; omega
      have n10 : ((x : Int) == 10) = false := by rw [beq_eq_false_iff_ne]; omega
      by_cases hrem : x = 35
      · have h35 : (l.getD k 0).toNat = 35 := by rw [← hc, ← hx, hrem]
        have HJ0 : Hid (addT acc (fromT l (k + spanN nlfP (l.drop k))) = toks l 0 0) := by
          show addT acc (fromT l (k + spanN nlfP (l.drop k))) = toks l 0 0
          rw [← HJ, from_rem hlt' nb h35]
        have H35 : Hid ((l.getD k 0).toNat = 35) := h35
        subst hrem
        clear HJ hc hx hlt' nb hblk n32 n9 n10 h35
        go_wp2_with fail
        go_loopg [5] (s.size - k) (fun g2 i wy => ∃ j : Nat, j + g2 = s.size ∧ k ≤ j ∧ i = .int .i64 j ∧ j + spanN nlfP (l.drop j) = k + spanN nlfP (l.drop k) ∧ wr = wy)
        case atStart => exact ⟨k, by omega, Nat.le_refl _, rfl, rfl, rfl⟩
        case round =>
          obtain ⟨j, hj, hkj, rfl, HN, rfl⟩ := hrel
          by_cases hjl : j < s.size
          · have hi := HIDX.out j hjl
            have d5 : decide ((j : Int) < s.size) = true := decide_eq_true (by omega)
            have hjl' : j < l.length := by rw [HS.out]; exact hjl
            obtain ⟨y, hy⟩ : ∃ y : Nat, y = (l.getD j 0).toNat := ⟨_, rfl⟩
            have hi3 : s[j].toNat = y := by rw [hi, hy]
            clear hi
            by_cases h10 : y = 10
            · rw [span_stop hjl' (by unfold nlfP; rw [← hy, h10]; rfl)] at HN
              have HN' : Hid (j = k + spanN nlfP (l.drop k)) := by show j = _; omega
              have hjk : j ≠ k := fun h => by have h35 := H35.out; rw [← h, ← hy] at h35; omega
              subst h10
              clear HN hy hjl'
              go_wp2_with fail
              go_roundg (s.size - j)
              case measure => omega
              case rel => exact ⟨j, acc, by omega, rfl, hown, by omega, by rw [HN'.out]; exact HJ0.out, hb⟩
            · rw [span_go hjl' (by unfold nlfP; rw [← hy, decide_eq_false h10]; rfl)] at HN
              have HN' : Hid (j + (spanN nlfP (l.drop (j + 1)) + 1) = k + spanN nlfP (l.drop k)) := HN
              have m10 : ((y : Int) == 10) = false := by rw [beq_eq_false_iff_ne]; omega
              clear HN hy hjl'
              go_wp2_with fail
              go_roundg (s.size - (j + 1))
              case measure => omega
              case rel => exact ⟨j + 1, by omega, by omega, by go_num, by have := HN'.out; omega, rfl⟩
          · obtain rfl : j = s.size := by omega
            have d5 : decide ((s.size : Int) < s.size) = false := decide_eq_false (by omega)
            rw [span_out (by rw [HS.out]; exact Nat.le_refl _)] at HN
            have HJ2 : Hid (addT acc (.inr [endT s.size]) = toks l 0 0) := by
              show addT acc (.inr [endT s.size]) = toks l 0 0
              rw [← HJ0.out, ← HN, Nat.add_zero, from_end (by rw [HS.out]; exact Nat.le_refl _)]
            clear HN
            have QB := hb
            go_wp2_with (at_builtin; refine wpList_append_lies _ rfl _ _ _ rfl w.heap.size 103 i0 _ 6 56 Tryz.underlying80 hi0 hz0 hz1 hz2 rfl (by omega) _ acc.length (acc.flatMap tkL) rfl (hown.alloc _) ⟨wr.heap.size, 0, none⟩ 1 1 [.int .i64 0, .string ⟨#[]⟩, .int .i64 0, .int .u32 0, .int .i64 0, .int .i64 s.size] rfl rfl (World.news_of_block (cs := #[.int .i64 0, .string ⟨#[]⟩, .int .i64 0, .int .u32 0, .int .i64 0, .int .i64 s.size]) (t := 103) (fr := (0, 0)) (pf_new _ _ _ rfl)) (by simp [Value.oneCell']) (by omega) (by unfold maxLen; omega) (by omega) (by simp; have := QB.size; omega) _ rfl ?_; intro g1 cap W1 hown1 hgrow hat hlt1)
            have q9 := own_up (hown.alloc _) hgrow (bel_alloc hb _)
            have e9 : acc.flatMap tkL ++ [.int .i64 0, .string ⟨#[]⟩, .int .i64 0, .int .u32 0, .int .i64 0, .int .i64 s.size] = (acc ++ [endT s.size]).flatMap tkL := by rw [← flat_add]; rfl
            rw [e9] at hown1
            have hR := HJ2.out
            (try rw [Exit.noGoto_ret])
            rw [← hR]
            clear e9 hgrow hat hlt1 QB
            go_ret2
            refine ⟨g1, cap, ?_, ?_, q9⟩
            · rw [List.length_append]; rfl
            · rw [List.length_append]; exact hown1
      have n35 : ((x : Int) == 35) = false := by rw [beq_eq_false_iff_ne]; omega
      have nr : ¬ (l.getD k 0).toNat = 35 := by rw [← hc, ← hx]; exact hrem
      by_cases hsgn : x = 123 ∨ x = 125 ∨ x = 59
      · have HJ2 : Hid (addT (acc ++ [⟨4, [c], 0, 0, 0, k⟩]) (fromT l (k + 1)) = toks l 0 0) := by
          show addT (acc ++ [⟨4, [c], 0, 0, 0, k⟩]) (fromT l (k + 1)) = toks l 0 0
          rw [← HJ, from_sgn hlt' nb nr (by unfold sgnP; rw [← hc, ← hx]; simp; omega), add_add, hc]
        obtain ⟨X, hX⟩ : ∃ X, X = s.extract k (k + 1) := ⟨_, rfl⟩
        have HX : Hid (X = ⟨[c].toArray⟩) := by show X = _; rw [hX, HS1.out k hlt', hc]
        have hX' : s.extract k (k + 1) = X := hX.symm
        have hcp := copy_any X (by rw [HX.out, str_size]; show 1 ≤ _; decide)
        have c1 : (0 : Int) ≤ k := by omega
        have c2 : (k : Int) + 1 ≤ s.size := by omega
        have c3 : (k : Int) ≤ k + 1 := by omega
        clear HJ hc hx hlt' nb nr hX hblk hrem
        rcases hsgn with rfl | rfl | rfl
        all_goals
          go_wp2_with fail
          refine (hcp _).mono ?_
          rintro e Y ⟨rfl, q1⟩
          have QB := bel_up hb q1 hb.size
          have ho2 := own_bel hown q1
          go_wp2_with (at_builtin; refine wpList_append_lies _ rfl _ _ _ rfl w.heap.size 103 i0 _ 6 56 Tryz.underlying80 hi0 hz0 hz1 hz2 rfl (by omega) _ acc.length (acc.flatMap tkL) rfl (ho2.alloc _) ⟨Y.heap.size, 0, none⟩ 1 1 [.int .i64 4, .string X, .int .i64 0, .int .u32 0, .int .i64 0, .int .i64 k] rfl rfl (World.news_of_block (cs := #[.int .i64 4, .string X, .int .i64 0, .int .u32 0, .int .i64 0, .int .i64 k]) (t := 103) (fr := (0, 0)) (pf_new _ _ _ rfl)) (by simp [Value.oneCell']) (by omega) (by unfold maxLen; omega) (by omega) (by simp; have := QB.size; omega) _ rfl ?_; intro g1 cap W1 hown1 hgrow hat hlt1)
          have q9 := own_up (ho2.alloc _) hgrow (bel_alloc QB _)
          have e9 : acc.flatMap tkL ++ [.int .i64 4, .string X, .int .i64 0, .int .u32 0, .int .i64 0, .int .i64 k] = (acc ++ [(⟨4, [c], 0, 0, 0, k⟩ : Tk)]).flatMap tkL := by rw [← flat_add, HX.out]; rfl
          rw [e9] at hown1
          go_roundg (s.size - (k + 1))
          case measure => omega
          case rel => exact ⟨k + 1, _, by omega, by go_num, by rw [List.length_append]; exact hown1, by rw [List.length_append]; simp; omega, HJ2.out, q9⟩
      have n123 : ((x : Int) == 123) = false := by rw [beq_eq_false_iff_ne]; omega
      have n125 : ((x : Int) == 125) = false := by rw [beq_eq_false_iff_ne]; omega
      have n59 : ((x : Int) == 59) = false := by rw [beq_eq_false_iff_ne]; omega
      have ns : sgnP (l.getD k 0) = false := by unfold sgnP; rw [← hc, ← hx]; simp; omega
      have hend := HE.out k (by omega)
      have hle := span_in (p := prtP) (l := l) (i := k) (by omega)
      rw [HS.out] at hle
      obtain ⟨e, he⟩ : ∃ e, e = k + spanN prtP (l.drop k) := ⟨_, rfl⟩
      have hX := HS2.out k
      rw [← he] at hend hle hX
      have hof := of_any (pcAt l k) (Nat.le_trans (pc_len l k) (by rw [HS.out]; exact hs))
      obtain ⟨X, hXe⟩ : ∃ X : ByteArray, X = ⟨(pcAt l k).toArray⟩ := ⟨_, rfl⟩
      rw [← hXe] at hX hof
      have c1 : (0 : Int) ≤ k := by omega
      have c2 : (e : Int) ≤ s.size := by omega
      have c3 : (k : Int) ≤ e := by omega
      cases hp : pieceP (pcAt l k) with
      | none =>
        have HJ2 : Hid (.inl k = toks l 0 0) := by
          show .inl k = toks l 0 0
          rw [← HJ, from_bad hlt' nb nr ns hp]
          rfl
        rw [hp] at hof
        unfold ofV tkV noT at hof
        simp only [Int.natCast_zero] at hof
        have hwr := wrap_any 1 k
        unfold faV at hwr
        clear HJ hc hx hlt' nb nr ns hp hXe hblk hrem hsgn he hle
        go_wp2_with (first | (go_at_call 39; refine (hend _).mono ?_; rintro e w1 ⟨rfl, rfl⟩) | (go_at_call 40; refine (hof _).mono ?_; rintro e Y ⟨rfl, q1⟩) | (go_at_call 37; refine (hwr _).mono ?_; rintro e w1 ⟨rfl, rfl⟩))
        (try rw [Exit.noGoto_ret])
        rw [← HJ2.out]
        go_ret2
        exact ⟨rfl, bel_alloc (bel_up hb q1 hb.size) _⟩
      | some t =>
        obtain ⟨hfr, hpos⟩ := from_pc hlt' nb nr ns hp
        obtain ⟨tk, tx, tv, ta, tb, tp⟩ := t
        have HJ2 : Hid (addT (acc ++ [⟨tk, tx, tv, ta, tb, k⟩]) (fromT l e) = toks l 0 0) := by
          show addT (acc ++ [⟨tk, tx, tv, ta, tb, k⟩]) (fromT l e) = toks l 0 0
          rw [← HJ, hfr, add_add, he]
          rfl
        have hke : k < e := by omega
        rw [hp] at hof
        unfold ofV tkV at hof
        dsimp only at hof
        obtain ⟨TX, hTX⟩ : ∃ T : ByteArray, T = ⟨tx.toArray⟩ := ⟨_, rfl⟩
        rw [← hTX] at hof
        have HTX : Hid (TX = ⟨tx.toArray⟩) := hTX
        clear HJ hc hx hlt' nb nr ns hp hXe hblk hrem hsgn he hle hfr hpos hTX
        go_wp2_with fail
        refine (hend _).mono ?_
        rintro e' w1 ⟨rfl, rfl⟩
        go_wp2_with fail
        refine (hof _).mono ?_
        rintro e' Y ⟨rfl, q1⟩
        have QB := bel_up hb q1 hb.size
        have ho2 := own_bel hown q1
        clear hend hof hown hb q1
        go_wp2_with (at_builtin; refine wpList_append_lies _ rfl _ _ _ rfl w.heap.size 103 i0 _ 6 56 Tryz.underlying80 hi0 hz0 hz1 hz2 rfl (by omega) _ acc.length (acc.flatMap tkL) rfl ((ho2.alloc _).alloc _) ⟨Y.heap.size + 1, 0, none⟩ 1 1 [.int .i64 tk, .string TX, .int .i64 tv, .int .u32 ta, .int .i64 tb, .int .i64 k] rfl rfl (World.news_of_block (cs := #[.int .i64 tk, .string TX, .int .i64 tv, .int .u32 ta, .int .i64 tb, .int .i64 k]) (t := 103) (fr := (0, 0)) (pf_new _ _ _ (by simp))) (by simp [Value.oneCell']) (by omega) (by unfold maxLen; omega) (by omega) (by simp; have := QB.size; omega) _ rfl ?_; intro g1 cap W1 hown1 hgrow hat hlt1)
        have q9 := own_up ((ho2.alloc _).alloc _) hgrow (bel_alloc (bel_alloc QB _) _)
        have e9 : acc.flatMap tkL ++ [.int .i64 tk, .string TX, .int .i64 tv, .int .u32 ta, .int .i64 tb, .int .i64 k] = (acc ++ [(⟨tk, tx, tv, ta, tb, k⟩ : Tk)]).flatMap tkL := by rw [← flat_add, HTX.out]; rfl
        rw [e9] at hown1
        go_roundg (s.size - e)
        case measure => omega
        case rel => exact ⟨e, _, by omega, rfl, by rw [List.length_append]; exact hown1, by rw [List.length_append]; simp; omega, HJ2.out, q9⟩
    · obtain rfl : k = s.size := by omega
      have d4 : decide ((s.size : Int) < s.size) = false := decide_eq_false (by omega)
      have HJ2 : Hid (addT acc (.inr [endT s.size]) = toks l 0 0) := by
        show addT acc (.inr [endT s.size]) = toks l 0 0
        rw [← HJ, from_end (by rw [HS.out]; exact Nat.le_refl _)]
      clear HJ
      have QB := hb
      go_wp2_with (at_builtin; refine wpList_append_lies _ rfl _ _ _ rfl w.heap.size 103 i0 _ 6 56 Tryz.underlying80 hi0 hz0 hz1 hz2 rfl (by omega) _ acc.length (acc.flatMap tkL) rfl (hown.alloc _) ⟨wr.heap.size, 0, none⟩ 1 1 [.int .i64 0, .string ⟨#[]⟩, .int .i64 0, .int .u32 0, .int .i64 0, .int .i64 s.size] rfl rfl (World.news_of_block (cs := #[.int .i64 0, .string ⟨#[]⟩, .int .i64 0, .int .u32 0, .int .i64 0, .int .i64 s.size]) (t := 103) (fr := (0, 0)) (pf_new _ _ _ rfl)) (by simp [Value.oneCell']) (by omega) (by unfold maxLen; omega) (by omega) (by simp; have := QB.size; omega) _ rfl ?_; intro g1 cap W1 hown1 hgrow hat hlt1)
      have q9 := own_up (hown.alloc _) hgrow (bel_alloc hb _)
      have e9 : acc.flatMap tkL ++ [.int .i64 0, .string ⟨#[]⟩, .int .i64 0, .int .u32 0, .int .i64 0, .int .i64 s.size] = (acc ++ [endT s.size]).flatMap tkL := by rw [← flat_add]; rfl
      rw [e9] at hown1
      have hR := HJ2.out
      (try rw [Exit.noGoto_ret])
      rw [← hR]
      clear e9 hgrow hat hlt1 QB
      go_ret2
      refine ⟨g1, cap, ?_, ?_, q9⟩
      · rw [List.length_append]; rfl
      · rw [List.length_append]; exact hown1
end Go.Proofs.YtejhgifadohbiaaGreatDoor
