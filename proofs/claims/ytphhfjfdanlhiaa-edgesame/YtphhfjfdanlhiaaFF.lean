/- Which clauses are for a destination: For. -/
import Derived.Test.YtphhfjfdanlhiaaFD
import Derived.Deep.AppendLies
import Derived.Deep.LoopGhost
import Derived.Deep.CutRange
import Derived.Deep.DeepCutAuto
namespace Go.Proofs.Ytphhfjfdanlhiaa
open Go.RowKit Go.Lib

theorem for_len (a : Nat) (b : Int) : ∀ l : List ClD, (forP a b l).length ≤ l.length
  | [] => Nat.le_refl _
  | c :: l => by
    have := for_len a b l
    unfold forP
    split
    · split
      · simp
      · simp; omega
    · simp; omega
theorem bare_ok {c : ClD} (h : c.ok) : (bareP c).ok := ⟨by show 0 < 4294967296; omega, h.wi, h.ou, h.se, h.cl, h.m0, h.m1, h.p0, h.p1⟩
theorem for_ok {a : Nat} {b : Int} {l : List ClD} (h : ∀ c ∈ l, c.ok) : ∀ c ∈ forP a b l, c.ok := fun c hc => by
  obtain ⟨d, hd, rfl⟩ := for_mem hc
  exact bare_ok (h d hd)
theorem clW_len (c : ClD) : (clW c).length = 10 := rfl
/-- A row that a call made lies as a slice. -/
theorem cls_of_own {W : World} {B : Nat} {v : Value} {l : List ClD} (hn : l.length ≤ 9223372036854775807) (h : W.ownsRow B 53 10 v l.length (l.flatMap clW)) : SliceAt W.heap.size 10 (ClAt W) v l :=
  slice_of_own clW clW_len (fun _ _ _ _ h => clW_at h) hn h
theorem own_mono {W : World} {B B' t z n : Nat} {v : Value} {xs : List Value} (h : W.ownsRow B t z v n xs) (hb : B' ≤ B) : W.ownsRow B' t z v n xs :=
  ⟨h.1, h.2.imp id fun ⟨g, cap, cur, h1, h2, h3⟩ => ⟨g, cap, cur, h1, Nat.le_trans hb h2, h3⟩⟩
set_option maxHeartbeats 8000000 in
set_option maxRecDepth 20000 in
theorem for_any {v : Value} {l : List ClD} (hl : ∀ c ∈ l, c.ok) (a : Nat) (b : Int) (ha : a < 4294967296) (w : World) (hB : l.length * 48 ≤ 140737488355328) (h : SliceAt w.heap.size 10 (ClAt w) v l) :
    Calls Try.prog 19 #[v, pfV a b] w fun e w' => ∃ cv, e = .returned cv ∧ w'.ownsRow w.heap.size 53 10 cv (forP a b l).length ((forP a b l).flatMap clW) ∧ Below w.heap.size w w' := by
  obtain ⟨ad, cap, rfl, hn, hel⟩ := h
  obtain ⟨i0, hi0, hz0, hz1, hz2⟩ := info_parts infoCl
  obtain ⟨n, hnn⟩ : ∃ n, n = l.length := ⟨_, rfl⟩
  have HEL : Hid (∀ i x, l[i]? = some x → ∃ b off, ad = some ⟨b, off, none⟩ ∧ b < w.heap.size ∧ ClAt w b (off + i * 10) x) := hel
  have HL : Hid (∀ c ∈ l, c.ok) := hl
  have HN : Hid (n = l.length ∧ l.length * 48 ≤ 140737488355328) := ⟨hnn, hB⟩
  have hn9 : n ≤ 9223372036854775807 := by omega
  rw [← hnn]
  clear hel hl hnn hB hn
  unfold pfV
  go_enter Try.func19, Try.ntmps19
  go_wp2_with fail
  obtain ⟨bp, hbp⟩ : ∃ n, n = w.heap.size := ⟨_, rfl⟩
  obtain ⟨U, hU⟩ : ∃ U, U = w.alloc (.cells #[.int .u32 a, .int .i64 b] 50) := ⟨_, rfl⟩
  have HPU : Hid (U.heap[bp]? = some (.cells #[.int .u32 a, .int .i64 b] 50 (0, 0))) := by rw [hU]; exact pf_new _ _ _ hbp
  have HWU : Hid (Below w.heap.size w U) := by rw [hU]; exact bel_alloc (Below.refl _ _) _
  rw [← hU, ← hbp]
  clear hU hbp
  obtain ⟨P0, P1⟩ := pf_cells HPU.out
  go_loopg [5, 10] n (fun g v i wr => ∃ (k : Nat) (L : List ClD) (v5 : Value), k + g = n ∧ i = .int .i64 k ∧ v5 = v ∧ Hid (L ++ forP a b (l.drop k) = forP a b l ∧ L.length ≤ k ∧ wr.ownsRow U.heap.size 53 10 v5 L.length (L.flatMap clW) ∧ Below U.heap.size U wr))
  case atStart => exact ⟨0, [], _, Nat.zero_add _, rfl, rfl, (⟨rfl, Nat.le_refl _, World.ownsRow_nil _ _ _ _, Below.refl _ _⟩ : _ ∧ _ ∧ _ ∧ _)⟩
  case round =>
    obtain ⟨k, L, v5, hk, rfl, rfl, HW⟩ := hrel
    obtain ⟨m, hm⟩ : ∃ m, m = L.length := ⟨_, rfl⟩
    have HM : Hid (m = L.length) := hm
    by_cases hlt : k < n
    · obtain ⟨c, hc⟩ : ∃ c, l[k]? = some c := ⟨l[k]'(by have := HN.out.1; omega), List.getElem?_eq_getElem _⟩
      obtain ⟨bc, off, rfl, hb, hat⟩ := HEL.out k c hc
      have hco := HL.out c (List.mem_of_getElem? hc)
      obtain ⟨c0, c1, c2, c3, c4, c5, c6, c7, c8, c9⟩ := hat.keep hb (cells_below (bel_up HWU.out HW.out.2.2.2 HWU.out.size) (Nat.le_refl _))
      have d4 : decide ((k : Int) < n) = true := decide_eq_true (by omega)
      have k0 : (0 : Int) ≤ k := by omega
      have hle := leads_any c hco a b ha
      obtain ⟨y, hy⟩ : ∃ y, y = forC c a b := ⟨_, rfl⟩
      rw [← hy] at hle
      have HF : Hid (forP a b (l.drop k) = (if y = true then (if lastP c then [bareP c] else bareP c :: forP a b (l.drop (k + 1))) else forP a b (l.drop (k + 1)))) := by
        show _ = _
        rw [drop_next hc, forP, hy]
      obtain ⟨V, hV⟩ : ∃ V, V = wr.alloc (clB c) := ⟨_, rfl⟩
      have hwV : Below wr.heap.size wr V := by rw [hV]; exact bel_alloc (Below.refl _ _) _
      have htV : V.heap[wr.heap.size]? = some (clB c) := by rw [hV]; exact pf_new _ _ _ rfl
      obtain ⟨q, rfl⟩ : ∃ q : BelOf U, V = q.w := ⟨⟨V, bel_up HW.out.2.2.2 hwV HW.out.2.2.2.size⟩, rfl⟩
      have p0 := P0 q
      have p1 := P1 q
      rw [hV] at p0 p1
      unfold clB at hV p0 p1
      unfold clV pfV at hle
      clear hc hat hb hco hy
      go_wp2_with fail
      rw [← hV]
      refine (hle _).mono ?_
      rintro e W ⟨rfl, q1⟩
      have htW := pf_block q1 htV
      have hwW := bel_up hwV q1 hwV.size
      obtain ⟨bt, hbt⟩ : ∃ bt, bt = wr.heap.size := ⟨_, rfl⟩
      rw [← hbt] at htW ⊢
      have hUW := bel_up q.h q1 q.h.size
      clear hV p0 p1 c0 c1 c2 c3 c4 c5 c6 c7 c8 c9 hle htV q1
      cases y
      · have HN2 : Hid (L ++ forP a b (l.drop (k + 1)) = forP a b l ∧ L.length ≤ k + 1 ∧ W.ownsRow U.heap.size 53 10 v5 L.length (L.flatMap clW) ∧ Below U.heap.size U W) := by
          refine ⟨?_, Nat.le_succ_of_le HW.out.2.1, own_bel HW.out.2.2.1 hwW, hUW⟩
          rw [← HW.out.1, HF.out]
          rfl
        clear htW hwW hUW
        go_wp2_with fail
        go_roundg (n - (k + 1))
        case measure => omega
        case rel => exact ⟨k + 1, L, _, by omega, by go_num, rfl, HN2⟩
      · obtain ⟨_, _, _, g3, g4, g5, g6, g7, g8, g9⟩ := cl_cell htW
        have x0 := set_at (i := 0) htW (.bool true)
        have x1 := set_at (i := 1) x0 (.int .u32 0)
        have x2 := set_at (i := 2) x1 (.int .i64 0)
        have hX : (((W.setCell ⟨bt, 0, none⟩ (.bool true)).setCell ⟨bt, 1, none⟩ (.int .u32 0)).setCell ⟨bt, 2, none⟩ (.int .i64 0)).heap[bt]? = some (clB (bareP c)) := x2
        have hwX : Below wr.heap.size wr (((W.setCell ⟨bt, 0, none⟩ (.bool true)).setCell ⟨bt, 1, none⟩ (.int .u32 0)).setCell ⟨bt, 2, none⟩ (.int .i64 0)) := ((hwW.setCell (Nat.le_of_eq hbt.symm) _).setCell (Nat.le_of_eq hbt.symm) _).setCell (Nat.le_of_eq hbt.symm) _
        have hoX := own_bel HW.out.2.2.1 hwX
        have hUX := bel_up HW.out.2.2.2 hwX HW.out.2.2.2.size
        have hlt1 := (Array.getElem?_eq_some_iff.1 hX).1
        have HNE : Hid (∀ g1, v5.ownBlock = some g1 → g1 ≠ bt) := fun g1 hg => by
          have := (HW.out.2.2.1.lt g1 hg).2
          omega
        have f := fun i => free_at htW i
        obtain ⟨z0, z1, z2, _⟩ := cl_cell htW
        have HOX : Hid ((((W.setCell ⟨bt, 0, none⟩ (.bool true)).setCell ⟨bt, 1, none⟩ (.int .u32 0)).setCell ⟨bt, 2, none⟩ (.int .i64 0)).ownsRow U.heap.size 53 10 v5 m (L.flatMap clW)) := by rw [hm]; exact hoX
        have HUX : Hid (Below U.heap.size U (((W.setCell ⟨bt, 0, none⟩ (.bool true)).setCell ⟨bt, 1, none⟩ (.int .u32 0)).setCell ⟨bt, 2, none⟩ (.int .i64 0))) := hUX
        have HX : Hid ((((W.setCell ⟨bt, 0, none⟩ (.bool true)).setCell ⟨bt, 1, none⟩ (.int .u32 0)).setCell ⟨bt, 2, none⟩ (.int .i64 0)).heap[bt]? = some (clB (bareP c))) := hX
        have hbs : U.heap.size ≤ W.heap.size := hUW.size
        have hlen : m + 1 ≤ n := by have := HW.out.2.1; omega
        have hby : (m + 1) * 48 ≤ 140737488355328 := by have := HN.out; omega
        clear htW hwW hUW hX hwX hoX hUX hlt1 hbt x0 x1 x2 hwV hm
        have HBK : Hid (∀ W1 o, ((((W.setCell ⟨bt, 0, none⟩ (.bool true)).setCell ⟨bt, 1, none⟩ (.int .u32 0)).setCell ⟨bt, 2, none⟩ (.int .i64 0)).alloc o).grownBy W1 v5.ownBlock → W1.heap[bt]? = some (clB (bareP c))) := fun W1 o hg => by
          have h := pf_block (bel_alloc (Below.refl _ _) o) HX.out
          rw [hg.block bt (Array.getElem?_eq_some_iff.1 h).1 (fun e => HNE.out bt e.symm rfl)]
          exact h
        have HNX : Hid ((clW (bareP c)) = [.bool true, .int .u32 0, .int .i64 0, .int .u8 c.wi, .int .u8 c.ou, .bool c.drop, .int .u8 c.se, .int .u8 c.cl, .int .i64 c.more, .int .i64 c.pref]) := rfl
        have hwo : (((c.wi : Int) == 0) = true ∧ ((c.ou : Int) == 0) = true ∧ lastP c = true) ∨ (((c.wi : Int) == 0) = true ∧ ((c.ou : Int) == 0) = false ∧ lastP c = false) ∨ (((c.wi : Int) == 0) = false ∧ lastP c = false) := by
          unfold lastP
          by_cases h1 : c.wi = 0
          · by_cases h2 : c.ou = 0
            · exact .inl ⟨by rw [h1]; rfl, by rw [h2]; rfl, by rw [h1, h2]; rfl⟩
            · exact .inr (.inl ⟨by rw [h1]; rfl, by rw [beq_eq_false_iff_ne]; omega, by rw [h1, decide_eq_false h2]; rfl⟩)
          · exact .inr (.inr ⟨by rw [beq_eq_false_iff_ne]; omega, by rw [decide_eq_false h1]; rfl⟩)
        rcases hwo with ⟨d5, d6, hls⟩ | ⟨d5, d6, hls⟩ | ⟨d5, hls⟩
        all_goals
          have HLS : Hid (lastP c = _) := hls
          clear hls
          go_wp2_with (at_builtin; refine wpList_append_lies _ rfl _ _ _ rfl U.heap.size 53 i0 _ 10 48 Try.underlying25 hi0 hz0 hz1 hz2 rfl (by omega) _ m _ rfl (HOX.out.alloc _) ⟨W.heap.size, 0, none⟩ 1 1 (clW (bareP c)) rfl rfl (World.news_of_block (cs := #[.bool true, .int .u32 0, .int .i64 0, .int .u8 c.wi, .int .u8 c.ou, .bool c.drop, .int .u8 c.se, .int .u8 c.cl, .int .i64 c.more, .int .i64 c.pref]) (t := 53) (fr := (0, 0)) (pf_new _ _ _ (by simp))) (clW_one _) (by omega) (by unfold maxLen; omega) hby (by simp; omega) _ rfl ?_; intro g1 cap1 W1 hown1 hgrow _ _; have hbx := HBK.out W1 _ hgrow; have j3 : W1.cell? ⟨bt, 3, none⟩ = some (.int .u8 c.wi) := (cl_cell hbx).2.2.2.1; have j4 : W1.cell? ⟨bt, 4, none⟩ = some (.int .u8 c.ou) := (cl_cell hbx).2.2.2.2.1; have HOW : Hid (W1.ownsRow U.heap.size 53 10 (.slice (some ⟨g1, 0, none⟩) (m + 1) cap1) (m + 1) (L.flatMap clW ++ clW (bareP c)) ∧ Below U.heap.size U W1) := ⟨hown1, own_up (HOX.out.alloc _) hgrow (bel_up HUX.out (bel_alloc (Below.refl _ _) _) HUX.out.size)⟩; clear hown1 hgrow hbx)
        · go_ret
          refine ⟨_, rfl, own_mono ?_ HWU.out.size, bel_up HWU.out HOW.out.2 HWU.out.size⟩
          have e9 : L ++ [bareP c] = forP a b l := by
            rw [← HW.out.1, HF.out, if_pos trivial, if_pos HLS.out]
          rw [← e9, List.flatMap_append, List.length_append, ← HM.out, show [bareP c].flatMap clW = clW (bareP c) by simp]
          exact HOW.out.1
        all_goals
          have HN2 : Hid ((L ++ [bareP c]) ++ forP a b (l.drop (k + 1)) = forP a b l ∧ (L ++ [bareP c]).length ≤ k + 1 ∧ W1.ownsRow U.heap.size 53 10 (.slice (some ⟨g1, 0, none⟩) (m + 1) cap1) (L ++ [bareP c]).length ((L ++ [bareP c]).flatMap clW) ∧ Below U.heap.size U W1) := by
            refine ⟨?_, ?_, ?_, HOW.out.2⟩
            · rw [← HW.out.1, HF.out, if_pos trivial, HLS.out]
              simp
            · rw [List.length_append]
              exact Nat.succ_le_succ HW.out.2.1
            · rw [List.flatMap_append, List.length_append, ← HM.out, show [bareP c].flatMap clW = clW (bareP c) by simp]
              exact HOW.out.1
          clear HOW
          go_roundg (n - (k + 1))
          case measure => omega
          case rel => exact ⟨k + 1, _, _, by omega, by go_num, rfl, HN2⟩
    · obtain rfl : k = n := by omega
      have d4 : decide ((k : Int) < k) = false := decide_eq_false (by omega)
      have HN2 : Hid (L = forP a b l) := by
        show L = _
        have h := HW.out.1
        rw [HN.out.1, List.drop_length] at h
        rw [← h]
        exact (List.append_nil L).symm
      go_wp2_with fail
      go_ret
      refine ⟨_, rfl, own_mono ?_ HWU.out.size, bel_up HWU.out HW.out.2.2.2 HWU.out.size⟩
      rw [← HN2.out]
      exact HW.out.2.2.1
end Go.Proofs.Ytphhfjfdanlhiaa
