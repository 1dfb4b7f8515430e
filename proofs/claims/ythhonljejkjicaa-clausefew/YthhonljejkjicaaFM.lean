/- ClauseNone: the walk. -/
import Derived.Test.YthhonljejkjicaaFJ
import Derived.Test.YthhonljejkjicaaDJ
import Derived.Deep.CutRange
import Derived.Deep.DeepCutAuto
namespace Go.Proofs.Ythhonljejkjicaa
open Go.RowKit Go.Lib

/-- A row of a call's own, cell by cell. -/
theorem own_form {W : World} {B t z n : Nat} {v : Value} {xs : List Value} (h : W.ownsRow B t z v n xs) : ∃ ad cap, v = .slice ad n cap ∧ ∀ j u, xs[j]? = some u → ∃ b off, ad = some ⟨b, off, none⟩ ∧ W.cell? ⟨b, off + j, none⟩ = some u := by
  rcases h.2 with ⟨rfl, rfl⟩ | ⟨g, cap, cur, rfl, _⟩
  · refine ⟨none, 0, rfl, fun j u hj => ?_⟩
    have h1 := (List.getElem?_eq_some_iff.1 hj).1
    rw [h.1] at h1
    omega
  · exact ⟨some ⟨g, 0, none⟩, cap, rfl, fun j u hj => ⟨g, 0, rfl, by rw [Nat.zero_add]; exact own_cell h hj⟩⟩
theorem clsW_one (l : List ClD) : ∀ u ∈ l.flatMap clW, u.oneCell' = true := fun u hu => by
  obtain ⟨c, _, h⟩ := List.mem_flatMap.1 hu
  exact clW_one c u h
theorem dropC_ok : dropC.ok := by
  refine ⟨?_, ?_, ?_, ?_, ?_, ?_, ?_, ?_, ?_⟩ <;> decide
set_option maxHeartbeats 8000000 in
set_option maxRecDepth 20000 in
theorem lclnone_walk (x : At) (ht : 0 ≤ x.tags ∧ x.tags < 256) (_hco : -9223372036854775808 ≤ x.cost ∧ x.cost ≤ 9223372036854775807) {vr : Value} {rs : List RlD} (hrs : ∀ r ∈ rs, r.ok) (n : Nat) (hn : n < 256) (w : World)
    (hr : SliceAt w.heap.size 6 (RlAt w) vr rs) :
    Calls Try.prog 8 #[atV x, vr, .int .u8 n] w fun e w' => e = .returned (.bool true) ∧ Below w.heap.size w w' := by
  have hwk := awake11_any
  have hmk := make_any n hn
  have hcl := fun (X : World) (q : Below w.heap.size w X) => clausesS_any hrs (B := w.heap.size) q.size (rls_keep hr q)
  have HRS : Hid (∀ r ∈ rs, r.ok) := hrs
  obtain ⟨i0, hi0, hz0, hz1, hz2⟩ := info_parts infoCl
  clear hr _hco hrs
  obtain ⟨xo, xp, xc, xt⟩ := x
  obtain ⟨t, rfl⟩ : ∃ t : Nat, xt = t := ⟨xt.toNat, by have := ht.1; dsimp only at this; omega⟩
  dsimp only at ht
  have htn : t < 256 := by omega
  have HT : Hid (0 ≤ (t : Int) ∧ (t : Int) < 256) := ht
  clear ht
  unfold atV
  unfold pfV at hmk
  dsimp only
  go_enter Try.func8, Try.ntmps8
  go_wp2_with fail
  obtain ⟨b3, hb3⟩ : ∃ n, n = w.heap.size := ⟨_, rfl⟩
  obtain ⟨U, hU⟩ : ∃ U, U = w.alloc (.cells #[.bool xo, .int .i64 xp, .int .i64 xc, .int .u8 t] 24) := ⟨_, rfl⟩
  have hwU : Below w.heap.size w U := by rw [hU]; exact bel_alloc (Below.refl _ _) _
  have h3 : U.heap[b3]? = some (atB ⟨xo, xp, xc, t⟩) := by rw [hU]; exact pf_new _ _ _ hb3
  rw [← hU, ← hb3]
  clear hU hb3
  refine (hwk _).mono ?_
  rintro e W ⟨rfl, q1⟩
  replace h3 := pf_block q1 h3
  have hwW := bel_up hwU q1 hwU.size
  clear hwU q1 U hwk
  go_wp2_with fail
  refine (hmk _).mono ?_
  rintro e Y ⟨rfl, q3⟩
  replace h3 := pf_block q3 h3
  have hwY := bel_up hwW q3 hwW.size
  obtain ⟨y0, y1, y2, y3⟩ := at_cell h3
  have ly := (Array.getElem?_eq_some_iff.1 h3).1
  clear hmk q3 hwW
  go_upto_if 20 with fail
  obtain ⟨A, hA⟩ : ∃ k, k = mkA n := ⟨_, rfl⟩
  obtain ⟨B, hB⟩ : ∃ k, k = mkB n := ⟨_, rfl⟩
  have HA2 : Hid (A < 4294967296) := by rw [hA]; exact mkA_lt hn
  rw [← hA, ← hB]
  obtain ⟨b7, h7⟩ : ∃ n, n = Y.heap.size := ⟨_, rfl⟩
  obtain ⟨b8, h8⟩ : ∃ n, n = Y.heap.size + 1 := ⟨_, rfl⟩
  obtain ⟨Z, hZ⟩ : ∃ U, U = (Y.alloc (.cells #[.int .u32 A, .int .i64 B] 28)).alloc (.cells #[.bool xo, .int .i64 xp, .int .i64 xc, .int .u8 t] 24) := ⟨_, rfl⟩
  have hYZ : Below Y.heap.size Y Z := by rw [hZ]; exact bel_alloc2 _ _ _
  have k7 : Z.heap[b7]? = some (.cells #[.int .u32 A, .int .i64 B] 28 (0, 0)) := by rw [hZ]; exact pf_block (bel_alloc (Below.refl _ _) _) (pf_new _ _ _ h7)
  have k8 : Z.heap[b8]? = some (atB ⟨xo, xp, xc, t⟩) := by rw [hZ]; exact pf_new _ _ _ (by rw [h8]; simp)
  rw [← hZ, ← h8, ← h7]
  replace h3 := pf_block hYZ h3
  have hwZ := bel_up hwY hYZ hwY.size
  have HN : Hid (b3 ≠ b8 ∧ b7 ≠ b8 ∧ w.heap.size ≤ b8) := ⟨by omega, by omega, by have := hwY.size; omega⟩
  obtain ⟨wz, hwz⟩ : ∃ wz, wz = if xo = true then (⟨xo, xp, xc, t⟩ : At) else At.zero := ⟨_, rfl⟩
  have HZZ : Hid (wz = if xo = true then (⟨xo, xp, xc, t⟩ : At) else At.zero) := hwz
  have HZS : Hid (Z.heap[b3]? = some (atB ⟨xo, xp, xc, t⟩) ∧ Z.heap[b7]? = some (.cells #[.int .u32 A, .int .i64 B] 28 (0, 0)) ∧ Z.heap[b8]? = some (atB ⟨xo, xp, xc, t⟩) ∧ Below w.heap.size w Z) := ⟨h3, k7, k8, hwZ⟩
  clear hZ h7 h8 hYZ hwY hA hB y0 y1 y2 y3 ly hwz h3 k7 k8 hwZ
  go_cut [] (fun wx => Hid (wx.heap[b3]? = some (atB ⟨xo, xp, xc, t⟩) ∧ wx.heap[b7]? = some (.cells #[.int .u32 A, .int .i64 B] 28 (0, 0)) ∧ wx.heap[b8]? = some (atB wz) ∧ Below w.heap.size w wx))
  case first =>
    cases xo
    · obtain ⟨f0, f1, f2, f3⟩ := at_free HZS.out.2.2.1
      obtain ⟨m0, m1, m2, m3⟩ := at_cell HZS.out.2.2.1
      have HQ : Hid ((put4 Z b8 At.zero).heap[b3]? = some (atB ⟨false, xp, xc, t⟩) ∧ (put4 Z b8 At.zero).heap[b7]? = some (.cells #[.int .u32 A, .int .i64 B] 28 (0, 0)) ∧ (put4 Z b8 At.zero).heap[b8]? = some (atB wz) ∧ Below w.heap.size w (put4 Z b8 At.zero)) := by
        refine ⟨put4_off HZS.out.1 HN.out.1 _, put4_off HZS.out.2.1 HN.out.2.1 _, ?_, put4_below HZS.out.2.2.2 HN.out.2.2 _⟩
        rw [HZZ.out, if_neg (by decide)]
        exact put4_at HZS.out.2.2.1 _
      unfold put4 At.zero at HQ
      clear HZZ
      go_wp2_with fail
      go_meet
      case rel => exact HQ.out
    · have HQ : Hid (Z.heap[b3]? = some (atB ⟨true, xp, xc, t⟩) ∧ Z.heap[b7]? = some (.cells #[.int .u32 A, .int .i64 B] 28 (0, 0)) ∧ Z.heap[b8]? = some (atB wz) ∧ Below w.heap.size w Z) := by
        refine ⟨HZS.out.1, HZS.out.2.1, ?_, HZS.out.2.2.2⟩
        rw [HZZ.out, if_pos rfl]
        exact HZS.out.2.2.1
      clear HZZ
      go_wp2_with fail
      go_meet
      case rel => exact HQ.out
  case rest =>
    clear HZS HN Z
    have hcw := hcl wc hcut.out.2.2.2
    have HCT : Hid (wc.heap[b3]? = some (atB ⟨xo, xp, xc, t⟩) ∧ wc.heap[b7]? = some (.cells #[.int .u32 A, .int .i64 B] 28 (0, 0)) ∧ wc.heap[b8]? = some (atB wz) ∧ Below w.heap.size w wc) := hcut.out
    clear hcut hcl
    go_wp2_with fail
    refine hcw.mono ?_
    rintro e X ⟨cv, rfl, ho, q2⟩
    have hs0 := cls_of_own (by have := clausesS_len rs; omega) ho
    obtain ⟨cad, ccap, rfl, _, hel⟩ := hs0
    obtain ⟨cs, hcs⟩ : ∃ cs, cs = clausesS rs := ⟨_, rfl⟩
    rw [← hcs] at hel ⊢
    have HEL : Hid (∀ i c, cs[i]? = some c → ∃ b off, cad = some ⟨b, off, none⟩ ∧ b < X.heap.size ∧ ClAt X b (off + i * 10) c) := hel
    have HCO : Hid (∀ c ∈ cs, c.ok) := by rw [hcs]; exact clausesS_ok HRS.out
    have hlen : cs.length ≤ 5 := by rw [hcs]; exact clausesS_len rs
    have HXB : Hid (X.heap[b3]? = some (atB ⟨xo, xp, xc, t⟩) ∧ X.heap[b7]? = some (.cells #[.int .u32 A, .int .i64 B] 28 (0, 0)) ∧ X.heap[b8]? = some (atB wz) ∧ Below w.heap.size w X) := ⟨pf_block q2 HCT.out.1, pf_block q2 HCT.out.2.1, pf_block q2 HCT.out.2.2.1, bel_up HCT.out.2.2.2 q2 HCT.out.2.2.2.size⟩
    clear hcw ho q2 hcs HCT hel HRS
    go_wp2_with fail
    obtain ⟨X0, X1, X2, X3⟩ := at_cells HXB.out.1
    obtain ⟨P0, P1⟩ := pf_cells HXB.out.2.1
    obtain ⟨nn, hnn⟩ : ∃ nn, nn = cs.length := ⟨_, rfl⟩
    have HNN : Hid (nn = cs.length) := hnn
    rw [← hnn] at hlen ⊢
    clear hnn
    go_loopg [9, 25] nn (fun g v i wr => ∃ (k : Nat) (L : List ClD) (v5 : Value), k + g = nn ∧ i = .int .i64 k ∧ v5 = v ∧ Hid ((∀ c ∈ L, matP c A B t = false) ∧ (∀ c ∈ L, c.ok) ∧ L.length ≤ k ∧ wr.ownsRow X.heap.size 35 10 v5 L.length (L.flatMap clW) ∧ Below X.heap.size X wr))
    case atStart => exact ⟨0, [], _, Nat.zero_add _, rfl, rfl, (⟨fun c hc => by simp at hc, fun c hc => by simp at hc, Nat.le_refl _, World.ownsRow_nil _ _ _ _, Below.refl _ _⟩ : _ ∧ _ ∧ _ ∧ _ ∧ _)⟩
    case round =>
      obtain ⟨k, L, v5, hk, rfl, rfl, HW⟩ := hrel
      obtain ⟨m, hm⟩ : ∃ m, m = L.length := ⟨_, rfl⟩
      have HM : Hid (m = L.length) := hm
      by_cases hlt : k < nn
      · obtain ⟨c, hc⟩ : ∃ c, cs[k]? = some c := ⟨cs[k]'(by have := HNN.out; omega), List.getElem?_eq_getElem _⟩
        obtain ⟨bc, off, rfl, hb, hat⟩ := HEL.out k c hc
        have HCK : Hid c.ok := HCO.out c (List.mem_of_getElem? hc)
        obtain ⟨c0, c1, c2, c3, c4, c5, c6, c7, c8, c9⟩ := hat.keep hb (cells_below HW.out.2.2.2.2 (Nat.le_refl _))
        have d4 : decide ((k : Int) < nn) = true := decide_eq_true (by omega)
        have hma := matches_any c HCK.out A B HA2.out t htn
        obtain ⟨y, hy⟩ : ∃ y, y = matP c A B t := ⟨_, rfl⟩
        have HY : Hid (y = matP c A B t) := hy
        rw [← hy] at hma
        obtain ⟨V, hV⟩ : ∃ V, V = wr.alloc (clB c) := ⟨_, rfl⟩
        have hwV : Below wr.heap.size wr V := by rw [hV]; exact bel_alloc (Below.refl _ _) _
        have htV : V.heap[wr.heap.size]? = some (clB c) := by rw [hV]; exact pf_new _ _ _ rfl
        obtain ⟨q, rfl⟩ : ∃ q : BelOf X, V = q.w := ⟨⟨V, bel_up HW.out.2.2.2.2 hwV HW.out.2.2.2.2.size⟩, rfl⟩
        have p0 := P0 q
        have p1 := P1 q
        have x3 := X3 q
        rw [hV] at p0 p1 x3
        unfold clB at hV p0 p1 x3
        unfold clV pfV at hma
        clear hc hat hb hy
        go_wp2_with fail
        rw [← hV]
        refine (hma _).mono ?_
        rintro e W ⟨rfl, q1⟩
        have htW := pf_block q1 htV
        have hwW := bel_up hwV q1 hwV.size
        obtain ⟨bt, hbt⟩ : ∃ bt, bt = wr.heap.size := ⟨_, rfl⟩
        rw [← hbt] at htW ⊢
        have hUW := bel_up q.h q1 q.h.size
        clear hV p0 p1 x3 c0 c1 c2 c3 c4 c5 c6 c7 c8 c9 hma htV q1 hbt
        have hoW := own_bel HW.out.2.2.2.1 hwW
        cases y
        · obtain ⟨g0, g1, g2, g3, g4, g5, g6, g7, g8, g9⟩ := cl_cell htW
          have HOW : Hid (W.ownsRow X.heap.size 35 10 v5 m (L.flatMap clW) ∧ Below X.heap.size X W) := ⟨by rw [hm]; exact hoW, hUW⟩
          have hbs : X.heap.size ≤ W.heap.size := hUW.size
          have hml : m ≤ k := by rw [hm]; exact HW.out.2.2.1
          clear htW hwW hUW hoW hm hwV
          go_wp2_with (at_builtin; refine wpList_append_lies _ rfl _ _ _ rfl X.heap.size 35 i0 _ 10 48 Try.underlying25 hi0 hz0 hz1 hz2 rfl (by omega) _ m _ rfl (HOW.out.1.alloc _) ⟨W.heap.size, 0, none⟩ 1 1 (clW c) rfl rfl (World.news_of_block (cs := #[.bool c.any, .int .u32 c.a, .int .i64 c.b, .int .u8 c.wi, .int .u8 c.ou, .bool c.drop, .int .u8 c.se, .int .u8 c.cl, .int .i64 c.more, .int .i64 c.pref]) (t := 35) (fr := (0, 0)) (pf_new _ _ _ rfl)) (clW_one _) (by omega) (by unfold maxLen; omega) (by omega) (by simp; omega) _ rfl ?_; intro h1 cap1 W1 hown1 hgrow _ _)
          have HO2 : Hid ((∀ d ∈ L ++ [c], matP d A B t = false) ∧ (∀ d ∈ L ++ [c], d.ok) ∧ (L ++ [c]).length ≤ k + 1 ∧ W1.ownsRow X.heap.size 35 10 (.slice (some ⟨h1, 0, none⟩) (m + 1) cap1) (L ++ [c]).length ((L ++ [c]).flatMap clW) ∧ Below X.heap.size X W1) := by
            refine ⟨fun d hd => ?_, fun d hd => ?_, ?_, ?_, own_up (HOW.out.1.alloc _) hgrow (bel_up HOW.out.2 (bel_alloc (Below.refl _ _) _) HOW.out.2.size)⟩
            · rcases List.mem_append.1 hd with hd | hd
              · exact HW.out.1 d hd
              · obtain rfl := List.mem_singleton.1 hd
                exact HY.out.symm
            · rcases List.mem_append.1 hd with hd | hd
              · exact HW.out.2.1 d hd
              · obtain rfl := List.mem_singleton.1 hd
                exact HCK.out
            · rw [List.length_append]
              exact Nat.succ_le_succ HW.out.2.2.1
            · rw [List.flatMap_append, List.length_append, ← HM.out, show [c].flatMap clW = clW c by simp]
              exact hown1
          clear hown1 hgrow HOW
          go_roundg (nn - (k + 1))
          case measure => omega
          case rel => exact ⟨k + 1, _, _, by omega, by go_num, rfl, HO2⟩
        · have HO2 : Hid ((∀ d ∈ L, matP d A B t = false) ∧ (∀ d ∈ L, d.ok) ∧ L.length ≤ k + 1 ∧ W.ownsRow X.heap.size 35 10 v5 L.length (L.flatMap clW) ∧ Below X.heap.size X W) :=
            ⟨HW.out.1, HW.out.2.1, Nat.le_succ_of_le HW.out.2.2.1, hoW, hUW⟩
          clear htW hwW hUW hoW hm
          go_wp2_with fail
          go_roundg (nn - (k + 1))
          case measure => omega
          case rel => exact ⟨k + 1, L, _, by omega, by go_num, rfl, HO2⟩
      · obtain rfl : k = nn := by omega
        have d4 : decide ((k : Int) < k) = false := decide_eq_false (by omega)
        have hml : m ≤ k := by rw [hm]; exact HW.out.2.2.1
        have ho5 := HW.out.2.2.2.1
        rw [← HM.out] at ho5
        obtain ⟨ad5, cap5, rfl, hnews⟩ := own_form ho5
        have HFL : Hid ((L.flatMap clW).length = m * 10) := ho5.1
        have HNW : Hid (∀ j u, (L.flatMap clW)[j]? = some u → ∃ b off, ad5 = some ⟨b, off, none⟩ ∧ wr.cell? ⟨b, off + j, none⟩ = some u) := hnews
        have HO5 : Hid (wr.ownsRow X.heap.size 35 10 (.slice ad5 m cap5) m (L.flatMap clW)) := ho5
        clear ho5 hm hnews
        go_wp2_with (first
          | (at_builtin
             refine wpList_append_sl rfl _ _ _ rfl wr.heap.size 35 i0 _ 10 48 Try.underlying25 hi0 hz0 hz1 hz2 rfl (by omega) (.slice none 0 0) 0 [] rfl (World.ownsRow_nil _ _ _ _) ad5 m cap5 (L.flatMap clW) rfl HFL.out HNW.out (clsW_one L) (by unfold maxLen; omega) (by omega) (Nat.le_refl _) ?_
             intro v1 W1 hown1 hgrow1 _
             rw [Nat.zero_add, List.nil_append] at hown1
             have q1 := own_up (World.ownsRow_nil wr wr.heap.size 35 10) hgrow1 (Below.refl _ _))
          | (at_builtin
             refine wpList_append_lies _ rfl _ _ _ rfl wr.heap.size 35 i0 _ 10 48 Try.underlying25 hi0 hz0 hz1 hz2 rfl (by omega) v1 m _ rfl (hown1.alloc _) ⟨W1.heap.size, 0, none⟩ 1 1 (clW dropC) rfl rfl (World.news_of_block (cs := #[.bool true, .int .u32 0, .int .i64 0, .int .u8 0, .int .u8 0, .bool true, .int .u8 0, .int .u8 0, .int .i64 0, .int .i64 0]) (t := 35) (fr := (0, 0)) (pf_new _ _ _ rfl)) (clW_one _) (by omega) (by unfold maxLen; omega) (by omega) (by have := q1.size; simp; omega) _ rfl ?_
             intro h1 cap1 W2 hown2 hgrow2 _ _
             have q2 := own_up (hown1.alloc _) hgrow2 (bel_up q1 (bel_alloc (Below.refl _ _) _) q1.size)))
        have hXW := HW.out.2.2.2.2
        have hX2 : Below X.heap.size X W2 := bel_up hXW q2 hXW.size
        have HWX : Hid (Below w.heap.size w W2) := bel_up HXB.out.2.2.2 hX2 HXB.out.2.2.2.size
        have hs3 : SliceAt W2.heap.size 10 (ClAt W2) (.slice (some ⟨h1, 0, none⟩) (m + 1) cap1) (L ++ [dropC]) := by
          have e : (L ++ [dropC]).length = m + 1 := by rw [List.length_append, ← HM.out]; rfl
          refine cls_of_own (B := wr.heap.size) (by rw [e]; omega) ?_
          rw [e, List.flatMap_append, show [dropC].flatMap clW = clW dropC by simp]
          exact hown2
        have hs2 : SliceAt W2.heap.size 10 (ClAt W2) (.slice ad5 m cap5) L := by
          refine cls_keep (cls_of_own (B := X.heap.size) (by rw [← HM.out]; omega) ?_) q2
          rw [← HM.out]
          exact HO5.out
        have hz : (if (At.ok ⟨xo, xp, xc, t⟩) = true then (⟨xo, xp, xc, t⟩ : At) else At.zero) = wz := HZZ.out.symm
        have e2 := doP_none (a := A) (b := B) (x := ⟨xo, xp, xc, t⟩) (l := L) HW.out.1
        have e1 := doP_none (a := A) (b := B) (x := ⟨xo, xp, xc, t⟩) (l := []) fun c hc => by simp at hc
        have e3 := doP_dropped (a := A) (b := B) (x := ⟨xo, xp, xc, t⟩) (l := L) HW.out.1
        rw [hz] at e1 e2
        have hd3 : ∀ c ∈ L ++ [dropC], c.ok := fun c hc => by
          rcases List.mem_append.1 hc with hc | hc
          · exact HW.out.2.1 c hc
          · obtain rfl := List.mem_singleton.1 hc
            exact dropC_ok
        have D1 := fun p : BelOf W2 => do_any (l := []) (fun c hc => by simp at hc) A B HA2.out ⟨xo, xp, xc, t⟩ HT.out p.w (slice_nil _ _ _)
        have D2 := fun p : BelOf W2 => do_any HW.out.2.1 A B HA2.out ⟨xo, xp, xc, t⟩ HT.out p.w (cls_keep hs2 p.h)
        have D3 := fun p : BelOf W2 => do_any hd3 A B HA2.out ⟨xo, xp, xc, t⟩ HT.out p.w (cls_keep hs3 p.h)
        rw [e1] at D1
        rw [e2] at D2
        rw [e3] at D3
        unfold atV pfV at D1 D2 D3
        unfold At.zero at D3
        dsimp only at D1 D2 D3
        obtain ⟨z0, z1, z2, z3⟩ := at_cells (pf_block hX2 HXB.out.2.2.1)
        replace X0 := fun p : BelOf W2 => X0 ⟨p.w, bel_up hX2 p.h hX2.size⟩
        replace X1 := fun p : BelOf W2 => X1 ⟨p.w, bel_up hX2 p.h hX2.size⟩
        replace X2 := fun p : BelOf W2 => X2 ⟨p.w, bel_up hX2 p.h hX2.size⟩
        replace X3 := fun p : BelOf W2 => X3 ⟨p.w, bel_up hX2 p.h hX2.size⟩
        replace P0 := fun p : BelOf W2 => P0 ⟨p.w, bel_up hX2 p.h hX2.size⟩
        replace P1 := fun p : BelOf W2 => P1 ⟨p.w, bel_up hX2 p.h hX2.size⟩
        dsimp only at X0 X1 X2 X3 P0 P1
        clear hown1 hgrow1 hown2 hgrow2 q1 q2 hXW hX2 hs3 hs2 hz e1 e2 e3 hd3 HZZ
        have hne := bel_ne W2
        refine wp_region_bel (by kernel_rfl) (by kernel_rfl) ?_
        repeat (go_big_quiet_step (first
          | (go_at_call_of 12 cap1; exact bel_of (D3 _))
          | (go_at_call_of 12 cap5; exact bel_of (D2 _))
          | (go_at_call 12; exact bel_of (D1 _))))
        refine wpQuiet_nil ?_
        rintro V ⟨⟨V', hV⟩, rfl⟩
        go_wp2_with fail
        go_ret
        exact ⟨rfl, bel_up HWX.out hV HWX.out.size⟩
end Go.Proofs.Ythhonljejkjicaa
