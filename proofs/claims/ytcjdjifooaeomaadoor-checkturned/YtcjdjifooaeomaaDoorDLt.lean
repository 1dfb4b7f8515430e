/- What the law's own Turn does. -/
import Derived.Test.YtcjdjifooaeomaaDoorDKt
import Derived.Test.YtcjdjifooaeomaaDoorVZt
import Derived.Test.YtcjdjifooaeomaaDoorDNt
namespace Go.Proofs.YtcjdjifooaeomaaDoor
open Go.RowKit Go.Lib

theorem infoMpD : (Tryd.prog.info? 57).map (fun i => (i.zero, i.size, i.bytes)) = some (some (.agg #[.string ⟨#[]⟩, .slice none 0 0, .int .i64 0]), 3, 48) := infoMp
/-- A row that is made of what lies. -/
theorem nil_own (w : World) (B e z : Nat) : w.ownsRow B e z (.slice none 0 0) 0 [] := World.ownsRow_nil _ _ _ _
/-- Routers that are made so far. -/
structure TL (w : World) (b3 b6 b7 : Nat) (cmv crv mv rv : Value) (lm : List MpV) (c : CfD) (k : Nat) (lr : List RoV) (W : World) : Prop where
  t : TS w b3 b6 b7 cmv crv mv rv lm lr W
  l : lr.map (·.1) = (placeR 0 c.ros).take k
theorem TL.len {w : World} {b3 b6 b7 : Nat} {cmv crv mv rv : Value} {lm : List MpV} {c : CfD} {k : Nat} {lr : List RoV} {W : World} (h : TL w b3 b6 b7 cmv crv mv rv lm c k lr W) (hk : k ≤ c.ros.length) : lr.length = k := by
  have := congrArg List.length h.l
  rw [List.length_map, List.length_take, placeR_len] at this
  omega
theorem own_news {W : World} {B e z n n' cap : Nat} {ad : Option Addr} {xs : List Value} (h : W.ownsRow B e z (.slice ad n' cap) n xs) : ∀ j u, xs[j]? = some u → ∃ b off, ad = some ⟨b, off, none⟩ ∧ W.cell? ⟨b, off + j, none⟩ = some u := by
  intro j u hu
  obtain ⟨ad', cap', e1⟩ := own_form h
  injection e1 with e1 e2 e3
  rcases h.2 with ⟨h0, h1⟩ | ⟨g, cap', cur, h1, _⟩
  · have h2 := h.1
    rw [h1, Nat.zero_mul] at h2
    rw [List.eq_nil_of_length_eq_zero h2] at hu
    simp at hu
  · injection h1 with h1 h2 _
    subst h1
    subst e2
    exact ⟨g, 0, rfl, by rw [Nat.zero_add]; exact own_cell h hu⟩
theorem ne_of {a b : Option Nat} (h : ∀ g, b = some g → a ≠ some g) : a = none ∨ a ≠ b := by
  cases a with
  | none => exact .inl rfl
  | some g => exact .inr fun e => h g e.symm rfl
theorem Rows3.bel {W W' : World} {B : Nat} {p : RoV} (h : Rows3 W B p) (q : Below W.heap.size W W') : Rows3 W' B p := ⟨own_bel h.1 q, own_bel h.2.1 q, own_bel h.2.2 q⟩
theorem cell_of {w : World} {b t j : Nat} {cs : List Value} {u : Value} (h : w.heap[b]? = some (.cells cs.toArray t (0, 0))) (hu : cs[j]? = some u) : w.cell? ⟨b, j, none⟩ = some u := by
  simp [World.cell?, h, hu]
set_option maxHeartbeats 64000000 in
set_option maxRecDepth 20000 in
theorem turn_any {c : CfD} {N : Nat} (hN : N ≤ 100000) (hle : c.le N) {v : Value} {w : World} (hv : CfC w w.heap.size v c) (how which : Nat) (hh : how < 256) (hw : which < 256) :
    Calls Tryd.prog 11 #[v, .int .u8 how, .int .u8 which] w fun e w' => ∃ v', e = .returned v' ∧ CfC w' w'.heap.size v' (spoilC c how which) ∧ Below w.heap.size w w' := by
  obtain ⟨mv, rv, rfl, hmS, ⟨ar, cr, rfl, hr0, hrs⟩, k1, k2⟩ := hv
  obtain ⟨lm, hlm, hlc, hml⟩ := maps_of hmS
  have hml0 := hml
  obtain ⟨am, cm, rfl, hm0, _⟩ := hml
  have HML : Hid (SliceAt w.heap.size 3 (RowAt w mpL) (.slice am lm.length cm) lm) := hml0
  obtain ⟨n, hn⟩ : ∃ n, n = lm.length := ⟨_, rfl⟩
  obtain ⟨n2, hn2⟩ : ∃ n, n = c.ros.length := ⟨_, rfl⟩
  have HLM : Hid (lm.map (·.1) = c.maps ∧ ∀ p ∈ lm, SliceAt w.heap.size 10 (ClAt w) p.2 p.1.cls) := ⟨hlm, hlc⟩
  have HRS : Hid (∀ i x, c.ros[i]? = some x → ∃ b off, ar = some ⟨b, off, none⟩ ∧ b < w.heap.size ∧ RoC w w.heap.size b (off + i * 5) x) := hrs
  have HLE : Hid (c.le N ∧ N ≤ 100000) := ⟨hle, hN⟩
  have HN : Hid (n = lm.length ∧ n2 = c.ros.length) := ⟨hn, hn2⟩
  have hn100 : n ≤ 100000 := by
    have := hle.m
    rw [← hlm, List.length_map] at this
    omega
  have hn2100 : n2 ≤ 100000 := by have := hle.r; omega
  rw [← hn] at hm0 HML ⊢
  rw [← hn2] at hr0 ⊢
  have how0 : (0 : Int) ≤ how := by omega
  have how1 : (how : Int) < 256 := by omega
  have wh0 : (0 : Int) ≤ which := by omega
  have wh1 : (which : Int) < 256 := by omega
  have HH : Hid (how < 256 ∧ which < 256) := ⟨hh, hw⟩
  have HONE : Hid (∀ u ∈ lm.flatMap mpL, u.oneCell' = true) := fun u hu => by
    obtain ⟨p, hp, hu⟩ := List.mem_flatMap.1 hu
    obtain ⟨a, k, e, _⟩ := hlc p hp
    exact mpL_one p (by rw [e]; rfl) u hu
  obtain ⟨i0, hi0, hz0, hz1, hz2⟩ := info_parts infoMp
  obtain ⟨k0, hk0, hl0, hl1, hl2⟩ := info_parts infoLk
  obtain ⟨s0, hs0, ht0, ht1, ht2⟩ := info_parts infoSt
  obtain ⟨p0, hp0, hq0, hq1, hq2⟩ := info_parts infoPf
  obtain ⟨r0, hro0, hv0, hv1, hv2⟩ := info_parts infoRo
  have HIK : Hid (Tryd.prog.info? 50 = some k0 ∧ k0.zero = some (.agg #[.string ⟨#[]⟩, .int .i64 0, .string ⟨#[]⟩, .string ⟨#[]⟩, .int .i64 0]) ∧ k0.size = 5 ∧ k0.bytes = 64) := ⟨hk0, hl0, hl1, hl2⟩
  have HIS : Hid (Tryd.prog.info? 77 = some s0 ∧ s0.zero = some (.agg #[.int .u32 0, .int .i64 0, .string ⟨#[]⟩, .int .i64 0]) ∧ s0.size = 4 ∧ s0.bytes = 40) := ⟨hs0, ht0, ht1, ht2⟩
  have HIP : Hid (Tryd.prog.info? 74 = some p0 ∧ p0.zero = some (.agg #[.int .u32 0, .int .i64 0]) ∧ p0.size = 2 ∧ p0.bytes = 16) := ⟨hp0, hq0, hq1, hq2⟩
  have HIR : Hid (Tryd.prog.info? 48 = some r0 ∧ r0.zero = some (.agg #[.string ⟨#[]⟩, .slice none 0 0, .slice none 0 0, .slice none 0 0, .int .i64 0]) ∧ r0.size = 5 ∧ r0.bytes = 96) := ⟨hro0, hv0, hv1, hv2⟩
  clear hmS hrs hlm hlc hml0 hn hn2 k1 k2 hle hN hh hw hk0 hl0 hl1 hl2 hs0 ht0 ht1 ht2 hp0 hq0 hq1 hq2 hro0 hv0 hv1 hv2
  go_enter Tryd.func11, Tryd.ntmps11
  go_upto_region 2 with fail
  obtain ⟨b3, hb3⟩ : ∃ b, b = w.heap.size := ⟨_, rfl⟩
  obtain ⟨b6, hb6⟩ : ∃ b, b = w.heap.size + 1 := ⟨_, rfl⟩
  obtain ⟨b7, hb7⟩ : ∃ b, b = w.heap.size + 1 + 1 := ⟨_, rfl⟩
  rw [← hb7, ← hb6, ← hb3]
  obtain ⟨U1, hU1⟩ : ∃ U, U = w.alloc (.cells #[.slice am n cm, .slice ar n2 cr] 33) := ⟨_, rfl⟩
  rw [← hU1]
  obtain ⟨U2, hU2⟩ : ∃ U, U = U1.alloc (.cells #[.slice none 0 0, .slice none 0 0] 33) := ⟨_, rfl⟩
  rw [← hU2]
  obtain ⟨U, hU⟩ : ∃ U, U = U2.alloc (.cells #[.slice none 0 0, .slice none 0 0] 33) := ⟨_, rfl⟩
  rw [← hU]
  obtain ⟨q1, r1, _⟩ := box_at w _ hU1 hb3
  obtain ⟨q2, r2, _⟩ := box_at U1 _ hU2 (b := b6) (by rw [hU1, hb6]; simp)
  obtain ⟨q3, r3, _⟩ := box_at U2 _ hU (b := b7) (by rw [hU2, hU1, hb7]; simp)
  have HS : Hid (TS w b3 b6 b7 (.slice am n cm) (.slice ar n2 cr) (.slice none 0 0) (.slice none 0 0) [] [] U) := by
    have h12 : w.heap.size ≤ U1.heap.size := q1.size
    exact ⟨r3, pf_block q3 (pf_block q2 r1), pf_block q3 r2, World.ownsRow_nil _ _ _ _, World.ownsRow_nil _ _ _ _, (fun p hp => by cases hp), List.Pairwise.nil, bel_up (bel_up q1 q2 h12) q3 (Nat.le_trans h12 q2.size), by omega⟩
  clear hU hU1 hU2 q1 q2 q3 r1 r2 r3 hb3 hb6 hb7
  obtain ⟨C0, C1⟩ := cells_two HS.out.x
  obtain ⟨D0, D1⟩ := cells_two HS.out.c
  have F0 := free_at HS.out.c 0
  have hnews := news_of (f := mpL) (z := 3) (fun _ => rfl) (HML.out.mono (B' := U.heap.size) (el' := RowAt U mpL) HS.out.b.size fun b o x hb h j u hu => cells_below HS.out.b (Nat.le_refl _) _ _ _ hb (h j u hu))
  have HNW : Hid (∀ j u, (lm.flatMap mpL)[j]? = some u → ∃ b off, am = some ⟨b, off, none⟩ ∧ U.cell? ⟨b, off + j, none⟩ = some u) := hnews
  clear hnews
  go_upto_region 3 with (at_builtin; refine wpList_append_sl rfl _ _ _ rfl w.heap.size 57 i0 _ 3 48 Tryd.underlying30 hi0 hz0 hz1 hz2 rfl (by omega) (.slice none 0 0) 0 [] rfl HS.out.m am n cm (lm.flatMap mpL) rfl (by rw [flat_length mpL 3 (fun _ => rfl), HN.out.1]) HNW.out HONE.out (by unfold maxLen; omega) (by omega) HS.out.b.size ?_; intro v1 W1 hown1 hgrow hat; rw [Nat.zero_add, List.nil_append] at hown1; obtain ⟨va, vc, rfl⟩ := own_form hown1; obtain ⟨D0, D1⟩ := cells_two (pf_block (grown_bel hgrow) HS.out.c); have F0 := free_at (pf_block (grown_bel hgrow) HS.out.c) 0)
  obtain ⟨W2, hW2⟩ : ∃ W, W = W1.setCell ⟨b7, 0, none⟩ (.slice va n vc) := ⟨_, rfl⟩
  rw [← hW2]
  have HS2 : Hid (TS w b3 b6 b7 (.slice am n cm) (.slice ar n2 cr) (.slice va n vc) (.slice none 0 0) lm [] W2) := by
    rw [hW2]
    refine HS.out.addMaps hgrow ?_
    rw [Nat.zero_add, List.nil_append, ← HN.out.1]
    exact hown1
  clear hW2 hown1 hgrow hat D0 D1 F0 C0 C1 HS HNW HONE HML hi0 hz0 hz1 hz2
  obtain ⟨C0, C1⟩ := cells_two HS2.out.x
  go_upto_region 4 with fail
  clear C0 C1
  have H0 : Hid (TL w b3 b6 b7 (.slice am n cm) (.slice ar n2 cr) (.slice va n vc) (.slice none 0 0) lm c 0 [] W2) := ⟨HS2.out, rfl⟩
  go_loopg [21] n2 (fun g i wr => ∃ (k : Nat) (rv : Value) (lr : List RoV), k + g = n2 ∧ i = .int .i64 k ∧ Hid (TL w b3 b6 b7 (.slice am n cm) (.slice ar n2 cr) (.slice va n vc) rv lm c k lr wr))
  case atStart => exact ⟨0, _, [], Nat.zero_add _, rfl, H0⟩
  case round =>
    obtain ⟨k, rv, lr, hk, rfl, HW⟩ := hrel
    by_cases hlt : k < n2
    · obtain ⟨x, hx⟩ : ∃ x, c.ros[k]? = some x := ⟨c.ros[k]'(by have := HN.out.2; omega), List.getElem?_eq_getElem _⟩
      obtain ⟨bx, ox, rfl, hbx, nv, lv, sv, N0, N1, N2, N3, N4, s1, s2, s3, k1, k2, k3⟩ := HRS.out k x hx
      obtain ⟨an, cn, rfl, z1, _⟩ := id s1
      obtain ⟨al, cl, rfl, z2, _⟩ := id s2
      obtain ⟨ast, cs, rfl, z3, _⟩ := id s3
      have HBW : Hid (Below w.heap.size w wr) := HW.out.t.b
      have M0 := cells_below HBW.out (Nat.le_refl _) _ _ _ hbx N0
      have M1 := cells_below HBW.out (Nat.le_refl _) _ _ _ hbx N1
      have M2 := cells_below HBW.out (Nat.le_refl _) _ _ _ hbx N2
      have M3 := cells_below HBW.out (Nat.le_refl _) _ _ _ hbx N3
      have M4 := cells_below HBW.out (Nat.le_refl _) _ _ _ hbx N4
      have hsz := HLE.out.1.n x (List.mem_of_getElem? hx)
      have hN := HLE.out.2
      obtain ⟨nn, hnn⟩ : ∃ n, n = x.nets.length := ⟨_, rfl⟩
      obtain ⟨nl, hnl⟩ : ∃ n, n = x.lks.length := ⟨_, rfl⟩
      obtain ⟨ns, hns⟩ : ∃ n, n = x.sts.length := ⟨_, rfl⟩
      rw [← hnn, ← hnl, ← hns] at hsz
      rw [← hnn] at M1 s1
      rw [← hnl] at M2 s2
      rw [← hns] at M3 s3
      have nn100 : nn ≤ 100000 := by omega
      have nl100 : nl ≤ 100000 := by omega
      have ns100 : ns ≤ 100000 := by omega
      have HSL : Hid (SliceAt w.heap.size 2 (PfAt w) (.slice an nn cn) x.nets ∧ SliceAt w.heap.size 5 (LkAt w) (.slice al nl cl) x.lks ∧ SliceAt w.heap.size 4 (StAt w) (.slice ast ns cs) x.sts ∧ nn = x.nets.length ∧ nl = x.lks.length ∧ ns = x.sts.length) := ⟨s1, s2, s3, hnn, hnl, hns⟩
      obtain ⟨nm, hnm⟩ : ∃ p : ByteArray, p = ⟨x.name.toArray⟩ := ⟨_, rfl⟩
      rw [← hnm] at M0
      have HNM : Hid (nm = ⟨x.name.toArray⟩) := hnm
      have HX : Hid (c.ros[k]? = some x) := hx
      have d4 : decide ((k : Int) < n2) = true := decide_eq_true (by omega)
      have c0 : (0 : Int) ≤ k := by omega
      have c1 : (k : Int) ≤ 100000 := by omega
      clear hx s1 s2 s3 k1 k2 k3 z1 z2 z3 N0 N1 N2 N3 N4 hbx hnm hnn hnl hns hsz
      go_upto_region 6 with fail
      obtain ⟨b9, hb9⟩ : ∃ b, b = wr.heap.size := ⟨_, rfl⟩
      rw [← hb9]
      obtain ⟨X, hX⟩ : ∃ X, X = wr.alloc (.cells #[.string nm, .slice an nn cn, .slice al nl cl, .slice ast ns cs, .int .i64 x.pl] 48) := ⟨_, rfl⟩
      rw [← hX]
      obtain ⟨qX, rX, _⟩ := box_at wr _ hX hb9
      have HQ0 : Hid (QS wr b9 nm (.slice an nn cn) (.slice al nl cl) (.slice ast ns cs) x.pl X) := ⟨rX, qX, by omega⟩
      obtain ⟨Y0, Y1, Y2, Y3, Y4⟩ := cells_five rX
      have F4 := free_at rX 4
      clear hX hb9 qX rX M0 M1 M2 M3 M4
      go_upto_region 7 with fail
      clear Y0 Y1 Y2 Y3 Y4 F4
      have epl : ((100 : Int) + (k : Int)) = ((100 + k : Nat) : Int) := by omega
      rw [epl]
      obtain ⟨X1, hX1⟩ : ∃ X1, X1 = X.setCell ⟨b9, 4, none⟩ (.int .i64 ((100 + k : Nat) : Int)) := ⟨_, rfl⟩
      rw [← hX1]
      have HQ1 : Hid (QS wr b9 nm (.slice an nn cn) (.slice al nl cl) (.slice ast ns cs) ((100 + k : Nat) : Int) X1) := by rw [hX1]; exact HQ0.out.setP
      clear hX1 HQ0
      obtain ⟨PL, hPL⟩ : ∃ p : Int, p = ((100 + k : Nat) : Int) := ⟨_, rfl⟩
      rw [← hPL] at HQ1
      have HPL : Hid (PL = ((100 + k : Nat) : Int)) := hPL
      clear hPL epl
      obtain ⟨Y0, Y1, Y2, Y3, Y4⟩ := cells_five HQ1.out.c
      have F2 := free_at HQ1.out.c 2
      have HBX : Hid (Below w.heap.size w X1) := bel_up HBW.out HQ1.out.b HBW.out.size
      have HNW : Hid (∀ j u, (x.lks.flatMap lkL)[j]? = some u → ∃ b off, al = some ⟨b, off, none⟩ ∧ X1.cell? ⟨b, off + j, none⟩ = some u) := news_of (f := lkL) (z := 5) (fun _ => rfl) (HSL.out.2.1.mono (B' := X1.heap.size) (el' := RowAt X1 lkL) HBX.out.size fun b o x hb h => lk_row (h.keep hb (cells_below HBX.out (Nat.le_refl _))))
      have hB1 : wr.heap.size ≤ X1.heap.size := HQ1.out.b.size
      have hBw : w.heap.size ≤ wr.heap.size := HBW.out.size
      obtain ⟨hk0, hl0, hl1, hl2⟩ := HIK.out
      go_upto_region 8 with (at_builtin; refine wpList_append_sl rfl _ _ _ rfl wr.heap.size 50 k0 _ 5 64 Tryd.underlying45 hk0 hl0 hl1 hl2 rfl (by omega) (.slice none 0 0) 0 [] rfl (nil_own _ _ _ _) al nl cl (x.lks.flatMap lkL) rfl (by rw [flat_length lkL 5 (fun _ => rfl), HSL.out.2.2.2.2.1]) HNW.out (flat_mem lkL_one _) (by unfold maxLen; omega) (by omega) hB1 ?_; intro v1 W3 hown1 hgrow hat; rw [Nat.zero_add, List.nil_append] at hown1; obtain ⟨la, lc, rfl⟩ := own_form hown1; obtain ⟨Y0, Y1, Y2, Y3, Y4⟩ := cells_five (pf_block (grown_bel hgrow) HQ1.out.c); have F2 := free_at (pf_block (grown_bel hgrow) HQ1.out.c) 2)
      obtain ⟨X2, hX2⟩ : ∃ W, W = W3.setCell ⟨b9, 2, none⟩ (.slice la nl lc) := ⟨_, rfl⟩
      rw [← hX2]
      have HQ2 : Hid (QS wr b9 nm (.slice an nn cn) (.slice la nl lc) (.slice ast ns cs) PL X2 ∧ X2.ownsRow wr.heap.size 50 5 (.slice la nl lc) nl (x.lks.flatMap lkL)) := by
        rw [hX2]
        exact ⟨(HQ1.out.below (grown_bel hgrow)).setL, own_put hown1 (Below.refl _ _) (pf_block (grown_bel hgrow) HQ1.out.c) (by decide)⟩
      clear hX2 hown1 hgrow hat Y0 Y1 Y2 Y3 Y4 F2 HNW hk0 hl0 hl1 hl2 hB1
      obtain ⟨Y0, Y1, Y2, Y3, Y4⟩ := cells_five HQ2.out.1.c
      go_upto_region 9 with fail
      clear Y0 Y1 Y2 Y3 Y4
      have HI2 : Hid (QS wr b9 nm (.slice an nn cn) (.slice la nl lc) (.slice ast ns cs) PL X2 ∧ X2.ownsRow wr.heap.size 50 5 (.slice la nl lc) nl ((mixL k 0 x.lks).flatMap lkL)) := by
        rw [mixL_zero]
        exact HQ2.out
      obtain ⟨V, hV⟩ : ∃ V, V = wr := ⟨_, rfl⟩
      rw [← hV] at HI2 HW HBW HQ1 hBw
      clear hV HQ2 HQ1
      go_loopg [36] nl (fun g i wy => ∃ j : Nat, j + g = nl ∧ i = .int .i64 j ∧ Hid (QS V b9 nm (.slice an nn cn) (.slice la nl lc) (.slice ast ns cs) PL wy ∧ wy.ownsRow V.heap.size 50 5 (.slice la nl lc) nl ((mixL k j x.lks).flatMap lkL)))
      case atStart => exact ⟨0, Nat.zero_add _, rfl, HI2⟩
      case round =>
        obtain ⟨j, hj, rfl, HJ⟩ := hrel
        by_cases hjl : j < nl
        · obtain ⟨g, rfl⟩ : ∃ g, la = some ⟨g, 0, none⟩ := by
            rcases HJ.out.2.2 with ⟨h0, h1⟩ | ⟨g, cap, cur, h1, _⟩
            · omega
            · injection h1 with h1
              exact ⟨g, h1⟩
          have hcell : wr.cell? ⟨g, j * 5 + 4, none⟩ = ((mixL k j x.lks).flatMap lkL)[j * 5 + 4]? := HJ.out.2.cellAt (j * 5 + 4) (by omega)
          obtain ⟨old, hold⟩ : ∃ u, ((mixL k j x.lks).flatMap lkL)[j * 5 + 4]? = some u := ⟨((mixL k j x.lks).flatMap lkL)[j * 5 + 4]'(by rw [flatL_len, mixL_len, ← HSL.out.2.2.2.2.1]; omega), List.getElem?_eq_getElem _⟩
          rw [hold] at hcell
          have hfree : wr.frozen? ⟨g, j * 5 + 4, none⟩ = false := by
            rcases HJ.out.2.2 with ⟨h0, h1⟩ | ⟨g', cap, cur, h1, _, h3, _⟩
            · omega
            · injection h1 with h1
              injection h1 with h1
              injection h1 with h1
              subst h1
              exact free_at h3 _
          have d7 : decide ((j : Int) < nl) = true := decide_eq_true (by omega)
          have c7 : (0 : Int) ≤ j := by omega
          have c8 : (j : Int) ≤ 100000 := by omega
          obtain ⟨Y0, Y1, Y2, Y3, Y4⟩ := cells_five HJ.out.1.c
          clear hold
          go_upto_region 12 with fail
          have epl : ((200 : Int) + 10 * (k : Int) + (j : Int)) = ((200 + 10 * k + j : Nat) : Int) := by omega
          rw [epl]
          obtain ⟨Z, hZ⟩ : ∃ Z, Z = wr.setCell ⟨g, j * 5 + 4, none⟩ (.int .i64 ((200 + 10 * k + j : Nat) : Int)) := ⟨_, rfl⟩
          rw [← hZ]
          have HZ : Hid (QS V b9 nm (.slice an nn cn) (.slice (some ⟨g, 0, none⟩) nl lc) (.slice ast ns cs) PL Z ∧ Z.ownsRow V.heap.size 50 5 (.slice (some ⟨g, 0, none⟩) nl lc) nl ((mixL k (j + 1) x.lks).flatMap lkL)) := by
            rw [hZ]
            refine ⟨HJ.out.1.row HJ.out.2 (by decide), ?_⟩
            obtain ⟨h, _⟩ := HJ.out.2.stored (j * 5 + 4) (.int .i64 ((200 + 10 * k + j : Nat) : Int))
            rw [mixL_set k (by rw [← HSL.out.2.2.2.2.1]; exact hjl)] at h
            exact h
          clear hZ Y0 Y1 Y2 Y3 Y4 hcell hfree epl
          go_wp2_with fail
          go_roundg (nl - (j + 1))
          case measure => omega
          case rel => exact ⟨j + 1, by omega, by go_num, HZ⟩
        · obtain rfl : j = nl := by omega
          have d7 : decide ((j : Int) < j) = false := decide_eq_false (by omega)
          have HQ3 : Hid (QS V b9 nm (.slice an nn cn) (.slice la j lc) (.slice ast ns cs) PL wr ∧ wr.ownsRow V.heap.size 50 5 (.slice la j lc) j ((placeL k 0 x.lks).flatMap lkL)) := by
            refine ⟨HJ.out.1, ?_⟩
            have h := HJ.out.2
            rw [HSL.out.2.2.2.2.1, mixL_all, ← HSL.out.2.2.2.2.1] at h
            exact h
          obtain ⟨X3, hX3⟩ : ∃ V, V = wr := ⟨_, rfl⟩
          rw [← hX3] at HQ3
          rw [← hX3]
          clear hX3 HJ HI2
          have HBX : Hid (Below w.heap.size w X3) := bel_up HBW.out HQ3.out.1.b HBW.out.size
          have HNW : Hid (∀ j u, (x.sts.flatMap stL)[j]? = some u → ∃ b off, ast = some ⟨b, off, none⟩ ∧ X3.cell? ⟨b, off + j, none⟩ = some u) := news_of (f := stL) (z := 4) (fun _ => rfl) (HSL.out.2.2.1.mono (B' := X3.heap.size) (el' := RowAt X3 stL) HBX.out.size fun b o x hb h => st_row (h.keep hb (cells_below HBX.out (Nat.le_refl _))))
          have hB1 : V.heap.size ≤ X3.heap.size := HQ3.out.1.b.size
          obtain ⟨hs0, ht0, ht1, ht2⟩ := HIS.out
          obtain ⟨Y0, Y1, Y2, Y3, Y4⟩ := cells_five HQ3.out.1.c
          go_upto_region 14 with (at_builtin; refine wpList_append_sl rfl _ _ _ rfl V.heap.size 77 s0 _ 4 40 Tryd.underlying46 hs0 ht0 ht1 ht2 rfl (by omega) (.slice none 0 0) 0 [] rfl (nil_own _ _ _ _) ast ns cs (x.sts.flatMap stL) rfl (by rw [flat_length stL 4 (fun _ => rfl), HSL.out.2.2.2.2.2]) HNW.out (flat_mem stL_one _) (by unfold maxLen; omega) (by omega) hB1 ?_; intro v1 W3 hown1 hgrow hat; rw [Nat.zero_add, List.nil_append] at hown1; obtain ⟨sa, sc, rfl⟩ := own_form hown1; obtain ⟨Y0, Y1, Y2, Y3, Y4⟩ := cells_five (pf_block (grown_bel hgrow) HQ3.out.1.c); have F3 := free_at (pf_block (grown_bel hgrow) HQ3.out.1.c) 3)
          obtain ⟨X4, hX4⟩ : ∃ W, W = W3.setCell ⟨b9, 3, none⟩ (.slice sa ns sc) := ⟨_, rfl⟩
          rw [← hX4]
          have HQ4 : Hid (QS V b9 nm (.slice an nn cn) (.slice la j lc) (.slice sa ns sc) PL X4 ∧ X4.ownsRow V.heap.size 50 5 (.slice la j lc) j ((placeL k 0 x.lks).flatMap lkL) ∧ X4.ownsRow V.heap.size 77 4 (.slice sa ns sc) ns (x.sts.flatMap stL)) := by
            rw [hX4]
            exact ⟨(HQ3.out.1.below (grown_bel hgrow)).setS, own_put HQ3.out.2 (grown_bel hgrow) HQ3.out.1.c (by decide), own_put hown1 (Below.refl _ _) (pf_block (grown_bel hgrow) HQ3.out.1.c) (by decide)⟩
          clear hX4 hown1 hgrow hat Y0 Y1 Y2 Y3 Y4 F3 HNW hs0 ht0 ht1 ht2 hB1 HQ3 HBX
          have HBX : Hid (Below w.heap.size w X4) := bel_up HBW.out HQ4.out.1.b HBW.out.size
          have HNW : Hid (∀ j u, (x.nets.flatMap pfL)[j]? = some u → ∃ b off, an = some ⟨b, off, none⟩ ∧ X4.cell? ⟨b, off + j, none⟩ = some u) := news_of (f := pfL) (z := 2) (fun _ => rfl) (HSL.out.1.mono (B' := X4.heap.size) (el' := RowAt X4 pfL) HBX.out.size fun b o x hb h => pf_row (h.keep hb (cells_below HBX.out (Nat.le_refl _))))
          have hB1 : V.heap.size ≤ X4.heap.size := HQ4.out.1.b.size
          obtain ⟨hp0, hq0, hq1, hq2⟩ := HIP.out
          obtain ⟨Y0, Y1, Y2, Y3, Y4⟩ := cells_five HQ4.out.1.c
          go_upto_region 15 with (at_builtin; refine wpList_append_sl rfl _ _ _ rfl V.heap.size 74 p0 _ 2 16 Tryd.underlying44 hp0 hq0 hq1 hq2 rfl (by omega) (.slice none 0 0) 0 [] rfl (nil_own _ _ _ _) an nn cn (x.nets.flatMap pfL) rfl (by rw [flat_length pfL 2 (fun _ => rfl), HSL.out.2.2.2.1]) HNW.out (flat_mem pfL_one _) (by unfold maxLen; omega) (by omega) hB1 ?_; intro v1 W3 hown1 hgrow hat; rw [Nat.zero_add, List.nil_append] at hown1; obtain ⟨na, nc, rfl⟩ := own_form hown1; obtain ⟨Y0, Y1, Y2, Y3, Y4⟩ := cells_five (pf_block (grown_bel hgrow) HQ4.out.1.c); have F1 := free_at (pf_block (grown_bel hgrow) HQ4.out.1.c) 1)
          obtain ⟨X5, hX5⟩ : ∃ W, W = W3.setCell ⟨b9, 1, none⟩ (.slice na nn nc) := ⟨_, rfl⟩
          rw [← hX5]
          have HQ5 : Hid (QS V b9 nm (.slice na nn nc) (.slice la j lc) (.slice sa ns sc) PL X5 ∧ X5.ownsRow V.heap.size 50 5 (.slice la j lc) j ((placeL k 0 x.lks).flatMap lkL) ∧ X5.ownsRow V.heap.size 77 4 (.slice sa ns sc) ns (x.sts.flatMap stL) ∧ X5.ownsRow V.heap.size 74 2 (.slice na nn nc) nn (x.nets.flatMap pfL)) := by
            rw [hX5]
            exact ⟨(HQ4.out.1.below (grown_bel hgrow)).setN, own_put HQ4.out.2.1 (grown_bel hgrow) HQ4.out.1.c (by decide), own_put HQ4.out.2.2 (grown_bel hgrow) HQ4.out.1.c (by decide), own_put hown1 (Below.refl _ _) (pf_block (grown_bel hgrow) HQ4.out.1.c) (by decide)⟩
          clear hX5 hown1 hgrow hat Y0 Y1 Y2 Y3 Y4 F1 HNW hp0 hq0 hq1 hq2 hB1 HQ4 HBX
          have HT5 : Hid (TS w b3 b6 b7 (.slice am n cm) (.slice (some ⟨bx, ox, none⟩) n2 cr) (.slice va n vc) rv lm lr X5) := HW.out.t.below HQ5.out.1.b
          have hlr : lr.length = k := HW.out.len (by have := HN.out.2; omega)
          obtain ⟨ra, rc, rfl⟩ := own_form HT5.out.r
          rw [hlr] at HT5
          obtain ⟨Y0, Y1, Y2, Y3, Y4⟩ := cells_five HQ5.out.1.c
          obtain ⟨D0, D1⟩ := cells_two HT5.out.c
          obtain ⟨hro0, hv0, hv1, hv2⟩ := HIR.out
          have HR5 : Hid (∃ p : RoV, p = ((⟨x.name, x.nets, placeL k 0 x.lks, x.sts, PL⟩ : RoD), .slice na nn nc, .slice la j lc, .slice sa ns sc)) := ⟨_, rfl⟩
          have hown5 : X5.ownsRow w.heap.size 48 5 (.slice ra k rc) k (lr.flatMap roL) := by
            have := HT5.out.r
            rw [hlr] at this
            exact this
          have HOW : Hid (X5.ownsRow w.heap.size 48 5 (.slice ra k rc) k (lr.flatMap roL)) := hown5
          have hB1 : w.heap.size ≤ X5.heap.size := HT5.out.b.size
          have HNW : Hid (∀ (i : Nat) (u : Value), [Value.string nm, .slice na nn nc, .slice la j lc, .slice sa ns sc, .int .i64 PL][i]? = some u → ∃ b off, some (⟨X5.heap.size, 0, none⟩ : Addr) = some ⟨b, off, none⟩ ∧ (X5.alloc (.cells #[.string nm, .slice na nn nc, .slice la j lc, .slice sa ns sc, .int .i64 PL] 48)).cell? ⟨b, off + i, none⟩ = some u) := by
            intro i u hu
            refine ⟨_, _, rfl, ?_⟩
            obtain ⟨e0, e1, e2, e3, e4⟩ := cells_five (pf_new X5 (.cells #[.string nm, .slice na nn nc, .slice la j lc, .slice sa ns sc, .int .i64 PL] 48) _ rfl)
            rw [Nat.zero_add]
            match i, hu with
            | 0, hu => obtain rfl := Option.some.inj hu; exact e0
            | 1, hu => obtain rfl := Option.some.inj hu; exact e1
            | 2, hu => obtain rfl := Option.some.inj hu; exact e2
            | 3, hu => obtain rfl := Option.some.inj hu; exact e3
            | 4, hu => obtain rfl := Option.some.inj hu; exact e4
          have hB2 : w.heap.size ≤ (X5.alloc (.cells #[.string nm, .slice na nn nc, .slice la j lc, .slice sa ns sc, .int .i64 PL] 48)).heap.size := by simp; omega
          clear hown5 hlr
          go_upto_region 16 with (at_builtin; refine wpList_append_sl rfl _ _ _ rfl w.heap.size 48 r0 _ 5 96 Tryd.underlying31 hro0 hv0 hv1 hv2 rfl (by omega) (.slice ra k rc) k (lr.flatMap roL) rfl (HOW.out.alloc _) (some ⟨X5.heap.size, 0, none⟩) 1 1 [.string nm, .slice na nn nc, .slice la j lc, .slice sa ns sc, .int .i64 PL] rfl rfl HNW.out (by simp [Value.oneCell']) (by unfold maxLen; omega) (by omega) hB2 ?_; intro v1 W3 hown1 hgrow hat; obtain ⟨qa, qc, rfl⟩ := own_form hown1; have c1 := (KeptT.grown (E := [48]) (L := []) (HOW.out.alloc _) hgrow (List.mem_singleton.2 rfl)).2 _ _ _ _ (pf_block (bel_alloc (Below.refl _ _) _) HT5.out.c) (by decide) (by simp); obtain ⟨D0, D1⟩ := cells_two c1; have F1 := free_at c1 1; clear c1)
          obtain ⟨X6, hX6⟩ : ∃ W, W = W3.setCell ⟨b7, 1, none⟩ (.slice qa (k + 1) qc) := ⟨_, rfl⟩
          rw [← hX6]
          have HZ : Hid (TL w b3 b6 b7 (.slice am n cm) (.slice (some ⟨bx, ox, none⟩) n2 cr) (.slice va n vc) (.slice qa (k + 1) qc) lm c (k + 1) (lr ++ [((⟨x.name, x.nets, placeL k 0 x.lks, x.sts, PL⟩ : RoD), .slice na nn nc, .slice la j lc, .slice sa ns sc)]) X6) := by
            have hlr : lr.length = k := HW.out.len (by have := HN.out.2; omega)
            have q5 : Below X5.heap.size X5 (X5.alloc (.cells #[.string nm, .slice na nn nc, .slice la j lc, .slice sa ns sc, .int .i64 PL] 48)) := bel_alloc (Below.refl _ _) _
            rw [hX6]
            refine ⟨TS.addRo (p := ((⟨x.name, x.nets, placeL k 0 x.lks, x.sts, PL⟩ : RoD), .slice na nn nc, .slice la j lc, .slice sa ns sc)) (HT5.out.below q5) ⟨?_, ?_, ?_⟩ ?_ hgrow ?_, ?_⟩
            · have := own_le (own_bel HQ5.out.2.2.2 q5) hBw
              rw [HSL.out.2.2.2.1] at this ⊢
              exact this
            · have := own_le (own_bel HQ5.out.2.1 q5) hBw
              dsimp only
              rw [placeL_len, ← HSL.out.2.2.2.2.1]
              exact this
            · have := own_le (own_bel HQ5.out.2.2.1 q5) hBw
              rw [HSL.out.2.2.2.2.2] at this ⊢
              exact this
            · intro q hq
              have key : ∀ {e z n : Nat} {u u' : Value} {xs xs' : List Value}, V.ownsRow w.heap.size e z u n xs → X5.ownsRow V.heap.size e z u' n xs' ∨ (∃ m, X5.ownsRow V.heap.size e z u' m xs') → ∀ g, u.ownBlock = some g → u'.ownBlock ≠ some g := by
                intro e z n u u' xs xs' hu hu' g hg hg2
                have h1 := own_lt hu g hg
                obtain ⟨m, hm⟩ : ∃ m, X5.ownsRow V.heap.size e z u' m xs' := hu'.elim (fun h => ⟨n, h⟩) id
                rcases hm.2 with ⟨h0, _⟩ | ⟨g', cap, cur, h2, h3, _⟩
                · rw [h0] at hg2
                  cases hg2
                · rw [h2] at hg2
                  injection hg2 with hg2
                  have hg3 : g' = g := hg2
                  omega
              exact ⟨key (HW.out.t.rc q hq).2.1 (.inr ⟨_, HQ5.out.2.1⟩), key (HW.out.t.rc q hq).2.2 (.inr ⟨_, HQ5.out.2.2.1⟩)⟩
            · rw [hlr]
              have h := hown1
              rw [HNM.out] at h
              exact h
            · rw [List.map_append, HW.out.l, List.take_add_one, placeR_at c.ros 0 k x HX.out, HPL.out, Nat.zero_add]
              rfl
          clear hX6 hown1 hgrow hat D0 D1 F1 HNW hB1 hB2 Y0 Y1 Y2 Y3 Y4 HT5 HOW HR5
          go_wp2_with fail
          go_roundg (n2 - (k + 1))
          case measure => omega
          case rel => exact ⟨k + 1, _, _, by omega, by go_num, HZ⟩
    · obtain rfl : k = n2 := by omega
      have d4 : decide ((k : Int) < k) = false := decide_eq_false (by omega)
      have hlr : lr.length = k := HW.out.len (by have := HN.out.2; omega)
      obtain ⟨ra, rc, rfl⟩ := own_form HW.out.t.r
      rw [hlr] at HW
      have HLL : Hid (lr.map (·.1) = placeR 0 c.ros ∧ lr.length = k) := by
        refine ⟨?_, hlr⟩
        rw [HW.out.l, List.take_of_length_le (by rw [placeR_len]; have := HN.out.2; omega)]
      have HT : Hid (TS w b3 b6 b7 (.slice am n cm) (.slice ar k cr) (.slice va n vc) (.slice ra k rc) lm lr wr) := HW.out.t
      obtain ⟨W, hWW⟩ : ∃ V, V = wr := ⟨_, rfl⟩
      rw [← hWW] at HT
      rw [← hWW]
      clear hWW HW hlr HS2 H0
      obtain ⟨C0, C1⟩ := cells_two HT.out.c
      by_cases hz : k = 0
      · subst hz
        clear C0 C1
        have hlr0 : lr = [] := List.eq_nil_of_length_eq_zero HLL.out.2
        subst hlr0
        have HFF : Hid (EndS w b6 b7 (.slice va n vc) (.slice ra 0 rc) lm ([]) (W)) := HT.out.f
        have HQQ : Hid ((⟨lm.map (·.1), ([] : List RoV).map (·.1)⟩ : CfD) = spoilC c how which) := spoil_none HLM.out.1 (List.eq_nil_of_length_eq_zero HN.out.2.symm)
        obtain ⟨D0, D1⟩ := cells_two HFF.out.c
        obtain ⟨Z0, Z1⟩ := cells_two HFF.out.z
        have F0 := free_at HFF.out.z 0
        have F1 := free_at HFF.out.z 1
        go_wp2_with fail
        obtain ⟨X, hX⟩ : ∃ X, X = ((W).setCell ⟨b6, 0, none⟩ (.slice va n vc)).setCell ⟨b6, 1, none⟩ (.slice ra 0 rc) := ⟨_, rfl⟩
        rw [← hX]
        obtain ⟨hcf, qX, E0, E1⟩ := HFF.out.done HLM.out.2 (len_of HLE.out.2 HLE.out.1 HQQ.out) hX
        rw [HQQ.out] at hcf
        clear hX D0 D1 Z0 Z1 F0 F1
        refine bodyPost_ret (v := .agg #[.slice va n vc, .slice ra 0 rc]) (by simp [results, Tryd.results11, go_sem, E0, E1]) rfl ?_
        exact ⟨_, rfl, hcf, qX⟩
      · have hz0 : ¬ (k : Int) = 0 := by omega
        have hz1 : ¬ (k : Int) = -1 := by omega
        obtain ⟨gr, hra⟩ : ∃ g, ra = some ⟨g, 0, none⟩ := by
          rcases HT.out.r.2 with ⟨h0, h1⟩ | ⟨g, cap, cur, h1, _⟩
          · have := HLL.out.2
            omega
          · injection h1 with h1
            exact ⟨g, h1⟩
        subst hra
        obtain ⟨i, hi⟩ : ∃ i, i = which % k := ⟨_, rfl⟩
        have hik : i < k := by rw [hi]; exact Nat.mod_lt _ (by omega)
        have fi : ((which : Int) % (k : Int)) = (i : Int) := by rw [hi, Int.natCast_emod]
        have HI : Hid (i = which % lr.length) := by show _ = _; rw [HLL.out.2, hi]
        have i0 : (0 : Int) ≤ i := by omega
        have i1 : (i : Int) < k := by omega
        have di : decide (i < k) = true := decide_eq_true hik
        clear hi
        go_upto_region 19 with fail
        go_quiet (fail)
        obtain ⟨V, hV⟩ : ∃ V, V = W.drewN nq := ⟨_, rfl⟩
        rw [← hV]
        replace HT : Hid (TS w b3 b6 b7 (.slice am n cm) (.slice ar k cr) (.slice va n vc) (.slice (some ⟨gr, 0, none⟩) k rc) lm lr V) := by rw [hV]; exact HT.out.drewN _
        clear hV fi di C0 C1
        obtain ⟨C0, C1⟩ := cells_two HT.out.c
        obtain ⟨p, hp⟩ : ∃ p, lr[i]? = some p := ⟨lr[i]'(by rw [HLL.out.2]; exact hik), List.getElem?_eq_getElem _⟩
        obtain ⟨f, hf⟩ : ∃ p, lr[0]? = some p := ⟨lr[0]'(by rw [HLL.out.2]; omega), List.getElem?_eq_getElem _⟩
        have HP : Hid (lr[i]? = some p ∧ lr[0]? = some f) := ⟨hp, hf⟩
        have hr := HT.out.r
        rw [HLL.out.2] at hr
        obtain ⟨cur, hgr, hgw⟩ := row_block hr
        have HGR : Hid (V.heap[gr]? = some (.cells cur 48 (0, 0)) ∧ w.heap.size ≤ gr) := ⟨hgr, hgw⟩
        have hpc : ∀ j u, (roL p)[j]? = some u → V.cell? ⟨gr, i * 5 + j, none⟩ = some u := fun j u hu => own_cell hr (by rw [flat_at roL 5 roL_len lr i j p hp (by have := (List.getElem?_eq_some_iff.1 hu).1; exact this)]; exact hu)
        obtain ⟨⟨pn, pnets, plks, psts, ppl⟩, pnv, plv, psv⟩ := p
        obtain ⟨⟨fn, fnets, flks, fsts, fpl⟩, fnv, flv, fsv⟩ := f
        have R0 : V.cell? ⟨gr, i * 5, none⟩ = some (.string ⟨pn.toArray⟩) := hpc 0 _ rfl
        have R1 : V.cell? ⟨gr, i * 5 + 1, none⟩ = some pnv := hpc 1 _ rfl
        have R2 : V.cell? ⟨gr, i * 5 + 2, none⟩ = some plv := hpc 2 _ rfl
        have R3 : V.cell? ⟨gr, i * 5 + 3, none⟩ = some psv := hpc 3 _ rfl
        have RF : V.cell? ⟨gr, 0, none⟩ = some (.string ⟨fn.toArray⟩) := own_cell hr (by have := flat_at roL 5 roL_len lr 0 0 _ hf (by omega); rw [Nat.zero_mul, Nat.zero_add] at this; rw [this]; rfl)
        have G0 := free_at hgr (i * 5)
        have G1 := free_at hgr (i * 5 + 1)
        have G2 := free_at hgr (i * 5 + 2)
        have G3 := free_at hgr (i * 5 + 3)
        have HRC : Hid (V.ownsRow w.heap.size 74 2 pnv pnets.length (pnets.flatMap pfL) ∧ V.ownsRow w.heap.size 50 5 plv plks.length (plks.flatMap lkL) ∧ V.ownsRow w.heap.size 77 4 psv psts.length (psts.flatMap stL)) := HT.out.rc _ (List.mem_of_getElem? hp)
        have hoth : ∀ l q, l ≠ i → lr[l]? = some q → (∀ g, plv.ownBlock = some g → q.2.2.1.ownBlock ≠ some g) ∧ ∀ g, psv.ownBlock = some g → q.2.2.2.ownBlock ≠ some g := fun l q hl hq => by
          have hd := List.pairwise_iff_getElem.1 HT.out.d
          obtain ⟨hl1, hl2⟩ := List.getElem?_eq_some_iff.1 hq
          obtain ⟨hi1, hi2⟩ := List.getElem?_eq_some_iff.1 hp
          rcases Nat.lt_or_gt_of_ne hl with h | h
          · have := hd l i hl1 hi1 h
            rw [hl2, hi2] at this
            exact ⟨fun g h1 h2 => this.1 g h2 h1, fun g h1 h2 => this.2 g h2 h1⟩
          · have := hd i l hi1 hl1 h
            rw [hl2, hi2] at this
            exact this
        have HOTH : Hid (∀ l q, l ≠ i → lr[l]? = some q → (∀ g, plv.ownBlock = some g → q.2.2.1.ownBlock ≠ some g) ∧ ∀ g, psv.ownBlock = some g → q.2.2.2.ownBlock ≠ some g) := hoth
        have HSZ : Hid (pnets.length ≤ 100000 ∧ plks.length ≤ 100000 ∧ psts.length ≤ 100000) := by
          have h1 : (⟨pn, pnets, plks, psts, ppl⟩ : RoD) ∈ placeR 0 c.ros := by
            rw [← HLL.out.1]
            exact List.mem_map_of_mem (List.mem_of_getElem? hp)
          obtain ⟨r, hr2, j, e⟩ := placeR_mem h1
          have h2 := HLE.out.1.n r hr2
          have h3 := HLE.out.2
          injection e with _ e1 e2 e3 _
          rw [e1, e2, e3, placeL_len]
          show _ ∧ _ ∧ _
          omega
        obtain ⟨na, nc, rfl⟩ := own_form HRC.out.1
        obtain ⟨la, lc, rfl⟩ := own_form HRC.out.2.1
        obtain ⟨sa, sc, rfl⟩ := own_form HRC.out.2.2
        obtain ⟨nn, hnn⟩ : ∃ n, n = pnets.length := ⟨_, rfl⟩
        obtain ⟨nl, hnl⟩ : ∃ n, n = plks.length := ⟨_, rfl⟩
        obtain ⟨ns, hns⟩ : ∃ n, n = psts.length := ⟨_, rfl⟩
        rw [← hnn] at HRC R1 HSZ HP
        rw [← hnl] at HRC R2 HSZ HOTH HP
        rw [← hns] at HRC R3 HSZ HOTH HP
        have HLN : Hid (nn = pnets.length ∧ nl = plks.length ∧ ns = psts.length) := ⟨hnn, hnl, hns⟩
        have nn100 := HSZ.out.1
        have nl100 := HSZ.out.2.1
        have ns100 := HSZ.out.2.2
        obtain ⟨PN, hPN⟩ : ∃ x : ByteArray, x = ⟨pn.toArray⟩ := ⟨_, rfl⟩
        obtain ⟨FN, hFN⟩ : ∃ x : ByteArray, x = ⟨fn.toArray⟩ := ⟨_, rfl⟩
        rw [← hPN] at R0
        rw [← hFN] at RF
        have HNM : Hid (PN = ⟨pn.toArray⟩ ∧ FN = ⟨fn.toArray⟩) := ⟨hPN, hFN⟩
        clear hp hf hr hgr hgw hpc hoth hnn hnl hns hPN hFN
        have h8 : how % 8 = 0 ∨ how % 8 = 1 ∨ how % 8 = 2 ∨ how % 8 = 3 ∨ how % 8 = 4 ∨ how % 8 = 5 ∨ how % 8 = 6 ∨ how % 8 = 7 := by omega
        have HSP : Hid (∀ (p' : RoV), p'.1 = spoilR fn how which (⟨pn, pnets, plks, psts, ppl⟩ : RoD) → (⟨lm.map (·.1), (lr.set i p').map (·.1)⟩ : CfD) = spoilC c how which) := fun p' h => spoil_eq HLM.out.1 HLL.out.1 HP.out.1 HI.out HP.out.2 h
        have rows0 : RowsF V w.heap.size ((⟨pn, pnets, plks, psts, ppl⟩ : RoD), .slice na nn nc, .slice la nl lc, .slice sa ns sc) := Rows3.f (by rw [HLN.out.1, HLN.out.2.1, HLN.out.2.2] at HRC ⊢; exact HRC.out)
        have HR0 : Hid (RowsF V w.heap.size ((⟨pn, pnets, plks, psts, ppl⟩ : RoD), .slice na nn nc, .slice la nl lc, .slice sa ns sc)) := rows0
        clear rows0
        rcases h8 with h8 | h8 | h8 | h8 | h8 | h8 | h8 | h8
        · have fr : ((how : Int) % 8) = 0 := by omega
          have H8 : Hid (how % 8 = 0) := h8
          clear h8
          go_upto_region 38 with fail
          clear R0 R1 R2 R3 RF G0 G1 G2 G3 C0 C1
          have HSE : Hid ((((⟨fn, pnets, plks, psts, ppl⟩ : RoD), Value.slice na nn nc, Value.slice la nl lc, Value.slice sa ns sc)).1 = spoilR fn how which (⟨pn, pnets, plks, psts, ppl⟩ : RoD)) := by
            show _ = _
            unfold spoilR
            rw [if_pos H8.out]
          have HF0 : Hid (EndS w b6 b7 (.slice va n vc) (.slice (some ⟨gr, 0, none⟩) k rc) lm (lr.set i ((⟨fn, pnets, plks, psts, ppl⟩ : RoD), Value.slice na nn nc, Value.slice la nl lc, Value.slice sa ns sc)) (V.setCell ⟨gr, i * 5, none⟩ (.string FN))) := by
            have h := TS.fin (W1 := V) HT.out HLL.out.2.symm HP.out.1 (KeptT.refl [] [] V) ⟨by simp, by simp, by simp⟩ (HT.out.b) (fun l q hl hq => HT.out.rc q (List.mem_of_getElem? hq)) (p' := ((⟨fn, pnets, plks, psts, ppl⟩ : RoD), Value.slice na nn nc, Value.slice la nl lc, Value.slice sa ns sc)) (j := 0) (x := .string FN) (by omega) (by rw [HNM.out.2]; rfl) (HR0.out)
            exact h
          obtain ⟨W9, hW9⟩ : ∃ W9, W9 = V.setCell ⟨gr, i * 5, none⟩ (.string FN) := ⟨_, rfl⟩
          rw [← hW9] at HF0
          rw [← hW9]
          clear hW9
          have HFF : Hid (EndS w b6 b7 (.slice va n vc) (.slice (some ⟨gr, 0, none⟩) k rc) lm (lr.set i ((⟨fn, pnets, plks, psts, ppl⟩ : RoD), Value.slice na nn nc, Value.slice la nl lc, Value.slice sa ns sc)) (W9)) := HF0.out
          have HQQ : Hid ((⟨lm.map (·.1), (lr.set i ((⟨fn, pnets, plks, psts, ppl⟩ : RoD), Value.slice na nn nc, Value.slice la nl lc, Value.slice sa ns sc) : List RoV).map (·.1)⟩ : CfD) = spoilC c how which) := HSP.out ((⟨fn, pnets, plks, psts, ppl⟩ : RoD), Value.slice na nn nc, Value.slice la nl lc, Value.slice sa ns sc) HSE.out
          obtain ⟨D0, D1⟩ := cells_two HFF.out.c
          obtain ⟨Z0, Z1⟩ := cells_two HFF.out.z
          have F0 := free_at HFF.out.z 0
          have F1 := free_at HFF.out.z 1
          go_wp2_with fail
          obtain ⟨X, hX⟩ : ∃ X, X = ((W9).setCell ⟨b6, 0, none⟩ (.slice va n vc)).setCell ⟨b6, 1, none⟩ (.slice (some ⟨gr, 0, none⟩) k rc) := ⟨_, rfl⟩
          rw [← hX]
          obtain ⟨hcf, qX, E0, E1⟩ := HFF.out.done HLM.out.2 (len_of HLE.out.2 HLE.out.1 HQQ.out) hX
          rw [HQQ.out] at hcf
          clear hX D0 D1 Z0 Z1 F0 F1
          refine bodyPost_ret (v := .agg #[.slice va n vc, .slice (some ⟨gr, 0, none⟩) k rc]) (by simp [results, Tryd.results11, go_sem, E0, E1]) rfl ?_
          exact ⟨_, rfl, hcf, qX⟩
        · have fr : ((how : Int) % 8) = 1 := by omega
          have H8 : Hid (how % 8 = 1) := h8
          clear h8
          have HCAP : Hid (nl ≤ lc) := (own_capV HRC.out.2.1).le
          by_cases hnl : nl = 0
          · subst hnl
            have hlk : plks = [] := List.eq_nil_of_length_eq_zero HLN.out.2.1.symm
            have d9 : decide (((0 : Nat) : Int) > 0) = false := by decide
            go_upto_region 38 with fail
            clear R0 R1 R2 R3 RF G0 G1 G2 G3 C0 C1
            have e9 : lr.set i ((⟨pn, pnets, plks.drop 1, psts, ppl⟩ : RoD), Value.slice na nn nc, Value.slice la 0 lc, Value.slice sa ns sc) = lr := by
              rw [hlk]
              refine List.ext_getElem? fun l => ?_
              rw [List.getElem?_set]
              split
              · rename_i h
                subst h
                have h2 := HP.out.1
                rw [hlk] at h2
                rw [h2, if_pos (List.getElem?_eq_some_iff.1 h2).1]
                rfl
              · rfl
            have HSE : Hid ((((⟨pn, pnets, plks.drop 1, psts, ppl⟩ : RoD), Value.slice na nn nc, Value.slice la 0 lc, Value.slice sa ns sc)).1 = spoilR fn how which (⟨pn, pnets, plks, psts, ppl⟩ : RoD)) := by
              show _ = _
              unfold spoilR
              rw [if_neg (by rw [H8.out]; decide), if_pos H8.out]
            have HF0 : Hid (EndS w b6 b7 (.slice va n vc) (.slice (some ⟨gr, 0, none⟩) k rc) lm (lr.set i ((⟨pn, pnets, plks.drop 1, psts, ppl⟩ : RoD), Value.slice na nn nc, Value.slice la 0 lc, Value.slice sa ns sc)) (V)) := by rw [e9]; exact HT.out.f
            obtain ⟨W9, hW9⟩ : ∃ W9, W9 = V := ⟨_, rfl⟩
            rw [← hW9] at HF0
            rw [← hW9]
            clear hW9
            have HFF : Hid (EndS w b6 b7 (.slice va n vc) (.slice (some ⟨gr, 0, none⟩) k rc) lm (lr.set i ((⟨pn, pnets, plks.drop 1, psts, ppl⟩ : RoD), Value.slice na nn nc, Value.slice la 0 lc, Value.slice sa ns sc)) (W9)) := HF0.out
            have HQQ : Hid ((⟨lm.map (·.1), (lr.set i ((⟨pn, pnets, plks.drop 1, psts, ppl⟩ : RoD), Value.slice na nn nc, Value.slice la 0 lc, Value.slice sa ns sc) : List RoV).map (·.1)⟩ : CfD) = spoilC c how which) := HSP.out ((⟨pn, pnets, plks.drop 1, psts, ppl⟩ : RoD), Value.slice na nn nc, Value.slice la 0 lc, Value.slice sa ns sc) HSE.out
            obtain ⟨D0, D1⟩ := cells_two HFF.out.c
            obtain ⟨Z0, Z1⟩ := cells_two HFF.out.z
            have F0 := free_at HFF.out.z 0
            have F1 := free_at HFF.out.z 1
            go_wp2_with fail
            obtain ⟨X, hX⟩ : ∃ X, X = ((W9).setCell ⟨b6, 0, none⟩ (.slice va n vc)).setCell ⟨b6, 1, none⟩ (.slice (some ⟨gr, 0, none⟩) k rc) := ⟨_, rfl⟩
            rw [← hX]
            obtain ⟨hcf, qX, E0, E1⟩ := HFF.out.done HLM.out.2 (len_of HLE.out.2 HLE.out.1 HQQ.out) hX
            rw [HQQ.out] at hcf
            clear hX D0 D1 Z0 Z1 F0 F1
            refine bodyPost_ret (v := .agg #[.slice va n vc, .slice (some ⟨gr, 0, none⟩) k rc]) (by simp [results, Tryd.results11, go_sem, E0, E1]) rfl ?_
            exact ⟨_, rfl, hcf, qX⟩
          · have hnl0 : 0 < nl := by omega
            obtain ⟨g, hla⟩ : ∃ g, la = some ⟨g, 0, none⟩ := by
              rcases HRC.out.2.1.2 with ⟨h0, h1⟩ | ⟨g, cap, cur, h1, _⟩
              · omega
              · injection h1 with h1
                exact ⟨g, h1⟩
            subst hla
            have d9 : decide ((nl : Int) > 0) = true := decide_eq_true (by omega)
            have d10 : decide ((0 : Int) < nl) = true := decide_eq_true (by omega)
            have hcap := HCAP.out
            obtain ⟨a, ls, hcons⟩ : ∃ a ls, plks = a :: ls := by
              cases hpl : plks with
              | nil => have := HLN.out.2.1; rw [hpl] at this; simp at this; omega
              | cons a ls => exact ⟨a, ls, rfl⟩
            have HCO : Hid (plks = a :: ls) := hcons
            clear hcons
            by_cases hc1 : lc = 1
            · go_upto_region 38 with fail
              clear R0 R1 R2 R3 RF G0 G1 G2 G3 C0 C1
              have HSE : Hid ((((⟨pn, pnets, plks.drop 1, psts, ppl⟩ : RoD), Value.slice na nn nc, Value.slice (some ⟨g, 0, none⟩) (nl - 1) 0, Value.slice sa ns sc)).1 = spoilR fn how which (⟨pn, pnets, plks, psts, ppl⟩ : RoD)) := by
                show _ = _
                unfold spoilR
                rw [if_neg (by rw [H8.out]; decide), if_pos H8.out]
              have HF0 : Hid (EndS w b6 b7 (.slice va n vc) (.slice (some ⟨gr, 0, none⟩) k rc) lm (lr.set i ((⟨pn, pnets, plks.drop 1, psts, ppl⟩ : RoD), Value.slice na nn nc, Value.slice (some ⟨g, 0, none⟩) (nl - 1) 0, Value.slice sa ns sc)) (V.setCell ⟨gr, i * 5 + 2, none⟩ (Value.slice (some ⟨g, 0, none⟩) (nl - 1) 0))) := by
                have h := TS.fin (W1 := V) HT.out HLL.out.2.symm HP.out.1 (KeptT.refl [] [] V) ⟨by simp, by simp, by simp⟩ (HT.out.b) (fun l q hl hq => HT.out.rc q (List.mem_of_getElem? hq)) (p' := ((⟨pn, pnets, plks.drop 1, psts, ppl⟩ : RoD), Value.slice na nn nc, Value.slice (some ⟨g, 0, none⟩) (nl - 1) 0, Value.slice sa ns sc)) (j := 2) (x := Value.slice (some ⟨g, 0, none⟩) (nl - 1) 0) (by omega) (rfl) (⟨HR0.out.1, .inr (.inl ⟨by have h1 := HLN.out.2.1; rw [HCO.out] at h1 ⊢; rw [List.length_cons] at h1; exact List.eq_nil_of_length_eq_zero (by show ls.length = 0; omega), _, _, by rw [show nl - 1 = 0 by omega]⟩), HR0.out.2.2⟩)
                exact h
              obtain ⟨W9, hW9⟩ : ∃ W9, W9 = V.setCell ⟨gr, i * 5 + 2, none⟩ (Value.slice (some ⟨g, 0, none⟩) (nl - 1) 0) := ⟨_, rfl⟩
              rw [← hW9] at HF0
              rw [← hW9]
              clear hW9
              have HFF : Hid (EndS w b6 b7 (.slice va n vc) (.slice (some ⟨gr, 0, none⟩) k rc) lm (lr.set i ((⟨pn, pnets, plks.drop 1, psts, ppl⟩ : RoD), Value.slice na nn nc, Value.slice (some ⟨g, 0, none⟩) (nl - 1) 0, Value.slice sa ns sc)) (W9)) := HF0.out
              have HQQ : Hid ((⟨lm.map (·.1), (lr.set i ((⟨pn, pnets, plks.drop 1, psts, ppl⟩ : RoD), Value.slice na nn nc, Value.slice (some ⟨g, 0, none⟩) (nl - 1) 0, Value.slice sa ns sc) : List RoV).map (·.1)⟩ : CfD) = spoilC c how which) := HSP.out ((⟨pn, pnets, plks.drop 1, psts, ppl⟩ : RoD), Value.slice na nn nc, Value.slice (some ⟨g, 0, none⟩) (nl - 1) 0, Value.slice sa ns sc) HSE.out
              obtain ⟨D0, D1⟩ := cells_two HFF.out.c
              obtain ⟨Z0, Z1⟩ := cells_two HFF.out.z
              have F0 := free_at HFF.out.z 0
              have F1 := free_at HFF.out.z 1
              go_wp2_with fail
              obtain ⟨X, hX⟩ : ∃ X, X = ((W9).setCell ⟨b6, 0, none⟩ (.slice va n vc)).setCell ⟨b6, 1, none⟩ (.slice (some ⟨gr, 0, none⟩) k rc) := ⟨_, rfl⟩
              rw [← hX]
              obtain ⟨hcf, qX, E0, E1⟩ := HFF.out.done HLM.out.2 (len_of HLE.out.2 HLE.out.1 HQQ.out) hX
              rw [HQQ.out] at hcf
              clear hX D0 D1 Z0 Z1 F0 F1
              refine bodyPost_ret (v := .agg #[.slice va n vc, .slice (some ⟨gr, 0, none⟩) k rc]) (by simp [results, Tryd.results11, go_sem, E0, E1]) rfl ?_
              exact ⟨_, rfl, hcf, qX⟩
            · go_upto_region 38 with fail
              clear R0 R1 R2 R3 RF G0 G1 G2 G3 C0 C1
              have HSE : Hid ((((⟨pn, pnets, plks.drop 1, psts, ppl⟩ : RoD), Value.slice na nn nc, Value.slice (some ⟨g, 5, none⟩) (nl - 1) (lc - 1), Value.slice sa ns sc)).1 = spoilR fn how which (⟨pn, pnets, plks, psts, ppl⟩ : RoD)) := by
                show _ = _
                unfold spoilR
                rw [if_neg (by rw [H8.out]; decide), if_pos H8.out]
              have HF0 : Hid (EndS w b6 b7 (.slice va n vc) (.slice (some ⟨gr, 0, none⟩) k rc) lm (lr.set i ((⟨pn, pnets, plks.drop 1, psts, ppl⟩ : RoD), Value.slice na nn nc, Value.slice (some ⟨g, 5, none⟩) (nl - 1) (lc - 1), Value.slice sa ns sc)) (V.setCell ⟨gr, i * 5 + 2, none⟩ (Value.slice (some ⟨g, 5, none⟩) (nl - 1) (lc - 1)))) := by
                have h := TS.fin (W1 := V) HT.out HLL.out.2.symm HP.out.1 (KeptT.refl [] [] V) ⟨by simp, by simp, by simp⟩ (HT.out.b) (fun l q hl hq => HT.out.rc q (List.mem_of_getElem? hq)) (p' := ((⟨pn, pnets, plks.drop 1, psts, ppl⟩ : RoD), Value.slice na nn nc, Value.slice (some ⟨g, 5, none⟩) (nl - 1) (lc - 1), Value.slice sa ns sc)) (j := 2) (x := Value.slice (some ⟨g, 5, none⟩) (nl - 1) (lc - 1)) (by omega) (rfl) (⟨HR0.out.1, .inr (.inr ⟨g, lc, a, by rw [List.length_drop, ← HLN.out.2.1], by have h1 := HLN.out.2.1; have h2 := HRC.out.2.1; rw [HCO.out] at h1 h2 ⊢; rw [List.length_cons] at h1; show V.ownsRow w.heap.size 50 5 (.slice (some ⟨g, 0, none⟩) (ls.length + 1) lc) (ls.length + 1) ((a :: ls).flatMap lkL); rw [← h1]; exact h2⟩), HR0.out.2.2⟩)
                exact h
              obtain ⟨W9, hW9⟩ : ∃ W9, W9 = V.setCell ⟨gr, i * 5 + 2, none⟩ (Value.slice (some ⟨g, 5, none⟩) (nl - 1) (lc - 1)) := ⟨_, rfl⟩
              rw [← hW9] at HF0
              rw [← hW9]
              clear hW9
              have HFF : Hid (EndS w b6 b7 (.slice va n vc) (.slice (some ⟨gr, 0, none⟩) k rc) lm (lr.set i ((⟨pn, pnets, plks.drop 1, psts, ppl⟩ : RoD), Value.slice na nn nc, Value.slice (some ⟨g, 5, none⟩) (nl - 1) (lc - 1), Value.slice sa ns sc)) (W9)) := HF0.out
              have HQQ : Hid ((⟨lm.map (·.1), (lr.set i ((⟨pn, pnets, plks.drop 1, psts, ppl⟩ : RoD), Value.slice na nn nc, Value.slice (some ⟨g, 5, none⟩) (nl - 1) (lc - 1), Value.slice sa ns sc) : List RoV).map (·.1)⟩ : CfD) = spoilC c how which) := HSP.out ((⟨pn, pnets, plks.drop 1, psts, ppl⟩ : RoD), Value.slice na nn nc, Value.slice (some ⟨g, 5, none⟩) (nl - 1) (lc - 1), Value.slice sa ns sc) HSE.out
              obtain ⟨D0, D1⟩ := cells_two HFF.out.c
              obtain ⟨Z0, Z1⟩ := cells_two HFF.out.z
              have F0 := free_at HFF.out.z 0
              have F1 := free_at HFF.out.z 1
              go_wp2_with fail
              obtain ⟨X, hX⟩ : ∃ X, X = ((W9).setCell ⟨b6, 0, none⟩ (.slice va n vc)).setCell ⟨b6, 1, none⟩ (.slice (some ⟨gr, 0, none⟩) k rc) := ⟨_, rfl⟩
              rw [← hX]
              obtain ⟨hcf, qX, E0, E1⟩ := HFF.out.done HLM.out.2 (len_of HLE.out.2 HLE.out.1 HQQ.out) hX
              rw [HQQ.out] at hcf
              clear hX D0 D1 Z0 Z1 F0 F1
              refine bodyPost_ret (v := .agg #[.slice va n vc, .slice (some ⟨gr, 0, none⟩) k rc]) (by simp [results, Tryd.results11, go_sem, E0, E1]) rfl ?_
              exact ⟨_, rfl, hcf, qX⟩
        · have fr : ((how : Int) % 8) = 2 := by omega
          have H8 : Hid (how % 8 = 2) := h8
          clear h8
          go_upto_region 28 with fail
          have HGL : Hid (gr < V.heap.size) := (Array.getElem?_eq_some_iff.1 HGR.out.1).1
          have E0 := fun p => gr_cell R0 p
          have E1 := fun p => gr_cell R2 p
          have HR2 : Hid (V.cell? ⟨gr, i * 5 + 2, none⟩ = some (.slice la nl lc)) := R2
          have hne := gr_ne V gr
          clear R0 R1 R2 R3 RF G0 G1 G2 G3 C0 C1
          refine wp_region_planS (C := fun w' => ∃ p : GrOf V gr, w' = p.w) [([0, 1, 5, 2, 3, 4, 6, 7, 8, 9], 10), ([], 11)] [12, 13] 14 (by kernel_rfl) (by kernel_rfl) rfl ⟨⟨V.drew, rfl⟩, rfl⟩ (fun _ _ d _ _ h => by cases d <;> exact h) ?_
          obtain ⟨U, hU⟩ : ∃ U, U = V.drew := ⟨_, rfl⟩
          have QU : Hid (Below V.heap.size V U) := by rw [hU]; exact (Below.refl _ _).drew
          rw [← hU]
          clear hU
          refine planS_go rfl ?_
          simp only [pickL, List.getElem?_cons_zero, List.getElem?_cons_succ]
          repeat (go_big_quiet_step (fail))
          refine wpQuiet_nil ?_
          intro Q2 hQ2
          go_wp2_with fail
          obtain ⟨bb, hbb⟩ : ∃ b, b = U.heap.size := ⟨_, rfl⟩
          rw [← hbb]
          obtain ⟨U1, hU1⟩ : ∃ W, W = U.alloc (.cells #[.string PN, .int .i64 1, .string ⟨#[]⟩, .string ⟨#[]⟩, .int .i64 7] 50) := ⟨_, rfl⟩
          rw [← hU1]
          obtain ⟨qY, rY, lY⟩ := box_at U _ hU1 hbb
          have Q1 : Hid (Below V.heap.size V U1) := bel_up QU.out qY QU.out.size
          have RB : Hid (U1.heap[bb]? = some (.cells #[.string PN, .int .i64 1, .string ⟨#[]⟩, .string ⟨#[]⟩, .int .i64 7] 50 (0, 0))) := rY
          clear hU1 qY rY lY hbb
          refine hQ2 _ _ ⟨⟨U1, Q1.out.block gr HGL.out⟩, rfl⟩ ?_
          clear hQ2 Q2
          refine planS_go rfl ?_
          simp only [pickL]
          refine wpQuiet_nil ?_
          intro Q2 hQ2
          obtain ⟨hk0, hl0, hl1, hl2⟩ := HIK.out
          have hx := own_bel HRC.out.2.1 Q1.out
          have HNW : Hid (∀ (i : Nat) (u : Value), [Value.string PN, .int .i64 1, .string ⟨#[]⟩, .string ⟨#[]⟩, .int .i64 7][i]? = some u → ∃ b' off, some (⟨bb, 0, none⟩ : Addr) = some ⟨b', off, none⟩ ∧ U1.cell? ⟨b', off + i, none⟩ = some u) := by
            intro i u hu
            refine ⟨_, _, rfl, ?_⟩
            rw [Nat.zero_add]
            exact cell_of RB.out hu
          have hB : w.heap.size ≤ U1.heap.size := Nat.le_trans HT.out.b.size Q1.out.size
          refine wpList_append_sl rfl _ _ _ rfl w.heap.size 50 k0 _ 5 64 Tryd.underlying45 hk0 hl0 hl1 hl2 rfl (by omega) (.slice la nl lc) nl (plks.flatMap lkL) rfl hx (some ⟨bb, 0, none⟩) 1 1 [Value.string PN, .int .i64 1, .string ⟨#[]⟩, .string ⟨#[]⟩, .int .i64 7] rfl rfl HNW.out (by simp [Value.oneCell']) (by unfold maxLen; omega) (by omega) hB ?_
          intro v2 W2 hown2 hgrow hat
          obtain ⟨ya, yc, rfl⟩ := own_form hown2
          have HGW : Hid (U1.grownBy W2 (Value.slice la nl lc).ownBlock) := hgrow
          have HK : Hid (KeptT [50] [] U1 W2) := KeptT.grown hx hgrow (List.mem_singleton.2 rfl)
          have HKV : Hid (KeptT [50] [] V W2) := (KeptT.below Q1.out).trans HK.out
          have HB2 : Hid (Below w.heap.size w W2) := own_up hx hgrow (bel_up HT.out.b Q1.out HT.out.b.size)
          have HG2 : Hid (W2.heap[gr]? = V.heap[gr]?) := (HKV.out.2 _ _ _ _ HGR.out.1 (by decide) (by simp)).trans HGR.out.1.symm
          have HO2 : Hid (W2.ownsRow w.heap.size 50 5 (.slice ya (nl + 1) yc) (nl + 1) (plks.flatMap lkL ++ [Value.string PN, .int .i64 1, .string ⟨#[]⟩, .string ⟨#[]⟩, .int .i64 7])) := hown2
          clear hx hown2 hgrow hat hB HNW hk0 hl0 hl1 hl2
          go_wp2_with fail
          refine hQ2 _ _ ⟨⟨W2, HG2.out⟩, rfl⟩ ?_
          clear hQ2 Q2
          refine planS_end rfl ?_
          simp only [pickL, List.getElem?_cons_zero, List.getElem?_cons_succ]
          repeat (go_big_quiet_step (fail))
          refine wpQuiet_nil ?_
          clear E0 E1 hne
          intro Q2 hQ2
          have E1 : W2.cell? ⟨gr, i * 5 + 2, none⟩ = some (.slice la nl lc) := gr_cell HR2.out (⟨W2, HG2.out⟩ : GrOf V gr)
          have F1 : W2.frozen? ⟨gr, i * 5 + 2, none⟩ = false := free_at ((HG2.out).trans HGR.out.1) (i * 5 + 2)
          go_upto_region 38 with fail
          clear E1 F1
          have HRW : Hid (W2.ownsRow w.heap.size 50 5 (.slice ya (nl + 1) yc) (plks ++ [(⟨pn, 1, [], [], 7⟩ : LkD)]).length ((plks ++ [(⟨pn, 1, [], [], 7⟩ : LkD)]).flatMap lkL)) := by
            have h := HO2.out
            show W2.ownsRow _ _ _ _ (plks ++ [(⟨pn, 1, [], [], 7⟩ : LkD)]).length ((plks ++ [(⟨pn, 1, [], [], 7⟩ : LkD)]).flatMap lkL)
            rw [List.length_append, List.flatMap_append, ← HLN.out.2.1, List.flatMap_singleton]
            rw [HNM.out.1] at h
            exact h
          have HSE : Hid ((((⟨pn, pnets, plks ++ [(⟨pn, 1, [], [], 7⟩ : LkD)], psts, ppl⟩ : RoD), Value.slice na nn nc, Value.slice ya (nl + 1) yc, Value.slice sa ns sc)).1 = spoilR fn how which (⟨pn, pnets, plks, psts, ppl⟩ : RoD)) := by
            show _ = _
            unfold spoilR
            rw [if_neg (by rw [H8.out]; decide), if_neg (by rw [H8.out]; decide), if_pos H8.out]
          have HF0 : Hid (EndS w b6 b7 (.slice va n vc) (.slice (some ⟨gr, 0, none⟩) k rc) lm (lr.set i ((⟨pn, pnets, plks ++ [(⟨pn, 1, [], [], 7⟩ : LkD)], psts, ppl⟩ : RoD), Value.slice na nn nc, Value.slice ya (nl + 1) yc, Value.slice sa ns sc)) (W2.setCell ⟨gr, i * 5 + 2, none⟩ (Value.slice ya (nl + 1) yc))) := by
            have h := TS.fin (W1 := W2) HT.out HLL.out.2.symm HP.out.1 (HKV.out) ⟨by decide, by decide, by decide⟩ (HB2.out) (fun l q hl hq => ⟨HKV.out.own (HT.out.rc q (List.mem_of_getElem? hq)).1 (by decide) (by simp), (own_bel (HT.out.rc q (List.mem_of_getElem? hq)).2.1 Q1.out).kept HGW.out (ne_of (HOTH.out l q hl hq).1), HKV.out.own (HT.out.rc q (List.mem_of_getElem? hq)).2.2 (by decide) (by simp)⟩) (p' := ((⟨pn, pnets, plks ++ [(⟨pn, 1, [], [], 7⟩ : LkD)], psts, ppl⟩ : RoD), Value.slice na nn nc, Value.slice ya (nl + 1) yc, Value.slice sa ns sc)) (j := 2) (x := Value.slice ya (nl + 1) yc) (by omega) (rfl) (⟨HKV.out.own HR0.out.1 (by decide) (by simp), .inl HRW.out, HKV.out.own HR0.out.2.2 (by decide) (by simp)⟩)
            exact h
          obtain ⟨W9, hW9⟩ : ∃ W9, W9 = W2.setCell ⟨gr, i * 5 + 2, none⟩ (Value.slice ya (nl + 1) yc) := ⟨_, rfl⟩
          rw [← hW9] at HF0
          rw [← hW9]
          clear hW9
          have HFF : Hid (EndS w b6 b7 (.slice va n vc) (.slice (some ⟨gr, 0, none⟩) k rc) lm (lr.set i ((⟨pn, pnets, plks ++ [(⟨pn, 1, [], [], 7⟩ : LkD)], psts, ppl⟩ : RoD), Value.slice na nn nc, Value.slice ya (nl + 1) yc, Value.slice sa ns sc)) (W9)) := HF0.out
          have HQQ : Hid ((⟨lm.map (·.1), (lr.set i ((⟨pn, pnets, plks ++ [(⟨pn, 1, [], [], 7⟩ : LkD)], psts, ppl⟩ : RoD), Value.slice na nn nc, Value.slice ya (nl + 1) yc, Value.slice sa ns sc) : List RoV).map (·.1)⟩ : CfD) = spoilC c how which) := HSP.out ((⟨pn, pnets, plks ++ [(⟨pn, 1, [], [], 7⟩ : LkD)], psts, ppl⟩ : RoD), Value.slice na nn nc, Value.slice ya (nl + 1) yc, Value.slice sa ns sc) HSE.out
          obtain ⟨D0, D1⟩ := cells_two HFF.out.c
          obtain ⟨Z0, Z1⟩ := cells_two HFF.out.z
          have F0 := free_at HFF.out.z 0
          have F1 := free_at HFF.out.z 1
          go_wp2_with fail
          obtain ⟨X, hX⟩ : ∃ X, X = ((W9).setCell ⟨b6, 0, none⟩ (.slice va n vc)).setCell ⟨b6, 1, none⟩ (.slice (some ⟨gr, 0, none⟩) k rc) := ⟨_, rfl⟩
          rw [← hX]
          obtain ⟨hcf, qX, E0, E1⟩ := HFF.out.done HLM.out.2 (len_of HLE.out.2 HLE.out.1 HQQ.out) hX
          rw [HQQ.out] at hcf
          clear hX D0 D1 Z0 Z1 F0 F1
          refine bodyPost_ret (v := .agg #[.slice va n vc, .slice (some ⟨gr, 0, none⟩) k rc]) (by simp [results, Tryd.results11, go_sem, E0, E1]) rfl ?_
          exact ⟨_, rfl, hcf, qX⟩
        · have fr : ((how : Int) % 8) = 3 := by omega
          have H8 : Hid (how % 8 = 3) := h8
          clear h8
          by_cases hnl : nl = 0
          · subst hnl
            have hlk : plks = [] := List.eq_nil_of_length_eq_zero HLN.out.2.1.symm
            have d9 : decide (((0 : Nat) : Int) > 0) = false := by decide
            go_upto_region 38 with fail
            clear R0 R1 R2 R3 RF G0 G1 G2 G3 C0 C1
            have e9 : lr.set i ((⟨pn, pnets, [], psts, ppl⟩ : RoD), Value.slice na nn nc, Value.slice la 0 lc, Value.slice sa ns sc) = lr := by
              refine List.ext_getElem? fun l => ?_
              rw [List.getElem?_set]
              split
              · rename_i h
                subst h
                have h2 := HP.out.1
                rw [hlk] at h2
                rw [h2, if_pos (List.getElem?_eq_some_iff.1 h2).1]
              · rfl
            have HSE : Hid ((((⟨pn, pnets, [], psts, ppl⟩ : RoD), Value.slice na nn nc, Value.slice la 0 lc, Value.slice sa ns sc)).1 = spoilR fn how which (⟨pn, pnets, plks, psts, ppl⟩ : RoD)) := by
              show _ = _
              unfold spoilR
              rw [if_neg (by rw [H8.out]; decide), if_neg (by rw [H8.out]; decide), if_neg (by rw [H8.out]; decide), if_pos H8.out]
              rw [hlk]
            have HF0 : Hid (EndS w b6 b7 (.slice va n vc) (.slice (some ⟨gr, 0, none⟩) k rc) lm (lr.set i ((⟨pn, pnets, [], psts, ppl⟩ : RoD), Value.slice na nn nc, Value.slice la 0 lc, Value.slice sa ns sc)) (V)) := by rw [e9]; exact HT.out.f
            obtain ⟨W9, hW9⟩ : ∃ W9, W9 = V := ⟨_, rfl⟩
            rw [← hW9] at HF0
            rw [← hW9]
            clear hW9
            have HFF : Hid (EndS w b6 b7 (.slice va n vc) (.slice (some ⟨gr, 0, none⟩) k rc) lm (lr.set i ((⟨pn, pnets, [], psts, ppl⟩ : RoD), Value.slice na nn nc, Value.slice la 0 lc, Value.slice sa ns sc)) (W9)) := HF0.out
            have HQQ : Hid ((⟨lm.map (·.1), (lr.set i ((⟨pn, pnets, [], psts, ppl⟩ : RoD), Value.slice na nn nc, Value.slice la 0 lc, Value.slice sa ns sc) : List RoV).map (·.1)⟩ : CfD) = spoilC c how which) := HSP.out ((⟨pn, pnets, [], psts, ppl⟩ : RoD), Value.slice na nn nc, Value.slice la 0 lc, Value.slice sa ns sc) HSE.out
            obtain ⟨D0, D1⟩ := cells_two HFF.out.c
            obtain ⟨Z0, Z1⟩ := cells_two HFF.out.z
            have F0 := free_at HFF.out.z 0
            have F1 := free_at HFF.out.z 1
            go_wp2_with fail
            obtain ⟨X, hX⟩ : ∃ X, X = ((W9).setCell ⟨b6, 0, none⟩ (.slice va n vc)).setCell ⟨b6, 1, none⟩ (.slice (some ⟨gr, 0, none⟩) k rc) := ⟨_, rfl⟩
            rw [← hX]
            obtain ⟨hcf, qX, E0, E1⟩ := HFF.out.done HLM.out.2 (len_of HLE.out.2 HLE.out.1 HQQ.out) hX
            rw [HQQ.out] at hcf
            clear hX D0 D1 Z0 Z1 F0 F1
            refine bodyPost_ret (v := .agg #[.slice va n vc, .slice (some ⟨gr, 0, none⟩) k rc]) (by simp [results, Tryd.results11, go_sem, E0, E1]) rfl ?_
            exact ⟨_, rfl, hcf, qX⟩
          · have hnl0 : 0 < nl := by omega
            obtain ⟨g, hla⟩ : ∃ g, la = some ⟨g, 0, none⟩ := by
              rcases HRC.out.2.1.2 with ⟨h0, h1⟩ | ⟨g, cap, cur, h1, _⟩
              · omega
              · injection h1 with h1
                exact ⟨g, h1⟩
            subst hla
            have d9 : decide ((nl : Int) > 0) = true := decide_eq_true (by omega)
            have d10 : decide ((0 : Int) < nl) = true := decide_eq_true (by omega)
            have d11 : decide (0 < nl) = true := decide_eq_true hnl0
            obtain ⟨a, ls, hcons⟩ : ∃ a ls, plks = a :: ls := by
              cases hpl : plks with
              | nil => have := HLN.out.2.1; rw [hpl] at this; simp at this; omega
              | cons a ls => exact ⟨a, ls, rfl⟩
            have HCO : Hid (plks = a :: ls) := hcons
            clear hcons
            obtain ⟨cu, hgl, hgb⟩ := row_block HRC.out.2.1
            have HGG : Hid (V.heap[g]? = some (.cells cu 50 (0, 0)) ∧ w.heap.size ≤ g) := ⟨hgl, hgb⟩
            have L2 : V.cell? ⟨g, 2, none⟩ = some (.string ⟨a.imp.toArray⟩) := own_cell HRC.out.2.1 (by rw [HCO.out]; rfl)
            obtain ⟨AI, hAI⟩ : ∃ x : ByteArray, x = ⟨a.imp.toArray⟩ := ⟨_, rfl⟩
            rw [← hAI] at L2
            clear hAI
            have GL := free_at hgl 2
            clear hgl hgb
            go_upto_region 38 with fail
            clear L2 GL
            clear R0 R1 R2 R3 RF G0 G1 G2 G3 C0 C1
            have HST : Hid ((V.setCell ⟨g, 2, none⟩ (.string ⟨#[120]⟩)).ownsRow w.heap.size 50 5 (.slice (some ⟨g, 0, none⟩) nl lc) ((⟨a.peer, a.cost, [120], a.exp, a.pl⟩ : LkD) :: ls).length (((⟨a.peer, a.cost, [120], a.exp, a.pl⟩ : LkD) :: ls).flatMap lkL)) := by
              obtain ⟨h, _⟩ := HRC.out.2.1.stored (0 * 5 + 2) (.string ⟨#[120]⟩)
              rw [flat_set lkL 5 (fun _ => rfl) plks 0 2 a ⟨a.peer, a.cost, [120], a.exp, a.pl⟩ _ (by rw [HCO.out]; rfl) (by omega) rfl] at h
              have hl := HLN.out.2.1
              rw [HCO.out, List.length_cons] at hl
              rw [HCO.out, List.set_cons_zero] at h
              show World.ownsRow _ _ _ _ _ (((⟨a.peer, a.cost, [120], a.exp, a.pl⟩ : LkD) :: ls).length) _
              rw [List.length_cons, ← hl]
              exact h
            have HK2 : Hid (KeptT [] [g] V (V.setCell ⟨g, 2, none⟩ (.string ⟨#[120]⟩))) := KeptT.setCell (List.mem_singleton.2 rfl) _
            have HSE : Hid ((((⟨pn, pnets, (⟨a.peer, a.cost, [120], a.exp, a.pl⟩ : LkD) :: ls, psts, ppl⟩ : RoD), Value.slice na nn nc, Value.slice (some ⟨g, 0, none⟩) nl lc, Value.slice sa ns sc)).1 = spoilR fn how which (⟨pn, pnets, plks, psts, ppl⟩ : RoD)) := by
              show _ = _
              unfold spoilR
              rw [if_neg (by rw [H8.out]; decide), if_neg (by rw [H8.out]; decide), if_neg (by rw [H8.out]; decide), if_pos H8.out]
              rw [HCO.out]
            have HF0 : Hid (EndS w b6 b7 (.slice va n vc) (.slice (some ⟨gr, 0, none⟩) k rc) lm (lr.set i ((⟨pn, pnets, (⟨a.peer, a.cost, [120], a.exp, a.pl⟩ : LkD) :: ls, psts, ppl⟩ : RoD), Value.slice na nn nc, Value.slice (some ⟨g, 0, none⟩) nl lc, Value.slice sa ns sc)) (V.setCell ⟨g, 2, none⟩ (.string ⟨#[120]⟩))) := by
              have h := TS.fin0 HT.out HP.out.1 HGG.out.1 HGG.out.2 (j := 2) (x := .string ⟨#[120]⟩) (fun l q hl hq => ⟨HK2.out.own (HT.out.rc q (List.mem_of_getElem? hq)).1 (by simp) (own_off (HT.out.rc q (List.mem_of_getElem? hq)).1 HGG.out.1 (by decide)), HK2.out.own (HT.out.rc q (List.mem_of_getElem? hq)).2.1 (by simp) (fun g2 hg2 hm => (HOTH.out l q hl hq).1 g rfl (by rw [List.mem_singleton] at hm; rw [← hm]; exact hg2)), HK2.out.own (HT.out.rc q (List.mem_of_getElem? hq)).2.2 (by simp) (own_off (HT.out.rc q (List.mem_of_getElem? hq)).2.2 HGG.out.1 (by decide))⟩) (p' := ((⟨pn, pnets, (⟨a.peer, a.cost, [120], a.exp, a.pl⟩ : LkD) :: ls, psts, ppl⟩ : RoD), Value.slice na nn nc, Value.slice (some ⟨g, 0, none⟩) nl lc, Value.slice sa ns sc)) rfl ⟨HK2.out.own HR0.out.1 (by simp) (own_off HR0.out.1 HGG.out.1 (by decide)), .inl HST.out, HK2.out.own HR0.out.2.2 (by simp) (own_off HR0.out.2.2 HGG.out.1 (by decide))⟩
              exact h
            obtain ⟨W9, hW9⟩ : ∃ W9, W9 = V.setCell ⟨g, 2, none⟩ (.string ⟨#[120]⟩) := ⟨_, rfl⟩
            rw [← hW9] at HF0
            rw [← hW9]
            clear hW9
            have HFF : Hid (EndS w b6 b7 (.slice va n vc) (.slice (some ⟨gr, 0, none⟩) k rc) lm (lr.set i ((⟨pn, pnets, (⟨a.peer, a.cost, [120], a.exp, a.pl⟩ : LkD) :: ls, psts, ppl⟩ : RoD), Value.slice na nn nc, Value.slice (some ⟨g, 0, none⟩) nl lc, Value.slice sa ns sc)) (W9)) := HF0.out
            have HQQ : Hid ((⟨lm.map (·.1), (lr.set i ((⟨pn, pnets, (⟨a.peer, a.cost, [120], a.exp, a.pl⟩ : LkD) :: ls, psts, ppl⟩ : RoD), Value.slice na nn nc, Value.slice (some ⟨g, 0, none⟩) nl lc, Value.slice sa ns sc) : List RoV).map (·.1)⟩ : CfD) = spoilC c how which) := HSP.out ((⟨pn, pnets, (⟨a.peer, a.cost, [120], a.exp, a.pl⟩ : LkD) :: ls, psts, ppl⟩ : RoD), Value.slice na nn nc, Value.slice (some ⟨g, 0, none⟩) nl lc, Value.slice sa ns sc) HSE.out
            obtain ⟨D0, D1⟩ := cells_two HFF.out.c
            obtain ⟨Z0, Z1⟩ := cells_two HFF.out.z
            have F0 := free_at HFF.out.z 0
            have F1 := free_at HFF.out.z 1
            go_wp2_with fail
            obtain ⟨X, hX⟩ : ∃ X, X = ((W9).setCell ⟨b6, 0, none⟩ (.slice va n vc)).setCell ⟨b6, 1, none⟩ (.slice (some ⟨gr, 0, none⟩) k rc) := ⟨_, rfl⟩
            rw [← hX]
            obtain ⟨hcf, qX, E0, E1⟩ := HFF.out.done HLM.out.2 (len_of HLE.out.2 HLE.out.1 HQQ.out) hX
            rw [HQQ.out] at hcf
            clear hX D0 D1 Z0 Z1 F0 F1
            refine bodyPost_ret (v := .agg #[.slice va n vc, .slice (some ⟨gr, 0, none⟩) k rc]) (by simp [results, Tryd.results11, go_sem, E0, E1]) rfl ?_
            exact ⟨_, rfl, hcf, qX⟩
        · have fr : ((how : Int) % 8) = 4 := by omega
          have H8 : Hid (how % 8 = 4) := h8
          clear h8
          go_upto_region 33 with fail
          have HGL : Hid (gr < V.heap.size) := (Array.getElem?_eq_some_iff.1 HGR.out.1).1
          have E0 := fun p => gr_cell R0 p
          have E1 := fun p => gr_cell R1 p
          have HR1 : Hid (V.cell? ⟨gr, i * 5 + 1, none⟩ = some (.slice na nn nc)) := R1
          have hne := gr_ne V gr
          clear R0 R1 R2 R3 RF G0 G1 G2 G3 C0 C1
          refine wp_region_planS (C := fun w' => ∃ p : GrOf V gr, w' = p.w) [([0, 1, 2, 3, 4, 6, 7, 8, 9], 5), ([], 10)] [11, 12] 13 (by kernel_rfl) (by kernel_rfl) rfl ⟨⟨V.drew, rfl⟩, rfl⟩ (fun _ _ d _ _ h => by cases d <;> exact h) ?_
          obtain ⟨U, hU⟩ : ∃ U, U = V.drew := ⟨_, rfl⟩
          have QU : Hid (Below V.heap.size V U) := by rw [hU]; exact (Below.refl _ _).drew
          rw [← hU]
          clear hU
          refine planS_go rfl ?_
          simp only [pickL, List.getElem?_cons_zero, List.getElem?_cons_succ]
          repeat (go_big_quiet_step (fail))
          refine wpQuiet_nil ?_
          intro Q2 hQ2
          obtain ⟨hp0, hq0, hq1, hq2⟩ := HIP.out
          have hx := own_bel HRC.out.1 QU.out
          refine wpList_append_sl rfl _ _ _ rfl V.heap.size 74 p0 _ 2 16 Tryd.underlying44 hp0 hq0 hq1 hq2 rfl (by omega) (.slice none 0 0) 0 [] rfl (nil_own _ _ _ _) na nn nc (pnets.flatMap pfL) rfl (by rw [flat_length pfL 2 (fun _ => rfl), HLN.out.1]) (own_news hx) (flat_mem pfL_one _) (by unfold maxLen; omega) (by omega) QU.out.size ?_
          intro v1 W1 hown1 hgrow hat
          rw [Nat.zero_add, List.nil_append] at hown1
          obtain ⟨xa, xc, rfl⟩ := own_form hown1
          have Q1 : Hid (Below V.heap.size V W1) := bel_up QU.out (grown_bel hgrow) QU.out.size
          have HO1 : Hid (W1.ownsRow V.heap.size 74 2 (.slice xa nn xc) nn (pnets.flatMap pfL)) := hown1
          clear hx hown1 hgrow hat
          go_wp2_with fail
          refine hQ2 _ _ ⟨⟨W1, Q1.out.block gr HGL.out⟩, rfl⟩ ?_
          clear hQ2 Q2
          refine planS_go rfl ?_
          simp only [pickL]
          refine wpQuiet_nil ?_
          intro Q2 hQ2
          have hx := own_bel HRC.out.1 Q1.out
          refine wpList_append_sl rfl _ _ _ rfl V.heap.size 74 p0 _ 2 16 Tryd.underlying44 hp0 hq0 hq1 hq2 rfl (by omega) (.slice xa nn xc) nn (pnets.flatMap pfL) rfl HO1.out na nn nc (pnets.flatMap pfL) rfl (by rw [flat_length pfL 2 (fun _ => rfl), HLN.out.1]) (own_news hx) (flat_mem pfL_one _) (by unfold maxLen; omega) (by omega) Q1.out.size ?_
          intro v2 W2 hown2 hgrow hat
          obtain ⟨ya, yc, rfl⟩ := own_form hown2
          have QQ : Hid (Below V.heap.size V W2) := own_up HO1.out hgrow Q1.out
          have HO2 : Hid (W2.ownsRow V.heap.size 74 2 (.slice ya (nn + nn) yc) (nn + nn) (pnets.flatMap pfL ++ pnets.flatMap pfL)) := hown2
          clear hx hown2 hgrow hat hp0 hq0 hq1 hq2
          go_wp2_with fail
          refine hQ2 _ _ ⟨⟨W2, QQ.out.block gr HGL.out⟩, rfl⟩ ?_
          clear hQ2 Q2
          refine planS_end rfl ?_
          simp only [pickL, List.getElem?_cons_zero, List.getElem?_cons_succ]
          repeat (go_big_quiet_step (fail))
          refine wpQuiet_nil ?_
          clear E0 E1 hne
          intro Q2 hQ2
          have E1 : W2.cell? ⟨gr, i * 5 + 1, none⟩ = some (.slice na nn nc) := gr_cell HR1.out (⟨W2, QQ.out.block gr HGL.out⟩ : GrOf V gr)
          have F1 : W2.frozen? ⟨gr, i * 5 + 1, none⟩ = false := free_at ((QQ.out.block gr HGL.out).trans HGR.out.1) (i * 5 + 1)
          go_upto_region 38 with fail
          clear E1 F1
          have HRW : Hid (W2.ownsRow w.heap.size 74 2 (.slice ya (nn + nn) yc) (pnets ++ pnets).length ((pnets ++ pnets).flatMap pfL)) := by
            have h := own_le HO2.out HT.out.b.size
            show W2.ownsRow _ _ _ _ (pnets ++ pnets).length ((pnets ++ pnets).flatMap pfL)
            rw [List.length_append, List.flatMap_append, ← HLN.out.1]
            exact h
          have HSE : Hid ((((⟨pn, pnets ++ pnets, plks, psts, ppl⟩ : RoD), Value.slice ya (nn + nn) yc, Value.slice la nl lc, Value.slice sa ns sc)).1 = spoilR fn how which (⟨pn, pnets, plks, psts, ppl⟩ : RoD)) := by
            show _ = _
            unfold spoilR
            rw [if_neg (by rw [H8.out]; decide), if_neg (by rw [H8.out]; decide), if_neg (by rw [H8.out]; decide), if_neg (by rw [H8.out]; decide), if_pos H8.out]
          have HF0 : Hid (EndS w b6 b7 (.slice va n vc) (.slice (some ⟨gr, 0, none⟩) k rc) lm (lr.set i ((⟨pn, pnets ++ pnets, plks, psts, ppl⟩ : RoD), Value.slice ya (nn + nn) yc, Value.slice la nl lc, Value.slice sa ns sc)) (W2.setCell ⟨gr, i * 5 + 1, none⟩ (Value.slice ya (nn + nn) yc))) := by
            have h := TS.fin (W1 := W2) HT.out HLL.out.2.symm HP.out.1 (KeptT.below (E := []) (L := []) QQ.out) ⟨by simp, by simp, by simp⟩ (bel_up HT.out.b QQ.out HT.out.b.size) (fun l q hl hq => (HT.out.rc q (List.mem_of_getElem? hq)).bel QQ.out) (p' := ((⟨pn, pnets ++ pnets, plks, psts, ppl⟩ : RoD), Value.slice ya (nn + nn) yc, Value.slice la nl lc, Value.slice sa ns sc)) (j := 1) (x := Value.slice ya (nn + nn) yc) (by omega) (rfl) (⟨HRW.out, HR0.out.2.1.kept (KeptT.below (E := []) (L := []) QQ.out) (by simp) (by simp), own_bel HR0.out.2.2 QQ.out⟩)
            exact h
          obtain ⟨W9, hW9⟩ : ∃ W9, W9 = W2.setCell ⟨gr, i * 5 + 1, none⟩ (Value.slice ya (nn + nn) yc) := ⟨_, rfl⟩
          rw [← hW9] at HF0
          rw [← hW9]
          clear hW9
          have HFF : Hid (EndS w b6 b7 (.slice va n vc) (.slice (some ⟨gr, 0, none⟩) k rc) lm (lr.set i ((⟨pn, pnets ++ pnets, plks, psts, ppl⟩ : RoD), Value.slice ya (nn + nn) yc, Value.slice la nl lc, Value.slice sa ns sc)) (W9)) := HF0.out
          have HQQ : Hid ((⟨lm.map (·.1), (lr.set i ((⟨pn, pnets ++ pnets, plks, psts, ppl⟩ : RoD), Value.slice ya (nn + nn) yc, Value.slice la nl lc, Value.slice sa ns sc) : List RoV).map (·.1)⟩ : CfD) = spoilC c how which) := HSP.out ((⟨pn, pnets ++ pnets, plks, psts, ppl⟩ : RoD), Value.slice ya (nn + nn) yc, Value.slice la nl lc, Value.slice sa ns sc) HSE.out
          obtain ⟨D0, D1⟩ := cells_two HFF.out.c
          obtain ⟨Z0, Z1⟩ := cells_two HFF.out.z
          have F0 := free_at HFF.out.z 0
          have F1 := free_at HFF.out.z 1
          go_wp2_with fail
          obtain ⟨X, hX⟩ : ∃ X, X = ((W9).setCell ⟨b6, 0, none⟩ (.slice va n vc)).setCell ⟨b6, 1, none⟩ (.slice (some ⟨gr, 0, none⟩) k rc) := ⟨_, rfl⟩
          rw [← hX]
          obtain ⟨hcf, qX, E0, E1⟩ := HFF.out.done HLM.out.2 (len_of HLE.out.2 HLE.out.1 HQQ.out) hX
          rw [HQQ.out] at hcf
          clear hX D0 D1 Z0 Z1 F0 F1
          refine bodyPost_ret (v := .agg #[.slice va n vc, .slice (some ⟨gr, 0, none⟩) k rc]) (by simp [results, Tryd.results11, go_sem, E0, E1]) rfl ?_
          exact ⟨_, rfl, hcf, qX⟩
        · have fr : ((how : Int) % 8) = 5 := by omega
          have H8 : Hid (how % 8 = 5) := h8
          clear h8
          obtain ⟨q8, hq8⟩ : ∃ q, q = which / 8 % 8 := ⟨_, rfl⟩
          have q0 : q8 < 8 := by rw [hq8]; exact Nat.mod_lt _ (by omega)
          have fq : ((which : Int) / 8 % 8) = (q8 : Int) := by rw [hq8]; omega
          have HQ8 : Hid (q8 = which / 8 % 8) := hq8
          have hname := fun W => name7_any q8 (by omega) W
          obtain ⟨NQ, hNQ⟩ : ∃ p : ByteArray, p = ⟨(nameS q8).toArray⟩ := ⟨_, rfl⟩
          rw [← hNQ] at hname
          have HNQ : Hid (NQ = ⟨(nameS q8).toArray⟩) := hNQ
          clear hq8 hNQ
          go_upto_region 35 with fail
          have HGL : Hid (gr < V.heap.size) := (Array.getElem?_eq_some_iff.1 HGR.out.1).1
          have E0 := fun p => gr_cell R0 p
          have E1 := fun p => gr_cell R3 p
          have HR3 : Hid (V.cell? ⟨gr, i * 5 + 3, none⟩ = some (.slice sa ns sc)) := R3
          have hne := gr_ne V gr
          clear R0 R1 R2 R3 RF G0 G1 G2 G3 C0 C1
          refine wp_region_planS (C := fun w' => ∃ p : GrOf V gr, w' = p.w) [([0, 1, 2, 3, 4, 5, 6, 7, 8], 9), ([10], 11), ([], 12)] [13, 14] 15 (by kernel_rfl) (by kernel_rfl) rfl ⟨⟨V.drew, rfl⟩, rfl⟩ (fun _ _ d _ _ h => by cases d <;> exact h) ?_
          obtain ⟨U, hU⟩ : ∃ U, U = V.drew := ⟨_, rfl⟩
          have QU : Hid (Below V.heap.size V U) := by rw [hU]; exact (Below.refl _ _).drew
          rw [← hU]
          clear hU
          refine planS_go rfl ?_
          simp only [pickL, List.getElem?_cons_zero, List.getElem?_cons_succ]
          repeat (go_big_quiet_step (fail))
          refine wpQuiet_nil ?_
          intro Q2 hQ2
          go_wp2_with fail
          refine (hname _).mono ?_
          rintro e W9 ⟨rfl, h9⟩
          rw [h9]
          clear h9 W9
          go_wp2_with fail
          refine hQ2 _ _ ⟨⟨U, QU.out.block gr HGL.out⟩, rfl⟩ ?_
          clear hQ2 Q2
          refine planS_go rfl ?_
          simp only [pickL, List.getElem?_cons_zero, List.getElem?_cons_succ]
          repeat (go_big_quiet_step (fail))
          refine wpQuiet_nil ?_
          intro Q2 hQ2
          go_wp2_with fail
          obtain ⟨bb, hbb⟩ : ∃ b, b = U.heap.size := ⟨_, rfl⟩
          rw [← hbb]
          obtain ⟨U1, hU1⟩ : ∃ W, W = U.alloc (.cells #[.int .u32 0, .int .i64 0, .string NQ, .int .i64 8] 77) := ⟨_, rfl⟩
          rw [← hU1]
          obtain ⟨qY, rY, lY⟩ := box_at U _ hU1 hbb
          have Q1 : Hid (Below V.heap.size V U1) := bel_up QU.out qY QU.out.size
          have RB : Hid (U1.heap[bb]? = some (.cells #[.int .u32 0, .int .i64 0, .string NQ, .int .i64 8] 77 (0, 0))) := rY
          clear hU1 qY rY lY hbb
          refine hQ2 _ _ ⟨⟨U1, Q1.out.block gr HGL.out⟩, rfl⟩ ?_
          clear hQ2 Q2
          refine planS_go rfl ?_
          simp only [pickL]
          refine wpQuiet_nil ?_
          intro Q2 hQ2
          obtain ⟨hs0, ht0, ht1, ht2⟩ := HIS.out
          have hx := own_bel HRC.out.2.2 Q1.out
          have HNW : Hid (∀ (i : Nat) (u : Value), [Value.int .u32 0, .int .i64 0, .string NQ, .int .i64 8][i]? = some u → ∃ b' off, some (⟨bb, 0, none⟩ : Addr) = some ⟨b', off, none⟩ ∧ U1.cell? ⟨b', off + i, none⟩ = some u) := by
            intro i u hu
            refine ⟨_, _, rfl, ?_⟩
            rw [Nat.zero_add]
            exact cell_of RB.out hu
          have hB : w.heap.size ≤ U1.heap.size := Nat.le_trans HT.out.b.size Q1.out.size
          refine wpList_append_sl rfl _ _ _ rfl w.heap.size 77 s0 _ 4 40 Tryd.underlying46 hs0 ht0 ht1 ht2 rfl (by omega) (.slice sa ns sc) ns (psts.flatMap stL) rfl hx (some ⟨bb, 0, none⟩) 1 1 [Value.int .u32 0, .int .i64 0, .string NQ, .int .i64 8] rfl rfl HNW.out (by simp [Value.oneCell']) (by unfold maxLen; omega) (by omega) hB ?_
          intro v2 W2 hown2 hgrow hat
          obtain ⟨ya, yc, rfl⟩ := own_form hown2
          have HGW : Hid (U1.grownBy W2 (Value.slice sa ns sc).ownBlock) := hgrow
          have HK : Hid (KeptT [77] [] U1 W2) := KeptT.grown hx hgrow (List.mem_singleton.2 rfl)
          have HKV : Hid (KeptT [77] [] V W2) := (KeptT.below Q1.out).trans HK.out
          have HB2 : Hid (Below w.heap.size w W2) := own_up hx hgrow (bel_up HT.out.b Q1.out HT.out.b.size)
          have HG2 : Hid (W2.heap[gr]? = V.heap[gr]?) := (HKV.out.2 _ _ _ _ HGR.out.1 (by decide) (by simp)).trans HGR.out.1.symm
          have HO2 : Hid (W2.ownsRow w.heap.size 77 4 (.slice ya (ns + 1) yc) (ns + 1) (psts.flatMap stL ++ [Value.int .u32 0, .int .i64 0, .string NQ, .int .i64 8])) := hown2
          clear hx hown2 hgrow hat hB HNW hs0 ht0 ht1 ht2
          go_wp2_with fail
          refine hQ2 _ _ ⟨⟨W2, HG2.out⟩, rfl⟩ ?_
          clear hQ2 Q2
          refine planS_end rfl ?_
          simp only [pickL, List.getElem?_cons_zero, List.getElem?_cons_succ]
          repeat (go_big_quiet_step (fail))
          refine wpQuiet_nil ?_
          clear E0 E1 hne
          intro Q2 hQ2
          have E1 : W2.cell? ⟨gr, i * 5 + 3, none⟩ = some (.slice sa ns sc) := gr_cell HR3.out (⟨W2, HG2.out⟩ : GrOf V gr)
          have F1 : W2.frozen? ⟨gr, i * 5 + 3, none⟩ = false := free_at ((HG2.out).trans HGR.out.1) (i * 5 + 3)
          go_upto_region 38 with fail
          clear E1 F1
          have HRW : Hid (W2.ownsRow w.heap.size 77 4 (.slice ya (ns + 1) yc) (psts ++ [(⟨0, 0, nameS (which / 8 % 8), 8⟩ : StD)]).length ((psts ++ [(⟨0, 0, nameS (which / 8 % 8), 8⟩ : StD)]).flatMap stL)) := by
            have h := HO2.out
            show W2.ownsRow _ _ _ _ (psts ++ [(⟨0, 0, nameS (which / 8 % 8), 8⟩ : StD)]).length ((psts ++ [(⟨0, 0, nameS (which / 8 % 8), 8⟩ : StD)]).flatMap stL)
            rw [List.length_append, List.flatMap_append, ← HLN.out.2.2, List.flatMap_singleton]
            rw [HNQ.out, HQ8.out] at h
            exact h
          have HSE : Hid ((((⟨pn, pnets, plks, psts ++ [(⟨0, 0, nameS (which / 8 % 8), 8⟩ : StD)], ppl⟩ : RoD), Value.slice na nn nc, Value.slice la nl lc, Value.slice ya (ns + 1) yc)).1 = spoilR fn how which (⟨pn, pnets, plks, psts, ppl⟩ : RoD)) := by
            show _ = _
            unfold spoilR
            rw [if_neg (by rw [H8.out]; decide), if_neg (by rw [H8.out]; decide), if_neg (by rw [H8.out]; decide), if_neg (by rw [H8.out]; decide), if_neg (by rw [H8.out]; decide), if_pos H8.out]
          have HF0 : Hid (EndS w b6 b7 (.slice va n vc) (.slice (some ⟨gr, 0, none⟩) k rc) lm (lr.set i ((⟨pn, pnets, plks, psts ++ [(⟨0, 0, nameS (which / 8 % 8), 8⟩ : StD)], ppl⟩ : RoD), Value.slice na nn nc, Value.slice la nl lc, Value.slice ya (ns + 1) yc)) (W2.setCell ⟨gr, i * 5 + 3, none⟩ (Value.slice ya (ns + 1) yc))) := by
            have h := TS.fin (W1 := W2) HT.out HLL.out.2.symm HP.out.1 (HKV.out) ⟨by decide, by decide, by decide⟩ (HB2.out) (fun l q hl hq => ⟨HKV.out.own (HT.out.rc q (List.mem_of_getElem? hq)).1 (by decide) (by simp), HKV.out.own (HT.out.rc q (List.mem_of_getElem? hq)).2.1 (by decide) (by simp), (own_bel (HT.out.rc q (List.mem_of_getElem? hq)).2.2 Q1.out).kept HGW.out (ne_of (HOTH.out l q hl hq).2)⟩) (p' := ((⟨pn, pnets, plks, psts ++ [(⟨0, 0, nameS (which / 8 % 8), 8⟩ : StD)], ppl⟩ : RoD), Value.slice na nn nc, Value.slice la nl lc, Value.slice ya (ns + 1) yc)) (j := 3) (x := Value.slice ya (ns + 1) yc) (by omega) (rfl) (⟨HKV.out.own HR0.out.1 (by decide) (by simp), HR0.out.2.1.kept HKV.out (by decide) (by simp), HRW.out⟩)
            exact h
          obtain ⟨W9, hW9⟩ : ∃ W9, W9 = W2.setCell ⟨gr, i * 5 + 3, none⟩ (Value.slice ya (ns + 1) yc) := ⟨_, rfl⟩
          rw [← hW9] at HF0
          rw [← hW9]
          clear hW9
          have HFF : Hid (EndS w b6 b7 (.slice va n vc) (.slice (some ⟨gr, 0, none⟩) k rc) lm (lr.set i ((⟨pn, pnets, plks, psts ++ [(⟨0, 0, nameS (which / 8 % 8), 8⟩ : StD)], ppl⟩ : RoD), Value.slice na nn nc, Value.slice la nl lc, Value.slice ya (ns + 1) yc)) (W9)) := HF0.out
          have HQQ : Hid ((⟨lm.map (·.1), (lr.set i ((⟨pn, pnets, plks, psts ++ [(⟨0, 0, nameS (which / 8 % 8), 8⟩ : StD)], ppl⟩ : RoD), Value.slice na nn nc, Value.slice la nl lc, Value.slice ya (ns + 1) yc) : List RoV).map (·.1)⟩ : CfD) = spoilC c how which) := HSP.out ((⟨pn, pnets, plks, psts ++ [(⟨0, 0, nameS (which / 8 % 8), 8⟩ : StD)], ppl⟩ : RoD), Value.slice na nn nc, Value.slice la nl lc, Value.slice ya (ns + 1) yc) HSE.out
          obtain ⟨D0, D1⟩ := cells_two HFF.out.c
          obtain ⟨Z0, Z1⟩ := cells_two HFF.out.z
          have F0 := free_at HFF.out.z 0
          have F1 := free_at HFF.out.z 1
          go_wp2_with fail
          obtain ⟨X, hX⟩ : ∃ X, X = ((W9).setCell ⟨b6, 0, none⟩ (.slice va n vc)).setCell ⟨b6, 1, none⟩ (.slice (some ⟨gr, 0, none⟩) k rc) := ⟨_, rfl⟩
          rw [← hX]
          obtain ⟨hcf, qX, E0, E1⟩ := HFF.out.done HLM.out.2 (len_of HLE.out.2 HLE.out.1 HQQ.out) hX
          rw [HQQ.out] at hcf
          clear hX D0 D1 Z0 Z1 F0 F1
          refine bodyPost_ret (v := .agg #[.slice va n vc, .slice (some ⟨gr, 0, none⟩) k rc]) (by simp [results, Tryd.results11, go_sem, E0, E1]) rfl ?_
          exact ⟨_, rfl, hcf, qX⟩
        · have fr : ((how : Int) % 8) = 6 := by omega
          have H8 : Hid (how % 8 = 6) := h8
          clear h8
          go_upto_region 37 with fail
          have HGL : Hid (gr < V.heap.size) := (Array.getElem?_eq_some_iff.1 HGR.out.1).1
          have E0 := fun p => gr_cell R0 p
          have E1 := fun p => gr_cell R3 p
          have HR3 : Hid (V.cell? ⟨gr, i * 5 + 3, none⟩ = some (.slice sa ns sc)) := R3
          have hne := gr_ne V gr
          clear R0 R1 R2 R3 RF G0 G1 G2 G3 C0 C1
          refine wp_region_planS (C := fun w' => ∃ p : GrOf V gr, w' = p.w) [([0, 1, 2, 3, 4, 6, 7, 8, 9], 5), ([], 10)] [11, 12] 13 (by kernel_rfl) (by kernel_rfl) rfl ⟨⟨V.drew, rfl⟩, rfl⟩ (fun _ _ d _ _ h => by cases d <;> exact h) ?_
          obtain ⟨U, hU⟩ : ∃ U, U = V.drew := ⟨_, rfl⟩
          have QU : Hid (Below V.heap.size V U) := by rw [hU]; exact (Below.refl _ _).drew
          rw [← hU]
          clear hU
          refine planS_go rfl ?_
          simp only [pickL, List.getElem?_cons_zero, List.getElem?_cons_succ]
          repeat (go_big_quiet_step (fail))
          refine wpQuiet_nil ?_
          intro Q2 hQ2
          obtain ⟨hs0, ht0, ht1, ht2⟩ := HIS.out
          have hx := own_bel HRC.out.2.2 QU.out
          refine wpList_append_sl rfl _ _ _ rfl V.heap.size 77 s0 _ 4 40 Tryd.underlying46 hs0 ht0 ht1 ht2 rfl (by omega) (.slice none 0 0) 0 [] rfl (nil_own _ _ _ _) sa ns sc (psts.flatMap stL) rfl (by rw [flat_length stL 4 (fun _ => rfl), HLN.out.2.2]) (own_news hx) (flat_mem stL_one _) (by unfold maxLen; omega) (by omega) QU.out.size ?_
          intro v1 W1 hown1 hgrow hat
          rw [Nat.zero_add, List.nil_append] at hown1
          obtain ⟨xa, xc, rfl⟩ := own_form hown1
          have Q1 : Hid (Below V.heap.size V W1) := bel_up QU.out (grown_bel hgrow) QU.out.size
          have HO1 : Hid (W1.ownsRow V.heap.size 77 4 (.slice xa ns xc) ns (psts.flatMap stL)) := hown1
          clear hx hown1 hgrow hat
          go_wp2_with fail
          refine hQ2 _ _ ⟨⟨W1, Q1.out.block gr HGL.out⟩, rfl⟩ ?_
          clear hQ2 Q2
          refine planS_go rfl ?_
          simp only [pickL]
          refine wpQuiet_nil ?_
          intro Q2 hQ2
          have hx := own_bel HRC.out.2.2 Q1.out
          refine wpList_append_sl rfl _ _ _ rfl V.heap.size 77 s0 _ 4 40 Tryd.underlying46 hs0 ht0 ht1 ht2 rfl (by omega) (.slice xa ns xc) ns (psts.flatMap stL) rfl HO1.out sa ns sc (psts.flatMap stL) rfl (by rw [flat_length stL 4 (fun _ => rfl), HLN.out.2.2]) (own_news hx) (flat_mem stL_one _) (by unfold maxLen; omega) (by omega) Q1.out.size ?_
          intro v2 W2 hown2 hgrow hat
          obtain ⟨ya, yc, rfl⟩ := own_form hown2
          have QQ : Hid (Below V.heap.size V W2) := own_up HO1.out hgrow Q1.out
          have HO2 : Hid (W2.ownsRow V.heap.size 77 4 (.slice ya (ns + ns) yc) (ns + ns) (psts.flatMap stL ++ psts.flatMap stL)) := hown2
          clear hx hown2 hgrow hat hs0 ht0 ht1 ht2
          go_wp2_with fail
          refine hQ2 _ _ ⟨⟨W2, QQ.out.block gr HGL.out⟩, rfl⟩ ?_
          clear hQ2 Q2
          refine planS_end rfl ?_
          simp only [pickL, List.getElem?_cons_zero, List.getElem?_cons_succ]
          repeat (go_big_quiet_step (fail))
          refine wpQuiet_nil ?_
          clear E0 E1 hne
          intro Q2 hQ2
          have E1 : W2.cell? ⟨gr, i * 5 + 3, none⟩ = some (.slice sa ns sc) := gr_cell HR3.out (⟨W2, QQ.out.block gr HGL.out⟩ : GrOf V gr)
          have F1 : W2.frozen? ⟨gr, i * 5 + 3, none⟩ = false := free_at ((QQ.out.block gr HGL.out).trans HGR.out.1) (i * 5 + 3)
          go_upto_region 38 with fail
          clear E1 F1
          have HRW : Hid (W2.ownsRow w.heap.size 77 4 (.slice ya (ns + ns) yc) (psts ++ psts).length ((psts ++ psts).flatMap stL)) := by
            have h := own_le HO2.out HT.out.b.size
            show W2.ownsRow _ _ _ _ (psts ++ psts).length ((psts ++ psts).flatMap stL)
            rw [List.length_append, List.flatMap_append, ← HLN.out.2.2]
            exact h
          have HSE : Hid ((((⟨pn, pnets, plks, psts ++ psts, ppl⟩ : RoD), Value.slice na nn nc, Value.slice la nl lc, Value.slice ya (ns + ns) yc)).1 = spoilR fn how which (⟨pn, pnets, plks, psts, ppl⟩ : RoD)) := by
            show _ = _
            unfold spoilR
            rw [if_neg (by rw [H8.out]; decide), if_neg (by rw [H8.out]; decide), if_neg (by rw [H8.out]; decide), if_neg (by rw [H8.out]; decide), if_neg (by rw [H8.out]; decide), if_neg (by rw [H8.out]; decide), if_pos H8.out]
          have HF0 : Hid (EndS w b6 b7 (.slice va n vc) (.slice (some ⟨gr, 0, none⟩) k rc) lm (lr.set i ((⟨pn, pnets, plks, psts ++ psts, ppl⟩ : RoD), Value.slice na nn nc, Value.slice la nl lc, Value.slice ya (ns + ns) yc)) (W2.setCell ⟨gr, i * 5 + 3, none⟩ (Value.slice ya (ns + ns) yc))) := by
            have h := TS.fin (W1 := W2) HT.out HLL.out.2.symm HP.out.1 (KeptT.below (E := []) (L := []) QQ.out) ⟨by simp, by simp, by simp⟩ (bel_up HT.out.b QQ.out HT.out.b.size) (fun l q hl hq => (HT.out.rc q (List.mem_of_getElem? hq)).bel QQ.out) (p' := ((⟨pn, pnets, plks, psts ++ psts, ppl⟩ : RoD), Value.slice na nn nc, Value.slice la nl lc, Value.slice ya (ns + ns) yc)) (j := 3) (x := Value.slice ya (ns + ns) yc) (by omega) (rfl) (⟨own_bel HR0.out.1 QQ.out, HR0.out.2.1.kept (KeptT.below (E := []) (L := []) QQ.out) (by simp) (by simp), HRW.out⟩)
            exact h
          obtain ⟨W9, hW9⟩ : ∃ W9, W9 = W2.setCell ⟨gr, i * 5 + 3, none⟩ (Value.slice ya (ns + ns) yc) := ⟨_, rfl⟩
          rw [← hW9] at HF0
          rw [← hW9]
          clear hW9
          have HFF : Hid (EndS w b6 b7 (.slice va n vc) (.slice (some ⟨gr, 0, none⟩) k rc) lm (lr.set i ((⟨pn, pnets, plks, psts ++ psts, ppl⟩ : RoD), Value.slice na nn nc, Value.slice la nl lc, Value.slice ya (ns + ns) yc)) (W9)) := HF0.out
          have HQQ : Hid ((⟨lm.map (·.1), (lr.set i ((⟨pn, pnets, plks, psts ++ psts, ppl⟩ : RoD), Value.slice na nn nc, Value.slice la nl lc, Value.slice ya (ns + ns) yc) : List RoV).map (·.1)⟩ : CfD) = spoilC c how which) := HSP.out ((⟨pn, pnets, plks, psts ++ psts, ppl⟩ : RoD), Value.slice na nn nc, Value.slice la nl lc, Value.slice ya (ns + ns) yc) HSE.out
          obtain ⟨D0, D1⟩ := cells_two HFF.out.c
          obtain ⟨Z0, Z1⟩ := cells_two HFF.out.z
          have F0 := free_at HFF.out.z 0
          have F1 := free_at HFF.out.z 1
          go_wp2_with fail
          obtain ⟨X, hX⟩ : ∃ X, X = ((W9).setCell ⟨b6, 0, none⟩ (.slice va n vc)).setCell ⟨b6, 1, none⟩ (.slice (some ⟨gr, 0, none⟩) k rc) := ⟨_, rfl⟩
          rw [← hX]
          obtain ⟨hcf, qX, E0, E1⟩ := HFF.out.done HLM.out.2 (len_of HLE.out.2 HLE.out.1 HQQ.out) hX
          rw [HQQ.out] at hcf
          clear hX D0 D1 Z0 Z1 F0 F1
          refine bodyPost_ret (v := .agg #[.slice va n vc, .slice (some ⟨gr, 0, none⟩) k rc]) (by simp [results, Tryd.results11, go_sem, E0, E1]) rfl ?_
          exact ⟨_, rfl, hcf, qX⟩
        · have fr : ((how : Int) % 8) = 7 := by omega
          have H8 : Hid (how % 8 = 7) := h8
          clear h8
          go_upto_region 21 with fail
          have HGL : Hid (gr < V.heap.size) := (Array.getElem?_eq_some_iff.1 HGR.out.1).1
          have E0 := fun p => gr_cell R0 p
          have E1 := fun p => gr_cell R2 p
          have HR2 : Hid (V.cell? ⟨gr, i * 5 + 2, none⟩ = some (.slice la nl lc)) := R2
          have hne := gr_ne V gr
          clear R0 R1 R2 R3 RF G0 G1 G2 G3 C0 C1
          refine wp_region_planS (C := fun w' => ∃ p : GrOf V gr, w' = p.w) [([0, 1, 2, 3, 4, 6, 7, 8, 9], 5), ([], 10)] [11, 12] 13 (by kernel_rfl) (by kernel_rfl) rfl ⟨⟨V.drew, rfl⟩, rfl⟩ (fun _ _ d _ _ h => by cases d <;> exact h) ?_
          obtain ⟨U, hU⟩ : ∃ U, U = V.drew := ⟨_, rfl⟩
          have QU : Hid (Below V.heap.size V U) := by rw [hU]; exact (Below.refl _ _).drew
          rw [← hU]
          clear hU
          refine planS_go rfl ?_
          simp only [pickL, List.getElem?_cons_zero, List.getElem?_cons_succ]
          repeat (go_big_quiet_step (fail))
          refine wpQuiet_nil ?_
          intro Q2 hQ2
          obtain ⟨hk0, hl0, hl1, hl2⟩ := HIK.out
          have hx := own_bel HRC.out.2.1 QU.out
          refine wpList_append_sl rfl _ _ _ rfl V.heap.size 50 k0 _ 5 64 Tryd.underlying45 hk0 hl0 hl1 hl2 rfl (by omega) (.slice none 0 0) 0 [] rfl (nil_own _ _ _ _) la nl lc (plks.flatMap lkL) rfl (by rw [flat_length lkL 5 (fun _ => rfl), HLN.out.2.1]) (own_news hx) (flat_mem lkL_one _) (by unfold maxLen; omega) (by omega) QU.out.size ?_
          intro v1 W1 hown1 hgrow hat
          rw [Nat.zero_add, List.nil_append] at hown1
          obtain ⟨xa, xc, rfl⟩ := own_form hown1
          have Q1 : Hid (Below V.heap.size V W1) := bel_up QU.out (grown_bel hgrow) QU.out.size
          have HO1 : Hid (W1.ownsRow V.heap.size 50 5 (.slice xa nl xc) nl (plks.flatMap lkL)) := hown1
          clear hx hown1 hgrow hat
          go_wp2_with fail
          refine hQ2 _ _ ⟨⟨W1, Q1.out.block gr HGL.out⟩, rfl⟩ ?_
          clear hQ2 Q2
          refine planS_go rfl ?_
          simp only [pickL]
          refine wpQuiet_nil ?_
          intro Q2 hQ2
          have hx := own_bel HRC.out.2.1 Q1.out
          refine wpList_append_sl rfl _ _ _ rfl V.heap.size 50 k0 _ 5 64 Tryd.underlying45 hk0 hl0 hl1 hl2 rfl (by omega) (.slice xa nl xc) nl (plks.flatMap lkL) rfl HO1.out la nl lc (plks.flatMap lkL) rfl (by rw [flat_length lkL 5 (fun _ => rfl), HLN.out.2.1]) (own_news hx) (flat_mem lkL_one _) (by unfold maxLen; omega) (by omega) Q1.out.size ?_
          intro v2 W2 hown2 hgrow hat
          obtain ⟨ya, yc, rfl⟩ := own_form hown2
          have QQ : Hid (Below V.heap.size V W2) := own_up HO1.out hgrow Q1.out
          have HO2 : Hid (W2.ownsRow V.heap.size 50 5 (.slice ya (nl + nl) yc) (nl + nl) (plks.flatMap lkL ++ plks.flatMap lkL)) := hown2
          clear hx hown2 hgrow hat hk0 hl0 hl1 hl2
          go_wp2_with fail
          refine hQ2 _ _ ⟨⟨W2, QQ.out.block gr HGL.out⟩, rfl⟩ ?_
          clear hQ2 Q2
          refine planS_end rfl ?_
          simp only [pickL, List.getElem?_cons_zero, List.getElem?_cons_succ]
          repeat (go_big_quiet_step (fail))
          refine wpQuiet_nil ?_
          clear E0 E1 hne
          intro Q2 hQ2
          have E1 : W2.cell? ⟨gr, i * 5 + 2, none⟩ = some (.slice la nl lc) := gr_cell HR2.out (⟨W2, QQ.out.block gr HGL.out⟩ : GrOf V gr)
          have F1 : W2.frozen? ⟨gr, i * 5 + 2, none⟩ = false := free_at ((QQ.out.block gr HGL.out).trans HGR.out.1) (i * 5 + 2)
          go_upto_region 38 with fail
          clear E1 F1
          have HRW : Hid (W2.ownsRow w.heap.size 50 5 (.slice ya (nl + nl) yc) (plks ++ plks).length ((plks ++ plks).flatMap lkL)) := by
            have h := own_le HO2.out HT.out.b.size
            show W2.ownsRow _ _ _ _ (plks ++ plks).length ((plks ++ plks).flatMap lkL)
            rw [List.length_append, List.flatMap_append, ← HLN.out.2.1]
            exact h
          have HSE : Hid ((((⟨pn, pnets, plks ++ plks, psts, ppl⟩ : RoD), Value.slice na nn nc, Value.slice ya (nl + nl) yc, Value.slice sa ns sc)).1 = spoilR fn how which (⟨pn, pnets, plks, psts, ppl⟩ : RoD)) := by
            show _ = _
            unfold spoilR
            rw [if_neg (by rw [H8.out]; decide), if_neg (by rw [H8.out]; decide), if_neg (by rw [H8.out]; decide), if_neg (by rw [H8.out]; decide), if_neg (by rw [H8.out]; decide), if_neg (by rw [H8.out]; decide), if_neg (by rw [H8.out]; decide)]
          have HF0 : Hid (EndS w b6 b7 (.slice va n vc) (.slice (some ⟨gr, 0, none⟩) k rc) lm (lr.set i ((⟨pn, pnets, plks ++ plks, psts, ppl⟩ : RoD), Value.slice na nn nc, Value.slice ya (nl + nl) yc, Value.slice sa ns sc)) (W2.setCell ⟨gr, i * 5 + 2, none⟩ (Value.slice ya (nl + nl) yc))) := by
            have h := TS.fin (W1 := W2) HT.out HLL.out.2.symm HP.out.1 (KeptT.below (E := []) (L := []) QQ.out) ⟨by simp, by simp, by simp⟩ (bel_up HT.out.b QQ.out HT.out.b.size) (fun l q hl hq => (HT.out.rc q (List.mem_of_getElem? hq)).bel QQ.out) (p' := ((⟨pn, pnets, plks ++ plks, psts, ppl⟩ : RoD), Value.slice na nn nc, Value.slice ya (nl + nl) yc, Value.slice sa ns sc)) (j := 2) (x := Value.slice ya (nl + nl) yc) (by omega) (rfl) (⟨own_bel HR0.out.1 QQ.out, .inl HRW.out, own_bel HR0.out.2.2 QQ.out⟩)
            exact h
          obtain ⟨W9, hW9⟩ : ∃ W9, W9 = W2.setCell ⟨gr, i * 5 + 2, none⟩ (Value.slice ya (nl + nl) yc) := ⟨_, rfl⟩
          rw [← hW9] at HF0
          rw [← hW9]
          clear hW9
          have HFF : Hid (EndS w b6 b7 (.slice va n vc) (.slice (some ⟨gr, 0, none⟩) k rc) lm (lr.set i ((⟨pn, pnets, plks ++ plks, psts, ppl⟩ : RoD), Value.slice na nn nc, Value.slice ya (nl + nl) yc, Value.slice sa ns sc)) (W9)) := HF0.out
          have HQQ : Hid ((⟨lm.map (·.1), (lr.set i ((⟨pn, pnets, plks ++ plks, psts, ppl⟩ : RoD), Value.slice na nn nc, Value.slice ya (nl + nl) yc, Value.slice sa ns sc) : List RoV).map (·.1)⟩ : CfD) = spoilC c how which) := HSP.out ((⟨pn, pnets, plks ++ plks, psts, ppl⟩ : RoD), Value.slice na nn nc, Value.slice ya (nl + nl) yc, Value.slice sa ns sc) HSE.out
          obtain ⟨D0, D1⟩ := cells_two HFF.out.c
          obtain ⟨Z0, Z1⟩ := cells_two HFF.out.z
          have F0 := free_at HFF.out.z 0
          have F1 := free_at HFF.out.z 1
          go_wp2_with fail
          obtain ⟨X, hX⟩ : ∃ X, X = ((W9).setCell ⟨b6, 0, none⟩ (.slice va n vc)).setCell ⟨b6, 1, none⟩ (.slice (some ⟨gr, 0, none⟩) k rc) := ⟨_, rfl⟩
          rw [← hX]
          obtain ⟨hcf, qX, E0, E1⟩ := HFF.out.done HLM.out.2 (len_of HLE.out.2 HLE.out.1 HQQ.out) hX
          rw [HQQ.out] at hcf
          clear hX D0 D1 Z0 Z1 F0 F1
          refine bodyPost_ret (v := .agg #[.slice va n vc, .slice (some ⟨gr, 0, none⟩) k rc]) (by simp [results, Tryd.results11, go_sem, E0, E1]) rfl ?_
          exact ⟨_, rfl, hcf, qX⟩
theorem nm_nil : NmOk [] := by unfold NmOk; simp
/-- What numbers make may be keys. -/
theorem confS_fit {s : ShD} (hok : s.ok) : (confS s).fit := by
  have hN : ∀ n, NmOk (nameS n) := fun n => by unfold NmOk nameS; simp
  have hM : ∀ v, NmOk (mappedS s v) := fun v => by unfold mappedS mapN NmOk; split <;> simp
  refine ⟨fun m hm => ?_, fun r hr => ?_⟩
  · obtain ⟨k, rs, _, hk, rfl⟩ := mapsS_mem hm
    unfold NmOk mapN
    simp
  · obtain ⟨k, hk, rfl⟩ := rosS_mem hr
    have key : ∀ j l, l ∈ linksS s (s.n % 8) k j → l.fit := by
      intro j l hl
      obtain ⟨i, hi, rfl⟩ := linksS_mem hl
      exact ⟨hN _, hM _, hM _⟩
    have hpf : ∀ z, z < 256 → PfOk (mkA z, (mkB z : Int)) := fun z hz => ⟨mkA_lt hz, by have := mkB_le z; show (-9223372036854775808 : Int) ≤ (mkB z : Int); omega, by have := mkB_le z; show (mkB z : Int) ≤ 9223372036854775807; omega⟩
    refine ⟨hN _, fun p hp => ?_, fun l hl => key _ l hl, fun x hx => ?_⟩
    · have hp' : p ∈ netsS s k := hp
      unfold netsS at hp'
      split at hp'
      · rw [List.mem_singleton] at hp'
        rw [hp']
        exact hpf _ (numS_lt hok.t k)
      · cases hp'
    · have : x ∈ statS s (linksS s (s.n % 8) k (s.n % 8)) k := hx
      unfold statS at this
      split at this
      · rw [List.mem_singleton] at this
        rw [this]
        refine ⟨hpf _ (numS_lt hok.w k), ?_⟩
        show NmOk (((linksS s (s.n % 8) k (s.n % 8))[numS s.ways k / 8 % (linksS s (s.n % 8) k (s.n % 8)).length]?).map LkD.peer |>.getD [])
        cases hl : (linksS s (s.n % 8) k (s.n % 8))[numS s.ways k / 8 % (linksS s (s.n % 8) k (s.n % 8)).length]? with
        | none => exact nm_nil
        | some l => exact (key _ l (List.mem_of_getElem? hl)).p
      · cases this
/-- What numbers make lies with room, and is small. -/
theorem own_cf {s : ShD} {B : Nat} {W : World} {mv rv : Value} {lm : List MpV} {lr : List RoV} (h : ConfOwn B W mv rv lm lr) (h1 : lm.map (·.1) = (confS s).maps) (h2 : lr.map (·.1) = (confS s).ros) :
    CfC W W.heap.size (.agg #[mv, rv]) (confS s) ∧ (confS s).le 100 := by
  have hs := conf_small (Nat.mod_lt s.n (by decide)) h1 h2
  obtain ⟨mv', rv', e, hms, _⟩ := h.at h1 h2
  simp only [Value.agg.injEq, Array.mk.injEq, List.cons.injEq, and_true] at e
  obtain ⟨rfl, rfl⟩ := e
  have hrs : SliceAt W.heap.size 5 (RoC W W.heap.size) rv (lr.map (·.1)) := slice_fst (slice_of_own2 roL (fun _ => rfl) (fun b o p hp _ hcl => roC_of ((h.rc p hp).ok (by have := hs.2.2 p hp; omega)) hcl) (by omega) h.r)
  have k1 := own_capV h.m
  have k2 := own_capV h.r
  have l1 : lm.length = (confS s).maps.length := by rw [← h1, List.length_map]
  have l2 : lr.length = (confS s).ros.length := by rw [← h2, List.length_map]
  rw [h2] at hrs
  rw [l1] at k1
  rw [l2] at k2
  refine ⟨⟨mv, rv, rfl, hms, hrs, k1, k2⟩, ⟨by omega, by omega, fun r hr => ?_⟩⟩
  rw [← h2] at hr
  obtain ⟨p, hp, rfl⟩ := List.mem_map.1 hr
  have := hs.2.2 p hp
  omega
set_option maxHeartbeats 16000000 in
set_option maxRecDepth 20000 in
theorem checkTurned_walk (s : ShD) (hok : s.ok) (v : Value) (a : Nat) (ha : a < 256) (b : Nat) (hb : b < 256) (c : Nat) (hc : c < 256) (d : Nat) (hd : d < 256) (w : World) (hv : ShAt w w.heap.size v s) (hl : Laid w) :
    Calls Tryd.prog 4 #[v, .int .u8 a, .int .u8 b, .int .u8 c, .int .u8 d] w fun e w' => e = .returned (.bool true) ∧ Below w.heap.size w w' := by
  have HV : Hid (ShAt w w.heap.size v s) := hv
  obtain ⟨lv, mv, nv, tv, wv, rfl, _, _, _, _, _⟩ := hv
  have HL : Hid (Laid w) := hl
  have HOK : Hid s.ok := hok
  have HBD : Hid (a < 256 ∧ b < 256 ∧ c < 256 ∧ d < 256) := ⟨ha, hb, hc, hd⟩
  obtain ⟨n, hn⟩ : ∃ n, n = s.n := ⟨_, rfl⟩
  rw [← hn] at HV ⊢
  clear hn hl hok ha hb hc hd
  go_enter Tryd.func4, Tryd.ntmps4
  go_upto_region 1 with fail
  obtain ⟨b1, hb1⟩ : ∃ b, b = w.heap.size := ⟨_, rfl⟩
  rw [← hb1]
  obtain ⟨U, hU⟩ : ∃ U, U = w.alloc (.cells #[.int .u8 n, lv, mv, nv, tv, wv] 25) := ⟨_, rfl⟩
  rw [← hU]
  obtain ⟨q1, r1, _⟩ := box_at w _ hU hb1
  have QU : Hid (Below w.heap.size w U ∧ U.heap[b1]? = some (.cells #[.int .u8 n, lv, mv, nv, tv, wv] 25 (0, 0))) := ⟨q1, r1⟩
  have h1 := awake9_any U (laid_below HL.out q1)
  clear hU hb1 q1 r1
  go_wp2_with fail
  refine h1.mono ?_
  rintro e V ⟨rfl, qV⟩
  have QV : Hid (Below w.heap.size w V) := bel_up QU.out.1 qV QU.out.1.size
  obtain ⟨C0, C1, C2, C3, C4, C5⟩ := cells_six' (pf_block qV QU.out.2)
  have h2 := sconf_own s HOK.out _ V (HV.out.keep QV.out.size (cells_below QV.out (Nat.le_refl _)))
  clear h1 qV
  go_wp2_with fail
  refine h2.mono ?_
  rintro e Y ⟨mv, rv, lm, lr, rfl, ho, hm1, hr1, qY⟩
  have QY : Hid (Below w.heap.size w Y) := bel_up QV.out qY QV.out.size
  have hcf := own_cf ho hm1 hr1
  have h3 := turn_any (N := 100) (by omega) hcf.2 hcf.1 a b HBD.out.1 HBD.out.2.1
  have HLE : Hid ((confS s).le 100) := hcf.2
  obtain ⟨cv, hcv⟩ : ∃ x, x = Value.agg #[mv, rv] := ⟨_, rfl⟩
  rw [← hcv] at h3
  clear h2 qY C0 C1 C2 C3 C4 C5 ho hm1 hr1 hcf
  rw [← hcv]
  clear hcv
  go_wp2_with fail
  refine h3.mono ?_
  rintro e Z ⟨v1, rfl, hcf, qZ⟩
  have QZ : Hid (Below w.heap.size w Z) := bel_up QY.out qZ QY.out.size
  have h4 := turn_any (N := 201) (by omega) (spoil_le HLE.out a b) hcf c d HBD.out.2.2.1 HBD.out.2.2.2
  clear h3 qZ hcf
  go_wp2_with fail
  refine h4.mono ?_
  rintro e X ⟨v2, rfl, hcf, qX⟩
  have QX : Hid (Below w.heap.size w X) := bel_up QZ.out qX QZ.out.size
  obtain ⟨cc, hcc⟩ : ∃ x, x = spoilC (spoilC (confS s) a b) c d := ⟨_, rfl⟩
  have HFIT : Hid cc.fit := by rw [hcc]; exact spoil_fit (spoil_fit (confS_fit HOK.out) a b) c d
  rw [← hcc] at hcf
  clear h4 qX hcc
  have HCF : Hid (CfC X X.heap.size v2 cc) := hcf
  obtain ⟨mv, rv, rfl, ⟨am, cm, rfl, _⟩, ⟨ar, cr, rfl, _⟩, _⟩ := hcf
  obtain ⟨n1, hn1⟩ : ∃ n, n = cc.maps.length := ⟨_, rfl⟩
  obtain ⟨n2, hn2⟩ : ∃ n, n = cc.ros.length := ⟨_, rfl⟩
  rw [← hn1, ← hn2] at HCF ⊢
  clear hn1 hn2
  go_upto_region 4 with fail
  obtain ⟨b2, hb2⟩ : ∃ b, b = X.heap.size := ⟨_, rfl⟩
  rw [← hb2]
  obtain ⟨X1, hX1⟩ : ∃ U, U = X.alloc (.cells #[.slice am n1 cm, .slice ar n2 cr] 33) := ⟨_, rfl⟩
  rw [← hX1]
  obtain ⟨q1, r1, _⟩ := box_at X _ hX1 hb2
  have QX1 : Hid (Below w.heap.size w X1 ∧ Below X.heap.size X X1 ∧ X1.heap[b2]? = some (.cells #[.slice am n1 cm, .slice ar n2 cr] 33 (0, 0))) := ⟨bel_up QX.out q1 QX.out.size, q1, r1⟩
  obtain ⟨C0, C1⟩ := cells_two r1
  clear hX1 hb2 q1 r1
  have h2 := config_any HFIT.out (HCF.out.at.keep QX1.out.2.1.size (cells_below QX1.out.2.1 (Nat.le_refl _)))
  go_wp2_with fail
  refine h2.mono ?_
  rintro e Y2 ⟨rfl, qY⟩
  have QY2 : Hid (Below w.heap.size w Y2 ∧ Below X.heap.size X Y2 ∧ Y2.heap[b2]? = some (.cells #[.slice am n1 cm, .slice ar n2 cr] 33 (0, 0))) := ⟨bel_up QX1.out.1 qY QX1.out.1.size, bel_up QX1.out.2.1 qY QX1.out.2.1.size, pf_block qY QX1.out.2.2⟩
  clear C0 C1 h2 qY
  obtain ⟨C0, C1⟩ := cells_two QY2.out.2.2
  have h3 := wrong9_any (HCF.out.keep QY2.out.2.1.size (cells_below QY2.out.2.1 (Nat.le_refl _)))
  cases hw : wrongR cc with
  | none =>
    rw [hw] at h3
    unfold wrV at h3
    unfold errV
    dsimp only at h3 ⊢
    clear hw
    go_wp2_with fail
    refine h3.mono ?_
    rintro e Z2 ⟨rfl, qZ⟩
    have QZ2 : Hid (Below w.heap.size w Z2) := bel_up QY2.out.1 qZ QY2.out.1.size
    have h4 := number_nil Z2
    clear C0 C1 h3 qZ
    go_wp2_with fail
    refine h4.mono ?_
    rintro e X3 ⟨rfl, qX⟩
    have QX3 : Hid (Below w.heap.size w X3) := bel_up QZ2.out qX QZ2.out.size
    have h5 := place_nil X3
    clear h4 qX
    go_wp2_with fail
    refine h5.mono ?_
    rintro e X4 ⟨rfl, qX⟩
    have QX4 : Hid (Below w.heap.size w X4) := bel_up QX3.out qX QX3.out.size
    clear h5 qX
    go_wp2_with fail
    go_ret
    exact ⟨rfl, QX4.out⟩
  | some e =>
    have hk := wrong_kind hw
    obtain ⟨no, pl⟩ := e
    rw [hw] at h3
    unfold wrV at h3
    unfold errV
    dsimp only at h3 hk ⊢
    have hn0 : ¬ (no : Int) = 0 := by omega
    have hn1 : ((no : Int) == 0) = false := by rw [beq_eq_false_iff_ne]; exact hn0
    clear hw hk
    go_wp2_with fail
    refine h3.mono ?_
    rintro e Z2 ⟨rfl, qZ⟩
    have QZ2 : Hid (Below w.heap.size w Z2) := bel_up QY2.out.1 qZ QY2.out.1.size
    have h4 := number_fault no pl Z2 (laid_below HL.out QZ2.out)
    clear C0 C1 h3 qZ
    go_wp2_with fail
    refine h4.mono ?_
    rintro e X3 ⟨rfl, qX⟩
    have QX3 : Hid (Below w.heap.size w X3) := bel_up QZ2.out qX QZ2.out.size
    have h5 := place_fault no pl X3 (laid_below HL.out QX3.out)
    clear h4 qX
    go_wp2_with fail
    refine h5.mono ?_
    rintro e X4 ⟨rfl, qX⟩
    have QX4 : Hid (Below w.heap.size w X4) := bel_up QX3.out qX QX3.out.size
    clear h5 qX
    go_wp2_with fail
    go_ret
    exact ⟨rfl, QX4.out⟩
end Go.Proofs.YtcjdjifooaeomaaDoor
