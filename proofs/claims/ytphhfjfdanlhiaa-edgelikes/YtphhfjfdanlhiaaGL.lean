/- EdgeLikes: the walk. -/
import Derived.Test.YtphhfjfdanlhiaaGF
import Derived.Test.YtphhfjfdanlhiaaGC
import Derived.Test.YtphhfjfdanlhiaaGG
import Derived.Test.YtphhfjfdanlhiaaGK0
namespace Go.Proofs.Ytphhfjfdanlhiaa
open Go.RowKit Go.Lib

set_option maxHeartbeats 8000000 in
set_option maxRecDepth 20000 in
theorem leglikes_walk {vr vs ve vi : Value} {rx ry : List RlD} {ex im : List ClD} (f0 c0 : Nat) (hb : f0 < 256 ∧ c0 < 256) (fr cost : Int) (w : World)
    (hs : WiS w vr vs rx ry) (h : EdS w ve vi ex im) :
    Calls Try.prog 5 #[wiV f0 c0 vr vs, edV fr cost ve vi] w fun e w' => e = .returned (.bool true) ∧ Below w.heap.size w w' := by
  have hwk := awake12_any
  have hed := fun (X : World) (b : Below w.heap.size w X) => edge_any f0 c0 hb X (hs.keep b)
  have HE : Hid (EdS w ve vi ex im) := h
  obtain ⟨ar, cr, at9, cs, rfl, rfl⟩ := hs.form
  obtain ⟨ae, ce, ai, ci, rfl, rfl⟩ := h.form
  obtain ⟨U, hU⟩ : ∃ U, U = (w.alloc (wiB f0 c0 (.slice ar rx.length cr) (.slice at9 ry.length cs))).alloc (edB fr cost (.slice ae ex.length ce) (.slice ai im.length ci)) := ⟨_, rfl⟩
  have hwU : Below w.heap.size w U := by rw [hU]; exact bel_alloc2 _ _ _
  obtain ⟨b3, hb3⟩ : ∃ b, b = w.heap.size := ⟨_, rfl⟩
  obtain ⟨b4, hb4⟩ : ∃ b, b = w.heap.size + 1 := ⟨_, rfl⟩
  have h3 : U.heap[b3]? = some (wiB f0 c0 (.slice ar rx.length cr) (.slice at9 ry.length cs)) := by rw [hU]; exact pf_block (bel_alloc (Below.refl _ _) _) (pf_new _ _ _ hb3)
  have h4 : U.heap[b4]? = some (edB fr cost (.slice ae ex.length ce) (.slice ai im.length ci)) := by rw [hU]; exact pf_new _ _ _ (by rw [hb4]; simp)
  unfold wiB edB at hU
  unfold wiV edV at hed
  unfold wiV edV
  clear hs h hb
  go_enter Try.func5, Try.ntmps5
  go_wp2_with fail
  rw [← hU, ← hb4, ← hb3]
  clear hU hb3 hb4
  refine (hwk _).mono ?_
  rintro e W ⟨rfl, q1⟩
  replace h3 := pf_block q1 h3
  replace h4 := pf_block q1 h4
  have hwW := bel_up hwU q1 hwU.size
  clear hwU q1 U hwk
  go_upto_region 3 with fail
  obtain ⟨r0, r1, r2, r3⟩ := wi_all h3
  obtain ⟨e0, e1, e2, e3⟩ := at_cells h4
  have hne := bel_ne W
  refine wp_region_plan (C := fun w' => ∃ p : BelOf W, w' = p.w) [([0, 2, 5], 1), ([], 3), ([], 4)] [] (by kernel_rfl) (by kernel_rfl) rfl ⟨⟨W.drew, (Below.refl _ _).drew⟩, rfl⟩ (fun _ _ d _ _ h => by cases d <;> exact h) ?_
  refine plan_go rfl ?_
  simp only [pickL, List.getElem?_cons_zero, List.getElem?_cons_succ]
  repeat (go_big_quiet_step (fail))
  refine wpQuiet_nil ?_
  intro Q2 hQ2
  have hx := hed W.drew hwW.drew
  clear hed
  go_wp2_with fail
  refine hx.mono ?_
  rintro e F ⟨xe, xi, rfl, HX, qF⟩
  have QF : Below W.heap.size W F := ((Below.refl W.heap.size W).drew).trans qF
  obtain ⟨ad, cd, aj, cj, rfl, rfl⟩ := HX.form
  obtain ⟨C, hC⟩ : ∃ C, C = 1 + (c0 : Int) % 3 := ⟨_, rfl⟩
  rw [← hC]
  clear hx qF hC r0 r1 r2 r3 e0 e1 e2 e3
  go_wp2_with fail
  refine hQ2 _ _ ⟨⟨F, QF⟩, rfl⟩ ?_
  clear hQ2 Q2
  refine plan_go rfl ?_
  simp only [pickL]
  refine wpQuiet_nil ?_
  intro Q2 hQ2
  go_wp2_with fail
  obtain ⟨r, hr⟩ : ∃ r : EdR, r = ⟨f0, C, .slice ad (plainS rx).length cd, .slice aj (plainS ry).length cj, plainS rx, plainS ry⟩ := ⟨_, rfl⟩
  obtain ⟨s, hs⟩ : ∃ r : EdR, r = ⟨fr, cost, .slice ae ex.length ce, .slice ai im.length ci, ex, im⟩ := ⟨_, rfl⟩
  obtain ⟨bs, hbs⟩ : ∃ b, b = F.heap.size := ⟨_, rfl⟩
  obtain ⟨S, hS⟩ : ∃ S, S = F.alloc (edB2 r s) := ⟨_, rfl⟩
  have hFS : Below F.heap.size F S := by rw [hS]; exact bel_alloc (Below.refl _ _) _
  have hbS : S.heap[bs]? = some (edB2 r s) := by rw [hS]; exact pf_new _ _ _ hbs
  have HWS : Hid (Below W.heap.size W S) := bel_up QF hFS QF.size
  have HWS2 : Hid (Below w.heap.size w S) := bel_up hwW HWS.out hwW.size
  have HED : Hid (∀ (k : Nat) (x : EdR), [r, s][k]? = some x → EdS S x.ve x.vi x.ex x.im) := by
    show ∀ (k : Nat) (x : EdR), [r, s][k]? = some x → EdS S x.ve x.vi x.ex x.im
    intro k x hx
    match k, hx with
    | 0, hx =>
      obtain rfl : r = x := by simpa using hx
      rw [hr]
      exact HX.keep hFS
    | 1, hx =>
      obtain rfl : s = x := by simpa using hx
      rw [hs]
      exact HE.out.keep HWS2.out
    | k + 2, hx => simp at hx
  have HCE : Hid (∀ (k : Nat) (x : EdR), [r, s][k]? = some x → _) := two_ed hbS
  rw [hr, hs] at hS
  unfold edB2 at hS
  dsimp only at hS
  rw [← hS, ← hbs]
  clear hS hbs hFS QF HX hr hs hwW h3 h4
  refine hQ2 _ _ ⟨⟨S, HWS.out⟩, rfl⟩ ?_
  clear hQ2 Q2
  refine plan_go rfl ?_
  simp only [pickL]
  refine wpQuiet_nil ?_
  intro Q2 hQ2
  go_wp2_with fail
  refine hQ2 _ _ ⟨⟨S, HWS.out⟩, rfl⟩ (plan_end ?_)
  clear hQ2 Q2 hne
  go_wp2_with fail
  go_loopw [17] (fun i wr => ∃ k : Nat, k ≤ 2 ∧ i = .int .i64 k ∧ Below S.heap.size S wr) (fun i _ => 2 - (RowKit.intOf i).toNat)
  case atStart => exact ⟨0, by decide, rfl, Below.refl _ _⟩
  case round =>
    obtain ⟨k, hk, rfl, hw⟩ := hrel
    by_cases hlt : k < 2
    · have d4 : decide ((k : Int) < 2) = true := decide_eq_true (by omega)
      obtain ⟨x, hx⟩ : ∃ x, [r, s][k]? = some x := ⟨[r, s][k]'hlt, List.getElem?_eq_getElem _⟩
      have hes := (HED.out k x hx).keep hw
      obtain ⟨v0, v1, v2, v3⟩ := HCE.out k x hx
      obtain ⟨p, rfl⟩ : ∃ p : BelOf S, wr = p.w := ⟨⟨wr, hw⟩, rfl⟩
      have lb := (Array.getElem?_eq_some_iff.1 hbS).1
      replace v0 := bel_cell lb v0 p
      replace v1 := bel_cell lb v1 p
      replace v2 := bel_cell lb v2 p
      replace v3 := bel_cell lb v3 p
      have k0 : (0 : Int) ≤ k := by omega
      clear hx hw lb HE
      obtain ⟨xf, xc, xve, xvi, xex, xim⟩ := x
      dsimp only at hes v0 v1 v2 v3
      obtain ⟨ae', ce', ai', ci', rfl, rfl⟩ := hes.form
      obtain ⟨X, hX⟩ : ∃ X, X = p.w.alloc (edB xf xc (.slice ae' xex.length ce') (.slice ai' xim.length ci')) := ⟨_, rfl⟩
      have qX : Below p.w.heap.size p.w X := by rw [hX]; exact bel_alloc (Below.refl _ _) _
      have hbX : X.heap[p.w.heap.size]? = some (edB xf xc (.slice ae' xex.length ce') (.slice ai' xim.length ci')) := by rw [hX]; exact pf_new _ _ _ rfl
      have HXS : Hid (Below S.heap.size S X) := bel_up p.h qX p.h.size
      replace hes := hes.keep qX
      unfold edB at hX
      have hlk := fun (Y : World) (q : Below X.heap.size X Y) => likes_any xf xc Y (hes.keep q)
      have htk := fun (j : Nat) (hj : j < 16) (Y : World) (q : Below X.heap.size X Y) => ltake_any xf xc ⟨true, 100, 0, (j : Int)⟩ (by show 0 ≤ (j : Int) ∧ (j : Int) < 256; omega) Y (hes.keep q)
      have hrk : ∀ j : Nat, j < 16 → takeP xex xim xc ⟨true, 100, 0, (j : Int)⟩ = rowP xex xim xc j := fun j hj => by
        unfold rowP
        rw [show j % 16 = j by omega]
      obtain ⟨z, hz⟩ : ∃ z, z = likesP xex xim xc 16 := ⟨_, rfl⟩
      have HZ : Hid (z = likesP xex xim xc 16) := hz
      rw [← hz] at hlk
      have HRK : Hid _ := hrk
      have HTK : Hid _ := htk
      unfold edV at hlk
      clear hz hrk htk
      go_upto_region 6 with fail
      obtain ⟨b8, hb8⟩ : ∃ b, b = p.w.heap.size := ⟨_, rfl⟩
      rw [← hX, ← hb8]
      rw [← hb8] at hbX
      clear hX hb8 v0 v1 v2 v3 qX hes
      obtain ⟨u0, u1, u2, u3⟩ := at_cells hbX
      go_wp2_with fail
      go_loopw [7, 8] (fun iv kv wr => ∃ j : Nat, j ≤ 16 ∧ kv = .int .u8 j ∧ iv = .bool (likesP xex xim xc j) ∧ Below X.heap.size X wr) (fun _ kv _ => 16 - (RowKit.intOf kv).toNat)
      case atStart => exact ⟨0, by decide, rfl, rfl, Below.refl _ _⟩
      case round =>
        obtain ⟨j, hj, rfl, rfl, hw2⟩ := hrel
        obtain ⟨B, hB⟩ : ∃ B, B = likesP xex xim xc j := ⟨_, rfl⟩
        have HB : Hid (B = likesP xex xim xc j) := hB
        rw [← hB]
        clear hB
        obtain ⟨q, rfl⟩ : ∃ q : BelOf X, wr = q.w := ⟨⟨wr, hw2⟩, rfl⟩
        obtain ⟨w0, w1, w2, w3⟩ : q.w.cell? ⟨b8, 0, none⟩ = some (.int .i64 xf) ∧ q.w.cell? ⟨b8, 1, none⟩ = some (.int .i64 xc) ∧ q.w.cell? ⟨b8, 2, none⟩ = some (.slice ae' xex.length ce') ∧ q.w.cell? ⟨b8, 3, none⟩ = some (.slice ai' xim.length ci') := ⟨u0 q, u1 q, u2 q, u3 q⟩
        clear hw2 u0 u1 u2 u3
        by_cases hjl : j < 16
        · have d5 : decide ((j : Int) < 16) = true := decide_eq_true (by omega)
          have hk := HTK.out j hjl q.w q.h
          obtain ⟨y, hy⟩ : ∃ y, y = rowP xex xim xc j := ⟨_, rfl⟩
          have HY : Hid (likesP xex xim xc (j + 1) = (B || likeP y)) := by
            show likesP xex xim xc (j + 1) = _
            rw [likesP, HB.out, hy]
          rw [HRK.out j hjl, ← hy] at hk
          clear hy hlk hbX
          obtain ⟨yo, yp, yc, yt⟩ := y
          unfold edV atV at hk
          dsimp only at hk
          go_wp2_with fail
          refine hk.mono ?_
          rintro e V ⟨rfl, qV⟩
          have HV : Hid (Below X.heap.size X V) := bel_up q.h qV q.h.size
          clear hk qV w0 w1 w2 w3
          go_upto_region 11 with fail
          obtain ⟨b9, hb9⟩ : ∃ b, b = V.heap.size := ⟨_, rfl⟩
          obtain ⟨T, hT⟩ : ∃ X, X = V.alloc (atB ⟨yo, yp, yc, yt⟩) := ⟨_, rfl⟩
          have hbT : T.heap[b9]? = some (atB ⟨yo, yp, yc, yt⟩) := by rw [hT]; exact pf_new _ _ _ hb9
          have HT : Hid (Below X.heap.size X T) := by rw [hT]; exact bel_alloc HV.out _
          unfold atB at hT
          dsimp only at hT
          rw [← hT, ← hb9]
          clear hT hb9 HV
          obtain ⟨z0, z1, z2, z3⟩ := at_cell hbT
          dsimp only at z0 z1 z2 z3
          clear hbT
          cases B
          · cases yo
            · go_wp2_with fail
              go_roundw
              case rel => exact ⟨j + 1, by omega, by go_num, by rw [HY.out]; simp [likeP], HT.out⟩
              case measure => simp [RowKit.intOf]; omega
            · by_cases hp : yp = 100
              · subst hp
                go_wp2_with fail
                go_roundw
                case rel => exact ⟨j + 1, by omega, by go_num, by rw [HY.out]; simp [likeP], HT.out⟩
                case measure => simp [RowKit.intOf]; omega
              · have d6 : (yp != 100) = true := by rw [bne_iff_ne]; exact hp
                go_wp2_with fail
                go_roundw
                case rel => exact ⟨j + 1, by omega, by go_num, by rw [HY.out]; simp [likeP, hp], HT.out⟩
                case measure => simp [RowKit.intOf]; omega
          · go_wp2_with fail
            go_roundw
            case rel => exact ⟨j + 1, by omega, by go_num, by rw [HY.out]; simp [likeP], HT.out⟩
            case measure => simp [RowKit.intOf]; omega
        · obtain rfl : j = 16 := by omega
          have d5 : decide (((16 : Nat) : Int) < 16) = false := by decide
          obtain rfl : B = z := HB.out.trans HZ.out.symm
          have hl := hlk q.w q.h
          have HQ : Hid (Below S.heap.size S q.w) := bel_up HXS.out q.h HXS.out.size
          clear hlk hbX HRK HTK HB
          go_wp2_with fail
          refine hl.mono ?_
          rintro e V ⟨rfl, qV⟩
          have HV : Hid (Below S.heap.size S V) := bel_up HQ.out qV HQ.out.size
          clear hl qV w0 w1 w2 w3
          go_wp2_with fail
          go_roundw
          case rel => exact ⟨k + 1, by omega, by go_num, HV.out⟩
          case measure => simp [RowKit.intOf]; omega
    · obtain rfl : k = 2 := by omega
      have d4 : decide (((2 : Nat) : Int) < 2) = false := by decide
      go_wp2_with fail
      go_ret
      exact ⟨rfl, bel_up HWS2.out hw HWS2.out.size⟩
end Go.Proofs.Ytphhfjfdanlhiaa
