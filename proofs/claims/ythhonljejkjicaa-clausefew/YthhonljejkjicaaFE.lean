/- What the law's own do makes of a route. -/
import Derived.Test.YthhonljejkjicaaFD
import Derived.Deep.CutRange
import Derived.Deep.DeepCutAuto
namespace Go.Proofs.Ythhonljejkjicaa
open Go.RowKit Go.Lib

theorem do_end {f : Func} {R : Ending → World → Prop} {a : Act} {W : World} {br : Nat} {y : At} {o : Bool} {p c t : Int} (h : W.heap[br]? = some (atB y))
    (hr : ∀ V : World, V.cell? ⟨br, 0, none⟩ = some (.bool o) → V.cell? ⟨br, 1, none⟩ = some (.int .i64 p) → V.cell? ⟨br, 2, none⟩ = some (.int .i64 c) → V.cell? ⟨br, 3, none⟩ = some (.int .u8 t) → (results f a.tmps).run Try.prog V = .ok (.agg #[.bool o, .int .i64 p, .int .i64 c, .int .u8 t]) V)
    (hd : a.defers = [])
    (hR : R (.returned (.agg #[.bool o, .int .i64 p, .int .i64 c, .int .u8 t])) ((((W.setCell ⟨br, 0, none⟩ (.bool o)).setCell ⟨br, 1, none⟩ (.int .i64 p)).setCell ⟨br, 2, none⟩ (.int .i64 c)).setCell ⟨br, 3, none⟩ (.int .u8 t))) :
    bodyPost Try.prog f R .ret a ((((W.setCell ⟨br, 0, none⟩ (.bool o)).setCell ⟨br, 1, none⟩ (.int .i64 p)).setCell ⟨br, 2, none⟩ (.int .i64 c)).setCell ⟨br, 3, none⟩ (.int .u8 t)) := by
  obtain ⟨W0, W1, W2, W3⟩ := at_cell (put4_at h ⟨o, p, c, t⟩)
  exact bodyPost_ret (hr _ W0 W1 W2 W3) hd hR
theorem end_below {w W : World} {B br : Nat} (h : Below B w W) (hb : B ≤ br) (x y z u : Value) : Below B w ((((W.setCell ⟨br, 0, none⟩ x).setCell ⟨br, 1, none⟩ y).setCell ⟨br, 2, none⟩ z).setCell ⟨br, 3, none⟩ u) :=
  (((h.setCell hb _).setCell hb _).setCell hb _).setCell hb _
theorem xor_fin : ∀ n : Fin 256, 255 ^^^ n.val = 255 - n.val := by decide +kernel
theorem lwith_int {t wi : Nat} (ht : t < 256) (hwi : wi < 256) : (bits BinOp.and IntKind.u8 (bits BinOp.xor IntKind.u8 IntKind.u8.max (t : Int)) (wi : Int) != 0) = !decide (wi &&& t = wi) := by
  have h1 : bits BinOp.xor IntKind.u8 IntKind.u8.max (t : Int) = ((255 - t : Nat) : Int) := by
    rw [show IntKind.u8.max = ((255 : Nat) : Int) from rfl, u8_xor_nat 255 t (by decide) ht]
    exact congrArg _ (xor_fin ⟨t, ht⟩)
  rw [h1, u8_and_nat _ wi (by omega) hwi, Nat.and_comm, Bool.eq_iff_iff]
  have := with_bits hwi ht
  rw [bne_iff_ne, Bool.not_eq_true', decide_eq_false_iff_not, ← this]
  omega
theorem lout_int {t ou : Nat} (ht : t < 256) (hou : ou < 256) : (bits BinOp.and IntKind.u8 (t : Int) (ou : Int) != 0) = !decide (ou &&& t = 0) := by
  rw [u8_and_nat t ou ht hou, Nat.and_comm, Bool.eq_iff_iff, bne_iff_ne, Bool.not_eq_true', decide_eq_false_iff_not]
  omega
theorem ltags_int {t se cl : Nat} (ht : t < 256) (hse : se < 256) (hcl : cl < 256) : bits BinOp.and IntKind.u8 (bits BinOp.and IntKind.u8 (bits BinOp.or IntKind.u8 (t : Int) (se : Int)) (bits BinOp.xor IntKind.u8 IntKind.u8.max (cl : Int))) 15 = ((((t ||| se) &&& (255 - cl)) &&& 15 : Nat) : Int) := by
  have h0 : bits BinOp.xor IntKind.u8 IntKind.u8.max (cl : Int) = ((255 - cl : Nat) : Int) := by
    rw [show IntKind.u8.max = ((255 : Nat) : Int) from rfl, u8_xor_nat 255 cl (by decide) hcl]
    exact congrArg _ (xor_fin ⟨cl, hcl⟩)
  have h1 : t ||| se < 256 := Nat.or_lt_two_pow (n := 8) ht hse
  have h2 : (t ||| se) &&& (255 - cl) < 256 := Nat.lt_of_le_of_lt Nat.and_le_left h1
  rw [h0, u8_or_nat t se ht hse, u8_and_nat _ _ h1 (by omega), show (15 : Int) = ((15 : Nat) : Int) from rfl, u8_and_nat _ 15 h2 (by decide)]
set_option maxHeartbeats 8000000 in
set_option maxRecDepth 20000 in
theorem ldo_any {v : Value} {l : List ClD} (hl : ∀ c ∈ l, c.ok) (a : Nat) (b : Int) (ha : a < 4294967296) (x : At) (ht : 0 ≤ x.tags ∧ x.tags < 256) (hco : -9223372036854775808 ≤ x.cost ∧ x.cost ≤ 9223372036854775807) (w : World) (h : SliceAt w.heap.size 10 (ClAt w) v l) :
    Calls Try.prog 13 #[v, pfV a b, atV x] w fun e w' => e = .returned (atV (doP l a b x)) ∧ Below w.heap.size w w' := by
  obtain ⟨ad, cap, rfl, hn, hel⟩ := h
  obtain ⟨xo, xp, xc, xt⟩ := x
  obtain ⟨t, rfl⟩ : ∃ t : Nat, xt = t := ⟨xt.toNat, by have := ht.1; dsimp only at this; omega⟩
  dsimp only at ht hco
  have HCO : Hid (-9223372036854775808 ≤ xc ∧ xc ≤ 9223372036854775807) := hco
  clear hco
  have htn : t < 256 := by omega
  obtain ⟨U, hU⟩ : ∃ U, U = ((w.alloc (.cells #[.int .u32 a, .int .i64 b] 28)).alloc (atB ⟨xo, xp, xc, t⟩)).alloc (atB At.zero) := ⟨_, rfl⟩
  have HB := bx_of w a b _ hU
  obtain ⟨bp, hbp⟩ : ∃ n, n = w.heap.size := ⟨_, rfl⟩
  obtain ⟨bx, hbx⟩ : ∃ n, n = w.heap.size + 1 := ⟨_, rfl⟩
  obtain ⟨br, hbr⟩ : ∃ n, n = w.heap.size + 1 + 1 := ⟨_, rfl⟩
  unfold atB At.zero at hU
  unfold atV pfV
  cases xo
  · have e1 : Hid (doP l a b ⟨false, xp, xc, t⟩ = At.zero) := rfl
    go_enter Try.func13, Try.ntmps13
    go_wp2_with fail
    refine bodyPost_ret (v := atV At.zero) (by unfold atV At.zero; simp [results, Try.results13, go_sem]) rfl ?_
    exact ⟨rfl, bel_alloc3 _ _ _ _⟩
  · have e1 : Hid (doP l a b ⟨true, xp, xc, t⟩ = doR a b ⟨true, xp, xc, t⟩ l) := rfl
    go_enter Try.func13, Try.ntmps13
    go_wp2_with fail
    rw [← hU, ← hbr, ← hbx, ← hbp]
    rw [← hbr, ← hbx, ← hbp] at HB
    clear hU hbp hbx hbr
    obtain ⟨P0, P1⟩ := pf_cells HB.p
    obtain ⟨X0, X1, X2, X3⟩ := at_cells HB.x
    obtain ⟨Y0, hY⟩ : ∃ y, y = doR a b ⟨true, xp, xc, t⟩ l := ⟨_, rfl⟩
    rw [← hY] at e1
    go_loopw [16] (fun i wr => ∃ k : Nat, k ≤ l.length ∧ i = .int .i64 k ∧ doR a b ⟨true, xp, xc, t⟩ (l.drop k) = Y0 ∧ Below U.heap.size U wr) (fun i _ => l.length - (RowKit.intOf i).toNat)
    case atStart => exact ⟨0, Nat.zero_le _, rfl, by rw [hY]; rfl, Below.refl _ _⟩
    case round =>
      obtain ⟨k, hk, rfl, hd, hw⟩ := hrel
      obtain ⟨p, rfl⟩ : ∃ p : BelOf U, wr = p.w := ⟨⟨wr, hw⟩, rfl⟩
      clear hw hY
      by_cases hlt : k < l.length
      · have d4 : decide ((k : Int) < l.length) = true := decide_eq_true (by omega)
        obtain ⟨c, hc⟩ : ∃ c, l[k]? = some c := ⟨l[k], List.getElem?_eq_getElem hlt⟩
        obtain ⟨bc, off, rfl, hbw, hat⟩ := hel k c hc
        have hwp := bel_up HB.bel p.h HB.bel.size
        obtain ⟨c0, c1, c2, c3, c4, c5, c6, c7, c8, c9⟩ := hat.keep hbw (cells_below hwp (Nat.le_refl _))
        have hco := hl c (List.mem_of_getElem? hc)
        have hcv := covers_any c.a a c.b b hco.a ha
        rw [drop_next hc, doR] at hd
        obtain ⟨x, hx⟩ : ∃ x, x = decide (c.wi &&& t = c.wi) := ⟨_, rfl⟩
        obtain ⟨y, hy⟩ : ∃ y, y = decide (c.ou &&& t = 0) := ⟨_, rfl⟩
        obtain ⟨f, hf⟩ : ∃ f, f = covP c.a c.b a b := ⟨_, rfl⟩
        have e3 := lwith_int htn hco.wi
        have e4 := lout_int htn hco.ou
        have HTG : Hid (bits BinOp.and IntKind.u8 (bits BinOp.and IntKind.u8 (bits BinOp.or IntKind.u8 (t : Int) (c.se : Int)) (bits BinOp.xor IntKind.u8 IntKind.u8.max (c.cl : Int))) 15 = ((((t ||| c.se) &&& (255 - c.cl)) &&& 15 : Nat) : Int)) := ltags_int htn hco.se hco.cl
        have hmat : matP c a b (At.tags ⟨true, xp, xc, t⟩).toNat = ((c.any || f) && (x && y)) := by
          show matP c a b t = _
          unfold matP forC tagP
          rw [hx, hy, hf]
        rw [← hx] at e3
        rw [← hy] at e4
        rw [← hf] at hcv
        rw [hmat] at hd
        obtain ⟨V, hV⟩ : ∃ V, V = p.w.alloc (clB c) := ⟨_, rfl⟩
        have hpV : Below p.w.heap.size p.w V := by rw [hV]; exact bel_alloc (Below.refl _ _) _
        have htV : V.heap[p.w.heap.size]? = some (clB c) := by rw [hV]; exact pf_new _ _ _ rfl
        obtain ⟨q, rfl⟩ : ∃ q : BelOf U, V = q.w := ⟨⟨V, bel_up p.h hpV p.h.size⟩, rfl⟩
        have HUP : Hid (w.heap.size ≤ br) := HB.up
        have p0 := P0 q
        have p1 := P1 q
        have p2 := X3 q
        rw [hV] at p0 p1 p2
        unfold clB at hV p0 p1 p2
        unfold pfV at hcv
        have HD : Hid ((if ((c.any || f) && (x && y)) = true then oneP c ⟨true, xp, xc, t⟩ else doR a b ⟨true, xp, xc, t⟩ (l.drop (k + 1))) = Y0) := hd
        clear hel hc hat hco hd hwp hpV hbw hx hy hf hmat
        cases hany : c.any
        · rw [hany] at c0 hV p0 p1 p2
          go_wp2_with fail
          rw [← hV]
          refine (hcv _).mono ?_
          rintro e W ⟨rfl, q1⟩
          have htW := pf_block q1 htV
          obtain ⟨bt, hbt⟩ : ∃ bt, bt = p.w.heap.size := ⟨_, rfl⟩
          rw [← hbt] at htW ⊢
          obtain ⟨r, rfl⟩ : ∃ r : BelOf U, W = r.w := ⟨⟨W, bel_up q.h q1 q.h.size⟩, rfl⟩
          have HR : Hid (Below U.heap.size U r.w) := r.h
          obtain ⟨g0, g1, g2, g3, g4, g5, g6, g7, g8, g9⟩ := cl_cell htW
          have lt := (Array.getElem?_eq_some_iff.1 htW).1
          have HTW : Hid (r.w.heap[bt]? = some (clB c)) := htW
          have HRW : Hid (r.w.heap[br]? = some (atB At.zero)) := pf_block r.h HB.r
          have lr := (Array.getElem?_eq_some_iff.1 HRW.out).1
          have lx := (Array.getElem?_eq_some_iff.1 (pf_block r.h HB.x)).1
          have HWW : Hid (Below w.heap.size w r.w) := bel_up HB.bel r.h HB.bel.size
          obtain ⟨f0, f1, f2, f3⟩ := at_free HRW.out
          obtain ⟨m0, m1, m2, m3⟩ := at_cell HRW.out
          obtain ⟨y0, y1, y2, y3⟩ : r.w.cell? ⟨bx, 0, none⟩ = some (.bool true) ∧ r.w.cell? ⟨bx, 1, none⟩ = some (.int .i64 xp) ∧ r.w.cell? ⟨bx, 2, none⟩ = some (.int .i64 xc) ∧ r.w.cell? ⟨bx, 3, none⟩ = some (.int .u8 t) := ⟨X0 r, X1 r, X2 r, X3 r⟩
          clear hV p0 p1 p2 c0 c1 c2 c3 c4 c5 c6 c7 c8 c9 hcv htV htW hbt q1
          cases f
          · have HN : Hid (doR a b ⟨true, xp, xc, t⟩ (l.drop (k + 1)) = Y0) := by have := HD.out; rw [hany, if_neg (by simp)] at this; exact this
            go_wp2_with fail
            go_roundw
            case rel => exact ⟨k + 1, by omega, by go_num, HN.out, HR.out⟩
            case measure => simp [RowKit.intOf]; omega
          · have HNo : Hid ((x && y) = false → doR a b ⟨true, xp, xc, t⟩ (l.drop (k + 1)) = Y0) := fun h => by have := HD.out; rw [hany, if_neg (by rw [h]; decide)] at this; exact this
            have HYes : Hid ((x && y) = true → oneP c ⟨true, xp, xc, t⟩ = Y0) := fun h => by have := HD.out; rw [hany, if_pos (by rw [h]; decide)] at this; exact this
            clear hany
            cases x <;> cases y <;> simp only [Bool.not_false, Bool.not_true, bne_iff_ne, ne_eq, bne_eq_false_iff_eq] at e3 e4
            · have HN : Hid (doR a b ⟨true, xp, xc, t⟩ (l.drop (k + 1)) = Y0) := HNo.out (by simp)
              go_wp2_with fail
              go_roundw
              case rel => exact ⟨k + 1, by omega, by go_num, HN.out, HR.out⟩
              case measure => simp [RowKit.intOf]; omega
            · have HN : Hid (doR a b ⟨true, xp, xc, t⟩ (l.drop (k + 1)) = Y0) := HNo.out (by simp)
              go_wp2_with fail
              go_roundw
              case rel => exact ⟨k + 1, by omega, by go_num, HN.out, HR.out⟩
              case measure => simp [RowKit.intOf]; omega
            · have HN : Hid (doR a b ⟨true, xp, xc, t⟩ (l.drop (k + 1)) = Y0) := HNo.out (by simp)
              go_wp2_with fail
              go_roundw
              case rel => exact ⟨k + 1, by omega, by go_num, HN.out, HR.out⟩
              case measure => simp [RowKit.intOf]; omega
            · have HN : Hid (oneP c ⟨true, xp, xc, t⟩ = Y0) := HYes.out rfl
              have e5 := HTG.out
              cases hdr : c.drop
              · have HV : Hid (∀ (p m : Int), p = (if 1 ≤ c.pref ∧ c.pref ≤ 255 then c.pref else xp) → m = wrap64 (xc + (if c.more < 0 then 0 else if 15 < c.more then 15 else c.more)) → (.agg #[.bool true, .int .i64 p, .int .i64 m, .int .u8 (((t ||| c.se) &&& (255 - c.cl) &&& 15 : Nat) : Int)] : Value) = atV Y0) := by
                  rintro p m rfl rfl
                  rw [← HN.out]
                  unfold atV oneP tagsP sumI moreP
                  rw [if_neg (show ¬ c.drop = true by rw [hdr]; decide)]
                  simp only [wrap64, IntKind.wrap_i64]
                  simp
                rw [hdr] at g5
                clear X0 X1 X2 X3 P0 P1 HNo HYes HD
                go_upto_if 67 with fail
                clear e3 e4
                obtain ⟨T, hT⟩ : ∃ T : Nat, T = (t ||| c.se) &&& (255 - c.cl) &&& 15 := ⟨_, rfl⟩
                rw [← hT] at HV ⊢
                obtain ⟨bn, hbn⟩ : ∃ bn, bn = r.w.heap.size := ⟨_, rfl⟩
                obtain ⟨N, hN⟩ : ∃ N, N = r.w.alloc (.cells #[.bool true, .int .i64 xp, .int .i64 xc, .int .u8 T] 24) := ⟨_, rfl⟩
                have hNw : Below r.w.heap.size r.w N := by rw [hN]; exact bel_alloc (Below.refl _ _) _
                have hNb : N.heap[bn]? = some (atB ⟨true, xp, xc, T⟩) := by rw [hN]; exact pf_new _ _ _ hbn
                rw [← hN, ← hbn]
                obtain ⟨M, hM⟩ : ∃ M : Int, M = wrap64 (xc + (if c.more < 0 then 0 else if 15 < c.more then 15 else c.more)) := ⟨_, rfl⟩
                have HMM : Hid (M = wrap64 (xc + (if c.more < 0 then 0 else if 15 < c.more then 15 else c.more))) := hM
                have HNE : Hid (r.w.heap.size ≤ bn ∧ br ≠ bn) := ⟨Nat.le_of_eq hbn.symm, by omega⟩
                clear hN hbn hM hT e5 lt lr lx f0 f1 f2 f3 m0 m1 m2 m3 y0 y1 y2 y3 g0 g1 g2 g3 g4 g5 g6 g7 g8 g9
                go_cut [] (fun wx => Hid (wx.heap[bn]? = some (atB ⟨true, xp, M, T⟩) ∧ Below r.w.heap.size r.w wx))
                case first =>
                  obtain ⟨_, _, _, _, _, _, _, _, g8, _⟩ := cl_cell (pf_block hNw HTW.out)
                  obtain ⟨n0, n1, n2, n3⟩ := at_cell hNb
                  obtain ⟨_, _, f2, _⟩ := at_free hNb
                  have hset := fun z => set_at (i := 2) hNb (.int .i64 z)
                  have HS : Hid (∀ z, Below r.w.heap.size r.w (N.setCell ⟨bn, 2, none⟩ (.int .i64 z))) := fun z => hNw.setCell HNE.out.1 _
                  have HS0 : Hid (Below r.w.heap.size r.w N) := hNw
                  have HB0 : Hid (N.heap[bn]? = some (atB ⟨true, xp, xc, T⟩)) := hNb
                  have HSE : Hid (∀ z, z = M → (N.setCell ⟨bn, 2, none⟩ (.int .i64 z)).heap[bn]? = some (atB ⟨true, xp, M, T⟩)) := fun z hz => by rw [← hz]; exact hset z
                  clear hset hNw hNb
                  by_cases h1 : 15 < c.more
                  · have d6 : decide (15 < c.more) = true := decide_eq_true h1
                    go_wp2_with fail
                    go_meet
                    case rel => exact ⟨HSE.out _ (by rw [HMM.out, if_neg (by omega), if_pos (show 15 < c.more by omega)]), HS.out _⟩
                  · have d6 : decide (15 < c.more) = false := decide_eq_false h1
                    by_cases h2 : 0 < c.more
                    · have d7 : decide (0 < c.more) = true := decide_eq_true h2
                      go_wp2_with fail
                      go_meet
                      case rel => exact ⟨HSE.out _ (by rw [HMM.out, if_neg (by omega), if_neg (show ¬ 15 < c.more by omega)]), HS.out _⟩
                    · have d7 : decide (0 < c.more) = false := decide_eq_false h2
                      go_wp2_with fail
                      go_meet
                      case rel =>
                        refine ⟨?_, HS0.out⟩
                        rw [HB0.out, HMM.out, show (if c.more < 0 then 0 else if 15 < c.more then 15 else c.more) = (0 : Int) by split <;> (try split) <;> omega, show wrap64 (xc + 0) = xc by have := HCO.out; simp only [wrap64]; omega]
                case rest =>
                  clear hNw hNb
                  have hcb := hcut.out.1
                  have hcw := hcut.out.2
                  obtain ⟨_, _, _, _, _, _, _, _, _, g9⟩ := cl_cell (pf_block hcw HTW.out)
                  obtain ⟨n0, n1, n2, n3⟩ := at_cell hcb
                  obtain ⟨_, f1, _, _⟩ := at_free hcb
                  have hrw := pf_block hcw HRW.out
                  obtain ⟨r0, r1, r2, r3⟩ := at_free hrw
                  obtain ⟨m0, m1, m2, m3⟩ := at_cell hrw
                  have HRW2 : Hid (wc.heap[br]? = some (atB At.zero)) := hrw
                  have HCB : Hid (wc.heap[bn]? = some (atB ⟨true, xp, M, T⟩)) := hcb
                  have HWW2 : Hid (Below w.heap.size w wc) := bel_up HWW.out hcw HWW.out.size
                  have HUPn : Hid (w.heap.size ≤ bn) := Nat.le_trans HWW.out.size HNE.out.1
                  clear hcut hcb hcw hrw
                  by_cases h1 : 1 ≤ c.pref ∧ c.pref ≤ 255
                  · have d8 : decide (1 ≤ c.pref) = true := decide_eq_true h1.1
                    have d9 : decide (c.pref ≤ 255) = true := decide_eq_true h1.2
                    have HP : Hid (c.pref = if 1 ≤ c.pref ∧ c.pref ≤ 255 then c.pref else xp) := (if_pos h1).symm
                    have b1 := set_at (i := 1) HCB.out (.int .i64 c.pref)
                    have r1' := set_off (i := 1) HRW2.out HNE.out.2 (.int .i64 c.pref)
                    obtain ⟨n0', n1', n2', n3'⟩ := at_cell (a := ⟨true, c.pref, M, T⟩) b1
                    obtain ⟨r0', r1'', r2', r3'⟩ := at_free r1'
                    obtain ⟨m0', m1', m2', m3'⟩ := at_cell r1'
                    have HRW3 : Hid ((wc.setCell ⟨bn, 1, none⟩ (.int .i64 c.pref)).heap[br]? = some (atB At.zero)) := r1'
                    clear h1 b1 r1'
                    go_wp2_with fail
                    refine do_end HRW3.out ?_ ?_ ?_
                    · intro V W0 W1 W2 W3
                      simp [results, Try.results13, go_sem, W0, W1, W2, W3]
                    · rfl
                    refine ⟨?_, end_below (HWW2.out.setCell HUPn.out _) HUP.out _ _ _ _⟩
                    rw [e1.out]
                    exact congrArg _ (HV.out _ _ HP.out HMM.out)
                  · have HP : Hid (xp = if 1 ≤ c.pref ∧ c.pref ≤ 255 then c.pref else xp) := (if_neg h1).symm
                    have hd8 : decide (1 ≤ c.pref) = false ∨ (decide (1 ≤ c.pref) = true ∧ decide (c.pref ≤ 255) = false) := by
                      by_cases h2 : 1 ≤ c.pref
                      · exact .inr ⟨decide_eq_true h2, decide_eq_false (by omega)⟩
                      · exact .inl (decide_eq_false h2)
                    clear h1
                    rcases hd8 with d8 | ⟨d8, d9⟩
                    all_goals
                      go_wp2_with fail
                      refine do_end HRW2.out ?_ ?_ ?_
                      · intro V W0 W1 W2 W3
                        simp [results, Try.results13, go_sem, W0, W1, W2, W3]
                      · rfl
                      refine ⟨?_, end_below HWW2.out HUP.out _ _ _ _⟩
                      rw [e1.out]
                      exact congrArg _ (HV.out _ _ HP.out HMM.out)
              · have HZ : Hid (At.zero = Y0) := by
                  have := HN.out
                  unfold oneP at this
                  rw [if_pos hdr] at this
                  exact this
                rw [hdr] at g5
                go_wp2_with fail
                refine do_end HRW.out ?_ ?_ ?_
                · intro V W0 W1 W2 W3
                  simp [results, Try.results13, go_sem, W0, W1, W2, W3]
                · rfl
                exact ⟨by rw [e1.out, ← HZ.out]; rfl, end_below HWW.out HUP.out _ _ _ _⟩
        · have HNo : Hid ((x && y) = false → doR a b ⟨true, xp, xc, t⟩ (l.drop (k + 1)) = Y0) := fun h => by have := HD.out; rw [hany, if_neg (by rw [h]; simp)] at this; exact this
          have HYes : Hid ((x && y) = true → oneP c ⟨true, xp, xc, t⟩ = Y0) := fun h => by have := HD.out; rw [hany, if_pos (by rw [h]; simp)] at this; exact this
          rw [hany] at c0 hV p0 p1 p2
          have HTV : Hid (q.w.heap[p.w.heap.size]? = some (clB c)) := htV
          clear htV hcv hany
          cases x <;> cases y <;> simp only [Bool.not_false, Bool.not_true, bne_iff_ne, ne_eq, bne_eq_false_iff_eq] at e3 e4
          · have HN : Hid (doR a b ⟨true, xp, xc, t⟩ (l.drop (k + 1)) = Y0) := HNo.out (by simp)
            go_upto_if 46 with fail
            rw [← hV]
            have htW := HTV.out
            obtain ⟨bt, hbt⟩ : ∃ bt, bt = p.w.heap.size := ⟨_, rfl⟩
            rw [← hbt] at htW ⊢
            obtain ⟨r, hrq⟩ : ∃ r : BelOf U, r = q := ⟨_, rfl⟩
            rw [← hrq] at htW ⊢
            have HR : Hid (Below U.heap.size U r.w) := r.h
            obtain ⟨g0, g1, g2, g3, g4, g5, g6, g7, g8, g9⟩ := cl_cell htW
            have lt := (Array.getElem?_eq_some_iff.1 htW).1
            have HTW : Hid (r.w.heap[bt]? = some (clB c)) := htW
            have HRW : Hid (r.w.heap[br]? = some (atB At.zero)) := pf_block r.h HB.r
            have lr := (Array.getElem?_eq_some_iff.1 HRW.out).1
            have lx := (Array.getElem?_eq_some_iff.1 (pf_block r.h HB.x)).1
            have HWW : Hid (Below w.heap.size w r.w) := bel_up HB.bel r.h HB.bel.size
            obtain ⟨f0, f1, f2, f3⟩ := at_free HRW.out
            obtain ⟨m0, m1, m2, m3⟩ := at_cell HRW.out
            obtain ⟨y0, y1, y2, y3⟩ : r.w.cell? ⟨bx, 0, none⟩ = some (.bool true) ∧ r.w.cell? ⟨bx, 1, none⟩ = some (.int .i64 xp) ∧ r.w.cell? ⟨bx, 2, none⟩ = some (.int .i64 xc) ∧ r.w.cell? ⟨bx, 3, none⟩ = some (.int .u8 t) := ⟨X0 r, X1 r, X2 r, X3 r⟩
            clear hV p0 p1 p2 c0 c1 c2 c3 c4 c5 c6 c7 c8 c9 htW hbt hrq HTV q
            go_wp2_with fail
            go_roundw
            case rel => exact ⟨k + 1, by omega, by go_num, HN.out, HR.out⟩
            case measure => simp [RowKit.intOf]; omega
          · have HN : Hid (doR a b ⟨true, xp, xc, t⟩ (l.drop (k + 1)) = Y0) := HNo.out (by simp)
            go_upto_if 46 with fail
            rw [← hV]
            have htW := HTV.out
            obtain ⟨bt, hbt⟩ : ∃ bt, bt = p.w.heap.size := ⟨_, rfl⟩
            rw [← hbt] at htW ⊢
            obtain ⟨r, hrq⟩ : ∃ r : BelOf U, r = q := ⟨_, rfl⟩
            rw [← hrq] at htW ⊢
            have HR : Hid (Below U.heap.size U r.w) := r.h
            obtain ⟨g0, g1, g2, g3, g4, g5, g6, g7, g8, g9⟩ := cl_cell htW
            have lt := (Array.getElem?_eq_some_iff.1 htW).1
            have HTW : Hid (r.w.heap[bt]? = some (clB c)) := htW
            have HRW : Hid (r.w.heap[br]? = some (atB At.zero)) := pf_block r.h HB.r
            have lr := (Array.getElem?_eq_some_iff.1 HRW.out).1
            have lx := (Array.getElem?_eq_some_iff.1 (pf_block r.h HB.x)).1
            have HWW : Hid (Below w.heap.size w r.w) := bel_up HB.bel r.h HB.bel.size
            obtain ⟨f0, f1, f2, f3⟩ := at_free HRW.out
            obtain ⟨m0, m1, m2, m3⟩ := at_cell HRW.out
            obtain ⟨y0, y1, y2, y3⟩ : r.w.cell? ⟨bx, 0, none⟩ = some (.bool true) ∧ r.w.cell? ⟨bx, 1, none⟩ = some (.int .i64 xp) ∧ r.w.cell? ⟨bx, 2, none⟩ = some (.int .i64 xc) ∧ r.w.cell? ⟨bx, 3, none⟩ = some (.int .u8 t) := ⟨X0 r, X1 r, X2 r, X3 r⟩
            clear hV p0 p1 p2 c0 c1 c2 c3 c4 c5 c6 c7 c8 c9 htW hbt hrq HTV q
            go_wp2_with fail
            go_roundw
            case rel => exact ⟨k + 1, by omega, by go_num, HN.out, HR.out⟩
            case measure => simp [RowKit.intOf]; omega
          · have HN : Hid (doR a b ⟨true, xp, xc, t⟩ (l.drop (k + 1)) = Y0) := HNo.out (by simp)
            go_upto_if 46 with fail
            rw [← hV]
            have htW := HTV.out
            obtain ⟨bt, hbt⟩ : ∃ bt, bt = p.w.heap.size := ⟨_, rfl⟩
            rw [← hbt] at htW ⊢
            obtain ⟨r, hrq⟩ : ∃ r : BelOf U, r = q := ⟨_, rfl⟩
            rw [← hrq] at htW ⊢
            have HR : Hid (Below U.heap.size U r.w) := r.h
            obtain ⟨g0, g1, g2, g3, g4, g5, g6, g7, g8, g9⟩ := cl_cell htW
            have lt := (Array.getElem?_eq_some_iff.1 htW).1
            have HTW : Hid (r.w.heap[bt]? = some (clB c)) := htW
            have HRW : Hid (r.w.heap[br]? = some (atB At.zero)) := pf_block r.h HB.r
            have lr := (Array.getElem?_eq_some_iff.1 HRW.out).1
            have lx := (Array.getElem?_eq_some_iff.1 (pf_block r.h HB.x)).1
            have HWW : Hid (Below w.heap.size w r.w) := bel_up HB.bel r.h HB.bel.size
            obtain ⟨f0, f1, f2, f3⟩ := at_free HRW.out
            obtain ⟨m0, m1, m2, m3⟩ := at_cell HRW.out
            obtain ⟨y0, y1, y2, y3⟩ : r.w.cell? ⟨bx, 0, none⟩ = some (.bool true) ∧ r.w.cell? ⟨bx, 1, none⟩ = some (.int .i64 xp) ∧ r.w.cell? ⟨bx, 2, none⟩ = some (.int .i64 xc) ∧ r.w.cell? ⟨bx, 3, none⟩ = some (.int .u8 t) := ⟨X0 r, X1 r, X2 r, X3 r⟩
            clear hV p0 p1 p2 c0 c1 c2 c3 c4 c5 c6 c7 c8 c9 htW hbt hrq HTV q
            go_wp2_with fail
            go_roundw
            case rel => exact ⟨k + 1, by omega, by go_num, HN.out, HR.out⟩
            case measure => simp [RowKit.intOf]; omega
          · have HN : Hid (oneP c ⟨true, xp, xc, t⟩ = Y0) := HYes.out rfl
            go_upto_if 46 with fail
            rw [← hV]
            have htW := HTV.out
            obtain ⟨bt, hbt⟩ : ∃ bt, bt = p.w.heap.size := ⟨_, rfl⟩
            rw [← hbt] at htW ⊢
            obtain ⟨r, hrq⟩ : ∃ r : BelOf U, r = q := ⟨_, rfl⟩
            rw [← hrq] at htW ⊢
            have HR : Hid (Below U.heap.size U r.w) := r.h
            obtain ⟨g0, g1, g2, g3, g4, g5, g6, g7, g8, g9⟩ := cl_cell htW
            have lt := (Array.getElem?_eq_some_iff.1 htW).1
            have HTW : Hid (r.w.heap[bt]? = some (clB c)) := htW
            have HRW : Hid (r.w.heap[br]? = some (atB At.zero)) := pf_block r.h HB.r
            have lr := (Array.getElem?_eq_some_iff.1 HRW.out).1
            have lx := (Array.getElem?_eq_some_iff.1 (pf_block r.h HB.x)).1
            have HWW : Hid (Below w.heap.size w r.w) := bel_up HB.bel r.h HB.bel.size
            obtain ⟨f0, f1, f2, f3⟩ := at_free HRW.out
            obtain ⟨m0, m1, m2, m3⟩ := at_cell HRW.out
            obtain ⟨y0, y1, y2, y3⟩ : r.w.cell? ⟨bx, 0, none⟩ = some (.bool true) ∧ r.w.cell? ⟨bx, 1, none⟩ = some (.int .i64 xp) ∧ r.w.cell? ⟨bx, 2, none⟩ = some (.int .i64 xc) ∧ r.w.cell? ⟨bx, 3, none⟩ = some (.int .u8 t) := ⟨X0 r, X1 r, X2 r, X3 r⟩
            clear hV p0 p1 p2 c0 c1 c2 c3 c4 c5 c6 c7 c8 c9 htW hbt hrq HTV q
            have e5 := HTG.out
            cases hdr : c.drop
            · have HV : Hid (∀ (p m : Int), p = (if 1 ≤ c.pref ∧ c.pref ≤ 255 then c.pref else xp) → m = wrap64 (xc + (if c.more < 0 then 0 else if 15 < c.more then 15 else c.more)) → (.agg #[.bool true, .int .i64 p, .int .i64 m, .int .u8 (((t ||| c.se) &&& (255 - c.cl) &&& 15 : Nat) : Int)] : Value) = atV Y0) := by
                rintro p m rfl rfl
                rw [← HN.out]
                unfold atV oneP tagsP sumI moreP
                rw [if_neg (show ¬ c.drop = true by rw [hdr]; decide)]
                simp only [wrap64, IntKind.wrap_i64]
                simp
              rw [hdr] at g5
              clear X0 X1 X2 X3 P0 P1 HNo HYes HD
              go_upto_if 67 with fail
              clear e3 e4
              obtain ⟨T, hT⟩ : ∃ T : Nat, T = (t ||| c.se) &&& (255 - c.cl) &&& 15 := ⟨_, rfl⟩
              rw [← hT] at HV ⊢
              obtain ⟨bn, hbn⟩ : ∃ bn, bn = r.w.heap.size := ⟨_, rfl⟩
              obtain ⟨N, hN⟩ : ∃ N, N = r.w.alloc (.cells #[.bool true, .int .i64 xp, .int .i64 xc, .int .u8 T] 24) := ⟨_, rfl⟩
              have hNw : Below r.w.heap.size r.w N := by rw [hN]; exact bel_alloc (Below.refl _ _) _
              have hNb : N.heap[bn]? = some (atB ⟨true, xp, xc, T⟩) := by rw [hN]; exact pf_new _ _ _ hbn
              rw [← hN, ← hbn]
              obtain ⟨M, hM⟩ : ∃ M : Int, M = wrap64 (xc + (if c.more < 0 then 0 else if 15 < c.more then 15 else c.more)) := ⟨_, rfl⟩
              have HMM : Hid (M = wrap64 (xc + (if c.more < 0 then 0 else if 15 < c.more then 15 else c.more))) := hM
              have HNE : Hid (r.w.heap.size ≤ bn ∧ br ≠ bn) := ⟨Nat.le_of_eq hbn.symm, by omega⟩
              clear hN hbn hM hT e5 lt lr lx f0 f1 f2 f3 m0 m1 m2 m3 y0 y1 y2 y3 g0 g1 g2 g3 g4 g5 g6 g7 g8 g9
              go_cut [] (fun wx => Hid (wx.heap[bn]? = some (atB ⟨true, xp, M, T⟩) ∧ Below r.w.heap.size r.w wx))
              case first =>
                obtain ⟨_, _, _, _, _, _, _, _, g8, _⟩ := cl_cell (pf_block hNw HTW.out)
                obtain ⟨n0, n1, n2, n3⟩ := at_cell hNb
                obtain ⟨_, _, f2, _⟩ := at_free hNb
                have hset := fun z => set_at (i := 2) hNb (.int .i64 z)
                have HS : Hid (∀ z, Below r.w.heap.size r.w (N.setCell ⟨bn, 2, none⟩ (.int .i64 z))) := fun z => hNw.setCell HNE.out.1 _
                have HS0 : Hid (Below r.w.heap.size r.w N) := hNw
                have HB0 : Hid (N.heap[bn]? = some (atB ⟨true, xp, xc, T⟩)) := hNb
                have HSE : Hid (∀ z, z = M → (N.setCell ⟨bn, 2, none⟩ (.int .i64 z)).heap[bn]? = some (atB ⟨true, xp, M, T⟩)) := fun z hz => by rw [← hz]; exact hset z
                clear hset hNw hNb
                by_cases h1 : 15 < c.more
                · have d6 : decide (15 < c.more) = true := decide_eq_true h1
                  go_wp2_with fail
                  go_meet
                  case rel => exact ⟨HSE.out _ (by rw [HMM.out, if_neg (by omega), if_pos (show 15 < c.more by omega)]), HS.out _⟩
                · have d6 : decide (15 < c.more) = false := decide_eq_false h1
                  by_cases h2 : 0 < c.more
                  · have d7 : decide (0 < c.more) = true := decide_eq_true h2
                    go_wp2_with fail
                    go_meet
                    case rel => exact ⟨HSE.out _ (by rw [HMM.out, if_neg (by omega), if_neg (show ¬ 15 < c.more by omega)]), HS.out _⟩
                  · have d7 : decide (0 < c.more) = false := decide_eq_false h2
                    go_wp2_with fail
                    go_meet
                    case rel =>
                      refine ⟨?_, HS0.out⟩
                      rw [HB0.out, HMM.out, show (if c.more < 0 then 0 else if 15 < c.more then 15 else c.more) = (0 : Int) by split <;> (try split) <;> omega, show wrap64 (xc + 0) = xc by have := HCO.out; simp only [wrap64]; omega]
              case rest =>
                clear hNw hNb
                have hcb := hcut.out.1
                have hcw := hcut.out.2
                obtain ⟨_, _, _, _, _, _, _, _, _, g9⟩ := cl_cell (pf_block hcw HTW.out)
                obtain ⟨n0, n1, n2, n3⟩ := at_cell hcb
                obtain ⟨_, f1, _, _⟩ := at_free hcb
                have hrw := pf_block hcw HRW.out
                obtain ⟨r0, r1, r2, r3⟩ := at_free hrw
                obtain ⟨m0, m1, m2, m3⟩ := at_cell hrw
                have HRW2 : Hid (wc.heap[br]? = some (atB At.zero)) := hrw
                have HCB : Hid (wc.heap[bn]? = some (atB ⟨true, xp, M, T⟩)) := hcb
                have HWW2 : Hid (Below w.heap.size w wc) := bel_up HWW.out hcw HWW.out.size
                have HUPn : Hid (w.heap.size ≤ bn) := Nat.le_trans HWW.out.size HNE.out.1
                clear hcut hcb hcw hrw
                by_cases h1 : 1 ≤ c.pref ∧ c.pref ≤ 255
                · have d8 : decide (1 ≤ c.pref) = true := decide_eq_true h1.1
                  have d9 : decide (c.pref ≤ 255) = true := decide_eq_true h1.2
                  have HP : Hid (c.pref = if 1 ≤ c.pref ∧ c.pref ≤ 255 then c.pref else xp) := (if_pos h1).symm
                  have b1 := set_at (i := 1) HCB.out (.int .i64 c.pref)
                  have r1' := set_off (i := 1) HRW2.out HNE.out.2 (.int .i64 c.pref)
                  obtain ⟨n0', n1', n2', n3'⟩ := at_cell (a := ⟨true, c.pref, M, T⟩) b1
                  obtain ⟨r0', r1'', r2', r3'⟩ := at_free r1'
                  obtain ⟨m0', m1', m2', m3'⟩ := at_cell r1'
                  have HRW3 : Hid ((wc.setCell ⟨bn, 1, none⟩ (.int .i64 c.pref)).heap[br]? = some (atB At.zero)) := r1'
                  clear h1 b1 r1'
                  go_wp2_with fail
                  refine do_end HRW3.out ?_ ?_ ?_
                  · intro V W0 W1 W2 W3
                    simp [results, Try.results13, go_sem, W0, W1, W2, W3]
                  · rfl
                  refine ⟨?_, end_below (HWW2.out.setCell HUPn.out _) HUP.out _ _ _ _⟩
                  rw [e1.out]
                  exact congrArg _ (HV.out _ _ HP.out HMM.out)
                · have HP : Hid (xp = if 1 ≤ c.pref ∧ c.pref ≤ 255 then c.pref else xp) := (if_neg h1).symm
                  have hd8 : decide (1 ≤ c.pref) = false ∨ (decide (1 ≤ c.pref) = true ∧ decide (c.pref ≤ 255) = false) := by
                    by_cases h2 : 1 ≤ c.pref
                    · exact .inr ⟨decide_eq_true h2, decide_eq_false (by omega)⟩
                    · exact .inl (decide_eq_false h2)
                  clear h1
                  rcases hd8 with d8 | ⟨d8, d9⟩
                  all_goals
                    go_wp2_with fail
                    refine do_end HRW2.out ?_ ?_ ?_
                    · intro V W0 W1 W2 W3
                      simp [results, Try.results13, go_sem, W0, W1, W2, W3]
                    · rfl
                    refine ⟨?_, end_below HWW2.out HUP.out _ _ _ _⟩
                    rw [e1.out]
                    exact congrArg _ (HV.out _ _ HP.out HMM.out)
            · have HZ : Hid (At.zero = Y0) := by
                have := HN.out
                unfold oneP at this
                rw [if_pos hdr] at this
                exact this
              rw [hdr] at g5
              go_wp2_with fail
              refine do_end HRW.out ?_ ?_ ?_
              · intro V W0 W1 W2 W3
                simp [results, Try.results13, go_sem, W0, W1, W2, W3]
              · rfl
              exact ⟨by rw [e1.out, ← HZ.out]; rfl, end_below HWW.out HUP.out _ _ _ _⟩
      · obtain rfl : k = l.length := by omega
        have d4 : decide (((l.length : Nat) : Int) < l.length) = false := decide_eq_false (by omega)
        rw [List.drop_length] at hd
        have HN : Hid (⟨true, xp, xc, t⟩ = Y0) := hd
        obtain ⟨y0, y1, y2, y3⟩ : p.w.cell? ⟨bx, 0, none⟩ = some (.bool true) ∧ p.w.cell? ⟨bx, 1, none⟩ = some (.int .i64 xp) ∧ p.w.cell? ⟨bx, 2, none⟩ = some (.int .i64 xc) ∧ p.w.cell? ⟨bx, 3, none⟩ = some (.int .u8 t) := ⟨X0 p, X1 p, X2 p, X3 p⟩
        have hrW := pf_block p.h HB.r
        have hwW := bel_up HB.bel p.h HB.bel.size
        have hup := HB.up
        obtain ⟨f0, f1, f2, f3⟩ := at_free hrW
        obtain ⟨m0, m1, m2, m3⟩ := at_cell hrW
        clear hel hd
        go_wp2_with fail
        refine do_end hrW ?_ ?_ ?_
        · intro V W0 W1 W2 W3
          simp [results, Try.results13, go_sem, W0, W1, W2, W3]
        · rfl
        exact ⟨by rw [e1.out, ← HN.out], end_below hwW hup _ _ _ _⟩
end Go.Proofs.Ythhonljejkjicaa
