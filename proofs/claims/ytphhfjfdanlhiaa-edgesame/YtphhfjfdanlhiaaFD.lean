/- What Do makes of a route. -/
import Derived.Test.YtphhfjfdanlhiaaFC
namespace Go.Proofs.Ytphhfjfdanlhiaa
open Go.RowKit Go.Lib

theorem cls_keep {W W' : World} {v : Value} {l : List ClD} (h : SliceAt W.heap.size 10 (ClAt W) v l) (k : Below W.heap.size W W') : SliceAt W'.heap.size 10 (ClAt W') v l :=
  h.mono k.size fun _ _ _ hb h => h.keep hb (cells_below k (Nat.le_refl _))
theorem drop_next {l : List ClD} {k : Nat} {c : ClD} (h : l[k]? = some c) : l.drop k = c :: l.drop (k + 1) := by
  obtain ⟨hk, rfl⟩ := List.getElem?_eq_some_iff.1 h
  rw [List.drop_eq_getElem_cons hk]
theorem pf_cells {U : World} {b : Nat} {x y : Value} {t : TypeId} (h : U.heap[b]? = some (.cells #[x, y] t (0, 0))) :
    (∀ p : BelOf U, p.w.cell? ⟨b, 0, none⟩ = some x) ∧ ∀ p : BelOf U, p.w.cell? ⟨b, 1, none⟩ = some y := by
  have l := (Array.getElem?_eq_some_iff.1 h).1
  obtain ⟨c0, c1⟩ := cells_two h
  exact ⟨bel_cell l c0, bel_cell l c1⟩
/-- The boxes of a call with a prefix and a route, and its answer's. -/
structure Bx (w : World) (a : Nat) (b : Int) (x : At) (U : World) (bp bx br : Nat) : Prop where
  bel : Below w.heap.size w U
  p : U.heap[bp]? = some (.cells #[.int .u32 a, .int .i64 b] 50 (0, 0))
  x : U.heap[bx]? = some (atB x)
  r : U.heap[br]? = some (atB At.zero)
  up : w.heap.size ≤ br
theorem bx_of (w : World) (a : Nat) (b : Int) (x : At) {U : World} (hU : U = ((w.alloc (.cells #[.int .u32 a, .int .i64 b] 50)).alloc (atB x)).alloc (atB At.zero)) : Bx w a b x U w.heap.size (w.heap.size + 1) (w.heap.size + 1 + 1) := by
  subst hU
  refine ⟨bel_alloc3 _ _ _ _, ?_, ?_, ?_, by omega⟩
  · exact pf_block (bel_alloc (Below.refl _ _) _) (pf_block (bel_alloc (Below.refl _ _) _) (pf_new _ _ _ rfl))
  · exact pf_block (bel_alloc (Below.refl _ _) _) (pf_new _ _ _ (by simp))
  · exact pf_new _ _ _ (by simp)
set_option maxHeartbeats 8000000 in
set_option maxRecDepth 20000 in
theorem do_any {v : Value} {l : List ClD} (hl : ∀ c ∈ l, c.ok) (a : Nat) (b : Int) (ha : a < 4294967296) (x : At) (ht : 0 ≤ x.tags ∧ x.tags < 256) (w : World) (h : SliceAt w.heap.size 10 (ClAt w) v l) :
    Calls Try.prog 18 #[v, pfV a b, atV x] w fun e w' => e = .returned (atV (doP l a b x)) ∧ Below w.heap.size w w' := by
  obtain ⟨ad, cap, rfl, hn, hel⟩ := h
  obtain ⟨xo, xp, xc, xt⟩ := x
  obtain ⟨t, rfl⟩ : ∃ t : Nat, xt = t := ⟨xt.toNat, by have := ht.1; dsimp only at this; omega⟩
  dsimp only at ht
  have htn : t < 256 := by omega
  obtain ⟨U, hU⟩ : ∃ U, U = ((w.alloc (.cells #[.int .u32 a, .int .i64 b] 50)).alloc (atB ⟨xo, xp, xc, t⟩)).alloc (atB At.zero) := ⟨_, rfl⟩
  have HB := bx_of w a b _ hU
  obtain ⟨bp, hbp⟩ : ∃ n, n = w.heap.size := ⟨_, rfl⟩
  obtain ⟨bx, hbx⟩ : ∃ n, n = w.heap.size + 1 := ⟨_, rfl⟩
  obtain ⟨br, hbr⟩ : ∃ n, n = w.heap.size + 1 + 1 := ⟨_, rfl⟩
  unfold atB At.zero at hU
  unfold atV pfV
  cases xo
  · have e1 : Hid (doP l a b ⟨false, xp, xc, t⟩ = At.zero) := rfl
    go_enter Try.func18, Try.ntmps18
    go_wp2_with fail
    refine bodyPost_ret (v := atV At.zero) (by unfold atV At.zero; simp [results, Try.results18, go_sem]) rfl ?_
    exact ⟨rfl, bel_alloc3 _ _ _ _⟩
  · have e1 : Hid (doP l a b ⟨true, xp, xc, t⟩ = doR a b ⟨true, xp, xc, t⟩ l) := rfl
    go_enter Try.func18, Try.ntmps18
    go_wp2_with fail
    rw [← hU, ← hbr, ← hbx, ← hbp]
    rw [← hbr, ← hbx, ← hbp] at HB
    clear hU hbp hbx hbr
    obtain ⟨P0, P1⟩ := pf_cells HB.p
    obtain ⟨X0, X1, X2, X3⟩ := at_cells HB.x
    obtain ⟨Y0, hY⟩ : ∃ y, y = doR a b ⟨true, xp, xc, t⟩ l := ⟨_, rfl⟩
    rw [← hY] at e1
    go_loopw [15] (fun i wr => ∃ k : Nat, k ≤ l.length ∧ i = .int .i64 k ∧ doR a b ⟨true, xp, xc, t⟩ (l.drop k) = Y0 ∧ Below U.heap.size U wr) (fun i _ => l.length - (RowKit.intOf i).toNat)
    case atStart => exact ⟨0, Nat.zero_le _, rfl, by rw [hY]; rfl, Below.refl _ _⟩
    case round =>
      obtain ⟨k, hk, rfl, hd, hw⟩ := hrel
      obtain ⟨p, rfl⟩ : ∃ p : BelOf U, wr = p.w := ⟨⟨wr, hw⟩, rfl⟩
      clear hw hY
      by_cases hlt : k < l.length
      · have d4 : decide ((k : Int) < l.length) = true := decide_eq_true (by omega)
        obtain ⟨c, hc⟩ : ∃ c, l[k]? = some c := ⟨l[k], List.getElem?_eq_getElem hlt⟩
        obtain ⟨bc, off, rfl, hbw, hat⟩ := hel k c hc
        have hwp := bel_up HB.bel p.h HB.bel.size
        obtain ⟨c0, c1, c2, c3, c4, c5, c6, c7, c8, c9⟩ := hat.keep hbw (cells_below hwp (Nat.le_refl _))
        have hco := hl c (List.mem_of_getElem? hc)
        have hma := matches_any c hco a b ha t htn
        have hbe := behind_any c hco ⟨true, xp, xc, t⟩ rfl ht
        rw [drop_next hc, doR] at hd
        obtain ⟨y, hy⟩ : ∃ y, y = matP c a b (At.tags ⟨true, xp, xc, t⟩).toNat := ⟨_, rfl⟩
        have hy2 : matP c a b t = y := hy.symm
        rw [hy2] at hma
        rw [← hy] at hd
        obtain ⟨z, hz⟩ : ∃ z, z = oneP c ⟨true, xp, xc, t⟩ := ⟨_, rfl⟩
        rw [← hz] at hbe hd
        obtain ⟨V, hV⟩ : ∃ V, V = p.w.alloc (clB c) := ⟨_, rfl⟩
        have hpV : Below p.w.heap.size p.w V := by rw [hV]; exact bel_alloc (Below.refl _ _) _
        have htV : V.heap[p.w.heap.size]? = some (clB c) := by rw [hV]; exact pf_new _ _ _ rfl
        obtain ⟨q, rfl⟩ : ∃ q : BelOf U, V = q.w := ⟨⟨V, bel_up p.h hpV p.h.size⟩, rfl⟩
        have p0 := P0 q
        have p1 := P1 q
        have x3 := X3 q
        rw [hV] at p0 p1 x3
        unfold clB at hV p0 p1 x3
        unfold clV pfV at hma
        unfold clV atV at hbe
        dsimp only at hbe
        have HD : Hid ((if y = true then z else doR a b ⟨true, xp, xc, t⟩ (l.drop (k + 1))) = Y0) := hd
        clear hy hy2 hz hel hc hat hco hd hwp hpV hbw
        go_wp2_with fail
        rw [← hV]
        refine (hma _).mono ?_
        rintro e W ⟨rfl, q1⟩
        have htW := pf_block q1 htV
        obtain ⟨bt, hbt⟩ : ∃ bt, bt = p.w.heap.size := ⟨_, rfl⟩
        rw [← hbt] at htW ⊢
        obtain ⟨r, rfl⟩ : ∃ r : BelOf U, W = r.w := ⟨⟨W, bel_up q.h q1 q.h.size⟩, rfl⟩
        have hr := r.h
        obtain ⟨g0, g1, g2, g3, g4, g5, g6, g7, g8, g9⟩ := cl_cell htW
        obtain ⟨y0, y1, y2, y3⟩ : r.w.cell? ⟨bx, 0, none⟩ = some (.bool true) ∧ r.w.cell? ⟨bx, 1, none⟩ = some (.int .i64 xp) ∧ r.w.cell? ⟨bx, 2, none⟩ = some (.int .i64 xc) ∧ r.w.cell? ⟨bx, 3, none⟩ = some (.int .u8 t) := ⟨X0 r, X1 r, X2 r, X3 r⟩
        clear hV p0 p1 x3 c0 c1 c2 c3 c4 c5 c6 c7 c8 c9 hma htV htW hbt q1
        cases y
        · have HN : Hid (doR a b ⟨true, xp, xc, t⟩ (l.drop (k + 1)) = Y0) := by have := HD.out; rw [if_neg (by decide)] at this; exact this
          go_wp2_with fail
          go_roundw
          case rel => exact ⟨k + 1, by omega, by go_num, HN.out, hr⟩
          case measure => simp [RowKit.intOf]; omega
        · have HN : Hid (z = Y0) := by have := HD.out; rw [if_pos rfl] at this; exact this
          go_wp2_with fail
          refine (hbe _).mono ?_
          rintro e W2 ⟨rfl, q2⟩
          have hU2 := bel_up hr q2 hr.size
          have hrW := pf_block hU2 HB.r
          have hwW := bel_up HB.bel hU2 HB.bel.size
          have hup := HB.up
          obtain ⟨f0, f1, f2, f3⟩ := at_free hrW
          obtain ⟨m0, m1, m2, m3⟩ := at_cell hrW
          clear hbe q2 hU2
          go_wp2_with fail
          have hr2 := put4_at hrW z
          have hw2 := put4_below hwW hup z
          unfold put4 at hr2 hw2
          obtain ⟨W0, W1, W3, W4⟩ := at_cell hr2
          rw [e1.out, ← HN.out]
          refine bodyPost_ret (v := atV z) (by unfold atV; simp [results, Try.results18, go_sem, W0, W1, W3, W4]) rfl ?_
          exact ⟨rfl, hw2⟩
      · obtain rfl : k = l.length := by omega
        have d4 : decide (((l.length : Nat) : Int) < l.length) = false := decide_eq_false (by omega)
        rw [List.drop_length] at hd
        have HN : Hid (⟨true, xp, xc, t⟩ = Y0) := hd
        obtain ⟨y0, y1, y2, y3⟩ : p.w.cell? ⟨bx, 0, none⟩ = some (.bool true) ∧ p.w.cell? ⟨bx, 1, none⟩ = some (.int .i64 xp) ∧ p.w.cell? ⟨bx, 2, none⟩ = some (.int .i64 xc) ∧ p.w.cell? ⟨bx, 3, none⟩ = some (.int .u8 t) := ⟨X0 p, X1 p, X2 p, X3 p⟩
        have hrW := pf_block p.h HB.r
        have hwW := bel_up HB.bel p.h HB.bel.size
        have hup := HB.up
        obtain ⟨f0, f1, f2, f3⟩ := at_free hrW
        obtain ⟨m0, m1, m2, m3⟩ := at_cell hrW
        clear hel hd
        go_wp2_with fail
        have hr2 := put4_at hrW ⟨true, xp, xc, t⟩
        have hw2 := put4_below hwW hup ⟨true, xp, xc, t⟩
        unfold put4 at hr2 hw2
        obtain ⟨W0, W1, W3, W4⟩ := at_cell hr2
        rw [e1.out, ← HN.out]
        refine bodyPost_ret (v := atV ⟨true, xp, xc, t⟩) (by unfold atV; simp [results, Try.results18, go_sem, W0, W1, W3, W4]) rfl ?_
        exact ⟨rfl, hw2⟩
end Go.Proofs.Ytphhfjfdanlhiaa
