/- ClauseDo: the walk. -/
import Derived.Test.YthhonljejkjicaaFG
import Derived.Test.YthhonljejkjicaaFE
import Derived.Test.YthhonljejkjicaaUP
namespace Go.Proofs.Ythhonljejkjicaa
open Go.RowKit Go.Lib

theorem clausesS_ok {rs : List RlD} (h : ∀ r ∈ rs, r.ok) : ∀ c ∈ clausesS rs, c.ok := fun c hc => by
  obtain ⟨r, hr, rfl⟩ := List.mem_map.1 hc
  exact ruleC_ok (h r (List.mem_of_mem_take hr))
theorem clausesS_len (rs : List RlD) : (clausesS rs).length ≤ 5 := by
  unfold clausesS
  rw [List.length_map, List.length_take]
  omega
theorem rls_keep {W W' : World} {B : Nat} {v : Value} {l : List RlD} (h : SliceAt B 6 (RlAt W) v l) (k : Below B W W') : SliceAt B 6 (RlAt W') v l :=
  h.mono (Nat.le_refl _) fun _ _ _ hb h => h.keep hb (cells_below k (Nat.le_refl _))
set_option maxHeartbeats 8000000 in
set_option maxRecDepth 20000 in
theorem lcldo_walk {vr : Value} {rs : List RlD} (hrs : ∀ r ∈ rs, r.ok) (n : Nat) (hn : n < 256) (x : At) (ht : 0 ≤ x.tags ∧ x.tags < 256) (hco : -9223372036854775808 ≤ x.cost ∧ x.cost ≤ 9223372036854775807) {v : Value} {l : List ClD} (hl : ∀ c ∈ l, c.ok) (a : Nat) (b : Int) (ha : a < 4294967296) (w : World)
    (hr : SliceAt w.heap.size 6 (RlAt w) vr rs) (h : SliceAt w.heap.size 10 (ClAt w) v l) :
    Calls Try.prog 3 #[vr, .int .u8 n, atV x, v, pfV a b] w fun e w' => e = .returned (.bool true) ∧ Below w.heap.size w w' := by
  have hwk := awake11_any
  have hmk := make_any n hn
  have hcl := fun (X : World) (q : Below w.heap.size w X) => clausesS_any hrs (B := w.heap.size) q.size (rls_keep hr q)
  have HH : Hid (SliceAt w.heap.size 10 (ClAt w) v l) := h
  have HX : Hid (0 ≤ x.tags ∧ x.tags < 256 ∧ -9223372036854775808 ≤ x.cost ∧ x.cost ≤ 9223372036854775807) := ⟨ht.1, ht.2, hco.1, hco.2⟩
  have HRS : Hid (∀ r ∈ rs, r.ok) := hrs
  have HL : Hid (∀ c ∈ l, c.ok) := hl
  clear hr h ht hco hrs hl
  obtain ⟨xo, xp, xc, xt⟩ := x
  unfold atV pfV
  unfold pfV at hmk
  dsimp only
  go_enter Try.func3, Try.ntmps3
  go_wp2_with fail
  obtain ⟨b7, hb7⟩ : ∃ n, n = w.heap.size := ⟨_, rfl⟩
  obtain ⟨b9, hb9⟩ : ∃ n, n = w.heap.size + 1 := ⟨_, rfl⟩
  obtain ⟨U, hU⟩ : ∃ U, U = (w.alloc (.cells #[.bool xo, .int .i64 xp, .int .i64 xc, .int .u8 xt] 24)).alloc (.cells #[.int .u32 a, .int .i64 b] 28) := ⟨_, rfl⟩
  have hwU : Below w.heap.size w U := by rw [hU]; exact bel_alloc2 _ _ _
  have h7 : U.heap[b7]? = some (atB ⟨xo, xp, xc, xt⟩) := by rw [hU]; exact pf_block (bel_alloc (Below.refl _ _) _) (pf_new _ _ _ hb7)
  have h9 : U.heap[b9]? = some (.cells #[.int .u32 a, .int .i64 b] 28 (0, 0)) := by rw [hU]; exact pf_new _ _ _ (by rw [hb9]; simp)
  rw [← hU, ← hb9, ← hb7]
  clear hU hb7 hb9
  refine (hwk _).mono ?_
  rintro e W ⟨rfl, q1⟩
  replace h7 := pf_block q1 h7
  replace h9 := pf_block q1 h9
  have hwW := bel_up hwU q1 hwU.size
  clear hwU q1 U hwk
  have hcw := hcl W hwW
  go_wp2_with fail
  refine hcw.mono ?_
  rintro e X ⟨cv, rfl, ho, q2⟩
  replace h7 := pf_block q2 h7
  replace h9 := pf_block q2 h9
  have hwX := bel_up hwW q2 hwW.size
  clear hcw hcl q2
  go_wp2_with fail
  refine (hmk _).mono ?_
  rintro e Y ⟨rfl, q3⟩
  replace h7 := pf_block q3 h7
  replace h9 := pf_block q3 h9
  replace ho := own_bel ho q3
  have hwY := bel_up hwX q3 hwX.size
  clear hmk q3 hwX hwW
  go_wp2_with fail
  obtain ⟨A, hA⟩ : ∃ k, k = mkA n := ⟨_, rfl⟩
  obtain ⟨B, hB⟩ : ∃ k, k = mkB n := ⟨_, rfl⟩
  have hA2 : A < 4294967296 := by rw [hA]; exact mkA_lt hn
  rw [← hA, ← hB]
  obtain ⟨b12, h12⟩ : ∃ n, n = Y.heap.size := ⟨_, rfl⟩
  obtain ⟨b13, h13⟩ : ∃ n, n = Y.heap.size + 1 := ⟨_, rfl⟩
  obtain ⟨Z, hZ⟩ : ∃ U, U = (Y.alloc (.cells #[.int .u32 A, .int .i64 B] 28)).alloc (.cells #[.bool true, .int .i64 100, .int .i64 n, .int .u8 ((n : Int) % 16)] 24) := ⟨_, rfl⟩
  have hYZ : Below Y.heap.size Y Z := by rw [hZ]; exact bel_alloc2 _ _ _
  have k12 : Z.heap[b12]? = some (.cells #[.int .u32 A, .int .i64 B] 28 (0, 0)) := by rw [hZ]; exact pf_block (bel_alloc (Below.refl _ _) _) (pf_new _ _ _ h12)
  have k13 : Z.heap[b13]? = some (.cells #[.bool true, .int .i64 100, .int .i64 n, .int .u8 ((n : Int) % 16)] 24 (0, 0)) := by rw [hZ]; exact pf_new _ _ _ (by rw [h13]; simp)
  rw [← hZ, ← h13, ← h12]
  replace h7 := pf_block hYZ h7
  replace h9 := pf_block hYZ h9
  replace ho := own_bel ho hYZ
  have hwZ := bel_up hwY hYZ hwY.size
  clear hZ h12 h13 hYZ hwY hA hB
  obtain ⟨x0, x1, x2, x3⟩ := at_cells h7
  obtain ⟨y0, y1, y2, y3⟩ := at_cells k13
  obtain ⟨p0, p1⟩ := pf_cells h9
  obtain ⟨r0, r1⟩ := pf_cells k12
  have hs0 := cls_of_own (by have := clausesS_len rs; omega) ho
  have hs := fun p : BelOf Z => cls_keep hs0 p.h
  have hsl := fun p : BelOf Z => cls_keep HH.out (bel_up hwZ p.h hwZ.size)
  have hb0 : 0 ≤ (n : Int) % 16 ∧ (n : Int) % 16 < 256 := by omega
  have hb1 : -9223372036854775808 ≤ (n : Int) ∧ (n : Int) ≤ 9223372036854775807 := by omega
  have HT : (0 ≤ xt ∧ xt < 256) ∧ (-9223372036854775808 ≤ xc ∧ xc ≤ 9223372036854775807) := ⟨⟨HX.out.1, HX.out.2.1⟩, HX.out.2.2⟩
  have hco := clausesS_ok HRS.out
  have D1 := fun p : BelOf Z => do_any hco A B hA2 ⟨true, 100, n, (n : Int) % 16⟩ hb0 p.w (hs p)
  have E1 := fun p : BelOf Z => ldo_any hco A B hA2 ⟨true, 100, n, (n : Int) % 16⟩ hb0 hb1 p.w (hs p)
  have D2 := fun p : BelOf Z => do_any hco A B hA2 ⟨xo, xp, xc, xt⟩ HT.1 p.w (hs p)
  have E2 := fun p : BelOf Z => ldo_any hco A B hA2 ⟨xo, xp, xc, xt⟩ HT.1 HT.2 p.w (hs p)
  have D3 := fun p : BelOf Z => do_any HL.out a b ha ⟨xo, xp, xc, xt⟩ HT.1 p.w (hsl p)
  have E3 := fun p : BelOf Z => ldo_any HL.out a b ha ⟨xo, xp, xc, xt⟩ HT.1 HT.2 p.w (hsl p)
  have D4 := fun p : BelOf Z => do_any HL.out A B hA2 ⟨true, 100, n, (n : Int) % 16⟩ hb0 p.w (hsl p)
  have E4 := fun p : BelOf Z => ldo_any HL.out A B hA2 ⟨true, 100, n, (n : Int) % 16⟩ hb0 hb1 p.w (hsl p)
  generalize doP (clausesS rs) A B ⟨true, 100, n, (n : Int) % 16⟩ = z1 at D1 E1
  generalize doP (clausesS rs) A B ⟨xo, xp, xc, xt⟩ = z2 at D2 E2
  generalize doP l a b ⟨xo, xp, xc, xt⟩ = z3 at D3 E3
  generalize doP l A B ⟨true, 100, n, (n : Int) % 16⟩ = z4 at D4 E4
  unfold atV pfV at D1 E1 D2 E2 D3 E3 D4 E4
  dsimp only at D1 E1 D2 E2 D3 E3 D4 E4
  have HWZ : Hid (Below w.heap.size w Z) := hwZ
  clear h7 h9 k12 k13 ho hs0 hs hsl hwZ HT
  have hne := bel_ne Z
  refine wp_region_bel (by kernel_rfl) (by kernel_rfl) ?_
  repeat (go_big_quiet_step (first
    | (go_at_call_of 12 a; exact bel_of (D3 _))
    | (go_at_call_of 12 xo; exact bel_of (D2 _))
    | (go_at_call_of 12 v; exact bel_of (D4 _))
    | (go_at_call_of 12 cv; exact bel_of (D1 _))
    | (go_at_call_of 13 a; exact bel_of (E3 _))
    | (go_at_call_of 13 xo; exact bel_of (E2 _))
    | (go_at_call_of 13 v; exact bel_of (E4 _))
    | (go_at_call_of 13 cv; exact bel_of (E1 _))))
  refine wpQuiet_nil ?_
  rintro V ⟨⟨V', hV⟩, rfl⟩
  go_wp2_with fail
  go_ret
  exact ⟨rfl, bel_up HWZ.out hV HWZ.out.size⟩
end Go.Proofs.Ythhonljejkjicaa
