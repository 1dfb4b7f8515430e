/- A reader as it lies, and what its smallest functions do: here, taken. -/
import Derived.Test.YtejhgifadohbiaaDoorVA
import Derived.Test.YtejhgifadohbiaaDoorVB
import Derived.Test.YtejhgifadohbiaaDoorKE
import Derived.Test.YtejhgifadohbiaaDoorHM
import Derived.Laws.ResultCell
import Derived.Handy
import Derived.BigRegion
import Derived.Deep.CutRange
import Derived.Deep.DeepCutAuto
namespace Go.Proofs.YtejhgifadohbiaaDoor
open Go.RowKit Go.Lib

/-- A reader at b, over tokens that lie at g. -/
structure Rd (B b g cap : Nat) (ts : List Tk) (n : Nat) (ev : Value) (W : World) : Prop where
  c : W.heap[b]? = some (.cells #[.slice (some ⟨g, 0, none⟩) ts.length cap, .int .i64 n, ev] 47 (0, 0))
  o : W.ownsRow B 61 6 (.slice (some ⟨g, 0, none⟩) ts.length cap) ts.length (ts.flatMap tkL)
  l : n < ts.length
theorem tk_at {w : World} {B g cap n : Nat} {ts : List Tk} {t : Tk} (o : w.ownsRow B 61 6 (.slice (some ⟨g, 0, none⟩) ts.length cap) ts.length (ts.flatMap tkL)) (h : ts[n]? = some t) :
    w.cell? ⟨g, n * 6, none⟩ = some (.int .i64 t.kind) ∧ w.cell? ⟨g, n * 6 + 1, none⟩ = some (.string ⟨t.text.toArray⟩) ∧ w.cell? ⟨g, n * 6 + 2, none⟩ = some (.int .i64 t.val) ∧ w.cell? ⟨g, n * 6 + 3, none⟩ = some (.int .u32 t.a) ∧
      w.cell? ⟨g, n * 6 + 4, none⟩ = some (.int .i64 t.b) ∧ w.cell? ⟨g, n * 6 + 5, none⟩ = some (.int .i64 t.pl) := by
  have key : ∀ j u, (tkL t)[j]? = some u → w.cell? ⟨g, n * 6 + j, none⟩ = some u := fun j u hu =>
    own_cell o (by rw [flat_at tkL 6 (fun _ => rfl) ts n j t h (show j < 6 from (List.getElem?_eq_some_iff.1 hu).1)]; exact hu)
  exact ⟨key 0 _ rfl, key 1 _ rfl, key 2 _ rfl, key 3 _ rfl, key 4 _ rfl, key 5 _ rfl⟩
section
variable {B b g cap n : Nat} {ts : List Tk} {ev : Value} {w w' : World}
theorem Rd.off (h : Rd B b g cap ts n ev w) : g ≠ b := by
  intro hg
  rcases h.o.2 with ⟨h0, _⟩ | ⟨g', cap', cur, h1, _, h3, _⟩
  · cases h0
  · obtain rfl : g = g' := by injection h1 with h1; injection h1 with h1; injection h1
    rw [hg, h.c] at h3
    injection h3 with h3
    injection h3 with _ h3 _
    exact absurd h3 (by decide)
theorem Rd.below (h : Rd B b g cap ts n ev w) (q : Below w.heap.size w w') : Rd B b g cap ts n ev w' := ⟨pf_block q h.c, own_bel h.o q, h.l⟩
theorem Rd.x {p : Nat} (h : Rd B b g cap ts n ev w) (q : BelX p w w') (hp : p ≠ b) (hg : p ≠ g) : Rd B b g cap ts n ev w' := ⟨q.get h.c (Ne.symm hp), q.own h.o (fun k hk => by injection hk with hk; rw [← hk]; exact Ne.symm hg), h.l⟩
end
theorem heap_drew (w : World) : w.drew.heap = w.heap := rfl
set_option maxHeartbeats 2000000 in
set_option maxRecDepth 20000 in
theorem here_any {B b g cap n : Nat} {ts : List Tk} {ev : Value} {w : World} (h : Rd B b g cap ts n ev w) (t : Tk) (ht : ts[n]? = some t) :
    Calls Tryd.prog 32 #[.pointer (some ⟨b, 0, none⟩)] w fun e w' => e = .returned (tkV t) ∧ Below w.heap.size w w' := by
  go_enter Tryd.func32, Tryd.ntmps32
  go_wp2_with fail
  obtain ⟨br, hbr⟩ : ∃ b, b = w.heap.size := ⟨_, rfl⟩
  rw [← hbr]
  obtain ⟨W, hW⟩ : ∃ W, W = w.alloc (.cells #[.int .i64 0, .string ⟨#[]⟩, .int .i64 0, .int .u32 0, .int .i64 0, .int .i64 0] 61) := ⟨_, rfl⟩
  rw [← hW]
  obtain ⟨qW, hr, _⟩ := box_at w _ hW hbr
  have hh := h.below qW
  obtain ⟨C0, C1, _⟩ := cells_three hh.c
  obtain ⟨T0, T1, T2, T3, T4, T5⟩ := tk_at hh.o ht
  obtain ⟨N, hN⟩ : ∃ N, N = ts.length := ⟨_, rfl⟩
  rw [← hN] at C0
  have d0 : (0 : Int) ≤ n := by omega
  have d1 : (n : Int) < N := by have := h.l; omega
  have d2 : (N : Int) ≤ 9223372036854775807 := by have := own_len h.o; omega
  obtain ⟨F0, F1, F2, F3, F4, F5⟩ := free_six hr
  obtain ⟨R0, R1, R2, R3, R4, R5⟩ := cells_six hr
  have HR : Hid (W.heap[br]? = some (.cells #[.int .i64 0, .string ⟨#[]⟩, .int .i64 0, .int .u32 0, .int .i64 0, .int .i64 0] 61 (0, 0)) ∧ w.heap.size ≤ br ∧ Below w.heap.size w W) := ⟨hr, by omega, qW⟩
  clear hW hbr hh hr qW hN ht h
  go_region
  obtain ⟨X, hX⟩ : ∃ X, X = (put6 W br t).drew := ⟨_, rfl⟩
  show Exit.then _ _ Exit.normal _ ((put6 W br t).drew)
  rw [← hX]
  have rX : X.heap[br]? = some (.cells (tkL t).toArray 61 (0, 0)) := by rw [hX, heap_drew]; exact put_six HR.out.1 t
  have qX : Below w.heap.size w X := by rw [hX]; exact (put_bel HR.out.2.2 HR.out.2.1 t).drew
  obtain ⟨W0, W1, W2, W3, W4, W5⟩ := cells_six rX
  clear hX T0 T1 T2 T3 T4 T5 R0 R1 R2 R3 R4 R5 F0 F1 F2 F3 F4 F5 C0 C1
  go_wp2_with fail
  refine bodyPost_ret (v := tkV t) (by unfold tkV; simp [results, Tryd.results32, go_sem, W0, W1, W2, W3, W4, W5]) rfl ?_
  exact ⟨rfl, qX⟩
/-- One token on. -/
theorem Rd.next {B b g cap n : Nat} {ts : List Tk} {ev : Value} {w : World} (h : Rd B b g cap ts n ev w) (hl : n + 1 < ts.length) : Rd B b g cap ts (n + 1) ev (w.setCell ⟨b, 1, none⟩ (.int .i64 ((n + 1 : Nat) : Int))) :=
  ⟨set_at (i := 1) h.c _, BelX.own ((BelX.refl b w).set (.inl rfl) _) h.o (fun k hk => by injection hk with hk; rw [← hk]; exact h.off), hl⟩
theorem Rd.err {B b g cap n : Nat} {ts : List Tk} {ev : Value} {w : World} (h : Rd B b g cap ts n ev w) (v : Value) : Rd B b g cap ts n v (w.setCell ⟨b, 2, none⟩ v) :=
  ⟨set_at (i := 2) h.c _, BelX.own ((BelX.refl b w).set (.inl rfl) _) h.o (fun k hk => by injection hk with hk; rw [← hk]; exact h.off), h.l⟩
/-- A cell of another block, no token's, is written. -/
theorem Rd.cell {B b g cap n p i : Nat} {ts : List Tk} {ev : Value} {w : World} (h : Rd B b g cap ts n ev w) (hp : p ≠ b) (hg : p ≠ g) (x : Value) : Rd B b g cap ts n ev (w.setCell ⟨p, i, none⟩ x) :=
  ⟨set_off h.c (Ne.symm hp) x, KeptT.own (E := []) (L := [p]) (KeptT.setCell (List.mem_singleton.2 rfl) x) h.o (by simp) (fun k hk => by injection hk with hk; rw [← hk, List.mem_singleton]; exact Ne.symm hg), h.l⟩
theorem put6_rd {B b g cap n br : Nat} {ts : List Tk} {ev : Value} {w Y : World} (h : Rd B b g cap ts n ev Y) (q : BelX b w Y) (hb : b ≠ br) (hw : w.heap.size ≤ br) (t : Tk) (hg : br ≠ g) : Rd B b g cap ts n ev (put6 Y br t) ∧ BelX b w (put6 Y br t) :=
  ⟨((((((h.cell hb.symm hg _).cell hb.symm hg _).cell hb.symm hg _).cell hb.symm hg _).cell hb.symm hg _).cell hb.symm hg _), (((((q.set (.inr hw) _).set (.inr hw) _).set (.inr hw) _).set (.inr hw) _).set (.inr hw) _).set (.inr hw) _⟩
/-- Tokens lie in no new block. -/
theorem Rd.old {B b g cap n : Nat} {ts : List Tk} {ev : Value} {w : World} (h : Rd B b g cap ts n ev w) : g < w.heap.size := by
  rcases h.o.2 with ⟨h0, _⟩ | ⟨g', cap', cur, h1, _, h3, _⟩
  · cases h0
  · obtain rfl : g = g' := by injection h1 with h1; injection h1 with h1; injection h1
    exact (Array.getElem?_eq_some_iff.1 h3).1
set_option maxHeartbeats 2000000 in
set_option maxRecDepth 20000 in
theorem taken_any {B b g cap n : Nat} {ts : List Tk} {ev : Value} {w : World} (h : Rd B b g cap ts n ev w) (t : Tk) (ht : ts[n]? = some t) (hl : n + 1 < ts.length) :
    Calls Tryd.prog 50 #[.pointer (some ⟨b, 0, none⟩)] w fun e w' => e = .returned (tkV t) ∧ Rd B b g cap ts (n + 1) ev w' ∧ BelX b w w' := by
  go_enter Tryd.func50, Tryd.ntmps50
  go_wp2_with fail
  obtain ⟨br, hbr⟩ : ∃ b, b = w.heap.size := ⟨_, rfl⟩
  rw [← hbr]
  obtain ⟨W, hW⟩ : ∃ W, W = w.alloc (.cells #[.int .i64 0, .string ⟨#[]⟩, .int .i64 0, .int .u32 0, .int .i64 0, .int .i64 0] 61) := ⟨_, rfl⟩
  rw [← hW]
  obtain ⟨qW, hr, _⟩ := box_at w _ hW hbr
  have hc := here_any (h.below qW) t ht
  have HB : Hid (b < w.heap.size ∧ w.heap.size = br) := ⟨(Array.getElem?_eq_some_iff.1 h.c).1, hbr.symm⟩
  have HG : Hid (br ≠ g) := by show br ≠ g; have := h.old; omega
  clear hW hbr
  refine hc.mono ?_
  rintro e U ⟨rfl, qU⟩
  clear hc
  unfold tkV
  go_upto_region 2 with fail
  obtain ⟨bt, hbt⟩ : ∃ b, b = U.heap.size := ⟨_, rfl⟩
  rw [← hbt]
  obtain ⟨V, hV⟩ : ∃ V, V = U.alloc (.cells #[.int .i64 t.kind, .string ⟨t.text.toArray⟩, .int .i64 t.val, .int .u32 t.a, .int .i64 t.b, .int .i64 t.pl] 61) := ⟨_, rfl⟩
  rw [← hV]
  obtain ⟨qV, hv, _⟩ := box_at U _ hV hbt
  have hrd := ((h.below qW).below qU).below qV
  have hR := pf_block (Below.trans qU (qV.mono qU.size)) hr
  have HQ : Hid (Below w.heap.size w V) := bel_up (bel_up qW qU qW.size) qV (Nat.le_trans qW.size qU.size)
  have HN : Hid (b ≠ br ∧ b ≠ bt ∧ br ≠ bt ∧ w.heap.size ≤ br ∧ w.heap.size ≤ bt ∧ Rd B b g cap ts n ev V) := by
    have h1 := qW.size
    have h2 := qU.size
    have h3 := HB.out
    have h4 := (Array.getElem?_eq_some_iff.1 hr).1
    exact ⟨by omega, by omega, by omega, by omega, by omega, hrd⟩
  obtain ⟨C0, C1, C2⟩ := cells_three hrd.c
  have F1 := free_at hrd.c 1
  have d2 : (ts.length : Int) ≤ 9223372036854775807 := by have := own_len hrd.o; omega
  have d3 : (n : Int) + 1 ≤ 9223372036854775807 := by have := own_len hrd.o; omega
  have d4 : (0 : Int) ≤ n := by omega
  have HV : Hid (V.heap[bt]? = some (.cells #[.int .i64 t.kind, .string ⟨t.text.toArray⟩, .int .i64 t.val, .int .u32 t.a, .int .i64 t.b, .int .i64 t.pl] 61 (0, 0)) ∧ V.heap[br]? = some (.cells #[.int .i64 0, .string ⟨#[]⟩, .int .i64 0, .int .u32 0, .int .i64 0, .int .i64 0] 61 (0, 0))) := ⟨hv, hR⟩
  clear hV hbt qV hv hrd hR qU qW hr
  go_upto_region 3 with fail
  rw [show ((n : Int) + 1) = ((n + 1 : Nat) : Int) from rfl]
  obtain ⟨Y, hY⟩ : ∃ Y, Y = V.setCell ⟨b, 1, none⟩ (.int .i64 ((n + 1 : Nat) : Int)) := ⟨_, rfl⟩
  rw [← hY]
  have y1 : Y.heap[bt]? = some (.cells #[.int .i64 t.kind, .string ⟨t.text.toArray⟩, .int .i64 t.val, .int .u32 t.a, .int .i64 t.b, .int .i64 t.pl] 61 (0, 0)) := by rw [hY]; exact set_off HV.out.1 (Ne.symm HN.out.2.1) _
  have y2 : Y.heap[br]? = some (.cells #[.int .i64 0, .string ⟨#[]⟩, .int .i64 0, .int .u32 0, .int .i64 0, .int .i64 0] 61 (0, 0)) := by rw [hY]; exact set_off HV.out.2 (Ne.symm HN.out.1) _
  have HY : Hid (Rd B b g cap ts (n + 1) ev Y ∧ BelX b w Y) := by
    rw [hY]
    exact ⟨HN.out.2.2.2.2.2.next hl, (BelX.of b HQ.out).set (.inl rfl) _⟩
  obtain ⟨T0, T1, T2, T3, T4, T5⟩ := cells_six y1
  obtain ⟨R0, R1, R2, R3, R4, R5⟩ := cells_six y2
  obtain ⟨F0, F1, F2, F3, F4, F5⟩ := free_six y2
  clear hY y1 C0 C1 C2 F1
  have F1 := (free_six y2).2.1
  go_wp2_with fail
  show bodyPost _ _ _ _ _ (put6 Y br t)
  have rX : (put6 Y br t).heap[br]? = some (.cells (tkL t).toArray 61 (0, 0)) := put_six y2 t
  have qX : Rd B b g cap ts (n + 1) ev (put6 Y br t) ∧ BelX b w (put6 Y br t) := put6_rd HY.out.1 HY.out.2 HN.out.1 HN.out.2.2.2.1 t HG.out
  generalize put6 Y br t = X at *
  obtain ⟨W0, W1, W2, W3, W4, W5⟩ := cells_six rX
  refine bodyPost_ret (v := tkV t) (by unfold tkV; simp [results, Tryd.results50, go_sem, W0, W1, W2, W3, W4, W5]) rfl ?_
  exact ⟨rfl, qX⟩
end Go.Proofs.YtejhgifadohbiaaDoor
