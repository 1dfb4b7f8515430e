/- A reader as it lies, and what its smallest functions do: here, taken. What a reader's small functions do, by where it is. What a reader does with one thing: take, name, prefix, number, and what may stand behind a word. What a reader does with tags. -/
import Derived.Test.YtejhgifadohbiaaGreatDoorPX
import Derived.Test.YtejhgifadohbiaaGreatDoorVB
import Derived.Test.YtejhgifadohbiaaGreatDoorKE
import Derived.Test.YtejhgifadohbiaaGreatDoorHM
import Derived.Laws.ResultCell
import Derived.Handy
import Derived.BigRegion
import Derived.Deep.CutRange
import Derived.Deep.DeepCutAuto
import Derived.Deep.LoopGhost
import Derived.Laws.BitsAllLaws
import Derived.Laws.ShiftsVarLaws
namespace Go.Proofs.YtejhgifadohbiaaGreatDoor
open Go.RowKit Go.Lib

/-- A reader at b, over tokens that lie at g. -/
structure Rd (B b g cap : Nat) (ts : List Tk) (n : Nat) (ev : Value) (W : World) : Prop where
  c : W.heap[b]? = some (.cells #[.slice (some ⟨g, 0, none⟩) ts.length cap, .int .i64 n, ev] 84 (0, 0))
  o : W.ownsRow B 103 6 (.slice (some ⟨g, 0, none⟩) ts.length cap) ts.length (ts.flatMap tkL)
  l : n < ts.length
theorem tk_at {w : World} {B g cap n : Nat} {ts : List Tk} {t : Tk} (o : w.ownsRow B 103 6 (.slice (some ⟨g, 0, none⟩) ts.length cap) ts.length (ts.flatMap tkL)) (h : ts[n]? = some t) :
    w.cell? ⟨g, n * 6, none⟩ = some (.int .i64 t.kind) ∧ w.cell? ⟨g, n * 6 + 1, none⟩ = some (.string ⟨t.text.toArray⟩) ∧ w.cell? ⟨g, n * 6 + 2, none⟩ = some (.int .i64 t.val) ∧ w.cell? ⟨g, n * 6 + 3, none⟩ = some (.int .u32 t.a) ∧
      w.cell? ⟨g, n * 6 + 4, none⟩ = some (.int .i64 t.b) ∧ w.cell? ⟨g, n * 6 + 5, none⟩ = some (.int .i64 t.pl) := by
  have key : ∀ j u, (tkL t)[j]? = some u → w.cell? ⟨g, n * 6 + j, none⟩ = some u := fun j u hu =>
    own_cell o (by rw [flat_at tkL 6 (fun _ => rfl) ts n j t h (show j < 6 from (List.getElem?_eq_some_iff.1 hu).1)]; exact hu)
  exact ⟨key 0 _ rfl, key 1 _ rfl, key 2 _ rfl, key 3 _ rfl, key 4 _ rfl, key 5 _ rfl⟩
section
variable {B b g cap n : Nat} {ts : List Tk} {ev : Value} {w w' : World}
theorem Rd.off (h : Rd B b g cap ts n ev w) : g ≠ b := by
  intro hg
  rcases h.o.2 with ⟨h0, _⟩ | ⟨g', cap', cur, h1, _, h3, _⟩
  · cases h0
  · obtain rfl : g = g' := by injection h1 with h1; injection h1 with h1; injection h1
    rw [hg, h.c] at h3
    injection h3 with h3
    injection h3 with _ h3 _
    exact absurd h3 (by decide)
theorem Rd.below (h : Rd B b g cap ts n ev w) (q : Below w.heap.size w w') : Rd B b g cap ts n ev w' := ⟨pf_block q h.c, own_bel h.o q, h.l⟩
theorem Rd.x {p : Nat} (h : Rd B b g cap ts n ev w) (q : BelX p w w') (hp : p ≠ b) (hg : p ≠ g) : Rd B b g cap ts n ev w' := ⟨q.get h.c (Ne.symm hp), q.own h.o (fun k hk => by injection hk with hk; rw [← hk]; exact Ne.symm hg), h.l⟩
end
theorem heap_drew (w : World) : w.drew.heap = w.heap := rfl
set_option maxHeartbeats 2000000 in
set_option maxRecDepth 20000 in
theorem here_any {B b g cap n : Nat} {ts : List Tk} {ev : Value} {w : World} (h : Rd B b g cap ts n ev w) (t : Tk) (ht : ts[n]? = some t) :
    Calls Tryz.prog 59 #[.pointer (some ⟨b, 0, none⟩)] w fun e w' => e = .returned (tkV t) ∧ Below w.heap.size w w' := by
  go_enter Tryz.func59, Tryz.ntmps59
  go_wp2_with fail
  obtain ⟨br, hbr⟩ : ∃ b, b = w.heap.size := ⟨_, rfl⟩
  rw [← hbr]
  obtain ⟨W, hW⟩ : ∃ W, W = w.alloc (.cells #[.int .i64 0, .string ⟨#[]⟩, .int .i64 0, .int .u32 0, .int .i64 0, .int .i64 0] 103) := ⟨_, rfl⟩
  rw [← hW]
  obtain ⟨qW, hr, _⟩ := box_at w _ hW hbr
  have hh := h.below qW
  obtain ⟨C0, C1, _⟩ := cells_three hh.c
  obtain ⟨T0, T1, T2, T3, T4, T5⟩ := tk_at hh.o ht
  obtain ⟨N, hN⟩ : ∃ N, N = ts.length := ⟨_, rfl⟩
  rw [← hN] at C0
  have d0 : (0 : Int) ≤ n := by omega
  have d1 : (n : Int) < N := by have := h.l; omega
  have d2 : (N : Int) ≤ 9223372036854775807 := by have := own_len h.o; omega
  obtain ⟨F0, F1, F2, F3, F4, F5⟩ := free_six hr
  obtain ⟨R0, R1, R2, R3, R4, R5⟩ := cells_six hr
  have HR : Hid (W.heap[br]? = some (.cells #[.int .i64 0, .string ⟨#[]⟩, .int .i64 0, .int .u32 0, .int .i64 0, .int .i64 0] 103 (0, 0)) ∧ w.heap.size ≤ br ∧ Below w.heap.size w W) := ⟨hr, by omega, qW⟩
  clear hW hbr hh hr qW hN ht h
  go_region
  obtain ⟨X, hX⟩ : ∃ X, X = (put6 W br t).drew := ⟨_, rfl⟩
  show Exit.then _ _ Exit.normal _ ((put6 W br t).drew)
  rw [← hX]
  have rX : X.heap[br]? = some (.cells (tkL t).toArray 103 (0, 0)) := by rw [hX, heap_drew]; exact put_six HR.out.1 t
  have qX : Below w.heap.size w X := by rw [hX]; exact (put_bel HR.out.2.2 HR.out.2.1 t).drew
  obtain ⟨W0, W1, W2, W3, W4, W5⟩ := cells_six rX
  clear hX T0 T1 T2 T3 T4 T5 R0 R1 R2 R3 R4 R5 F0 F1 F2 F3 F4 F5 C0 C1
  go_wp2_with fail
  refine bodyPost_ret (v := tkV t) (by unfold tkV; simp [results, Tryz.results59, go_sem, W0, W1, W2, W3, W4, W5]) rfl ?_
  exact ⟨rfl, qX⟩
/-- One token on. -/
theorem Rd.next {B b g cap n : Nat} {ts : List Tk} {ev : Value} {w : World} (h : Rd B b g cap ts n ev w) (hl : n + 1 < ts.length) : Rd B b g cap ts (n + 1) ev (w.setCell ⟨b, 1, none⟩ (.int .i64 ((n + 1 : Nat) : Int))) :=
  ⟨set_at (i := 1) h.c _, BelX.own ((BelX.refl b w).set (.inl rfl) _) h.o (fun k hk => by injection hk with hk; rw [← hk]; exact h.off), hl⟩
theorem Rd.err {B b g cap n : Nat} {ts : List Tk} {ev : Value} {w : World} (h : Rd B b g cap ts n ev w) (v : Value) : Rd B b g cap ts n v (w.setCell ⟨b, 2, none⟩ v) :=
  ⟨set_at (i := 2) h.c _, BelX.own ((BelX.refl b w).set (.inl rfl) _) h.o (fun k hk => by injection hk with hk; rw [← hk]; exact h.off), h.l⟩
/-- A cell of another block, no token's, is written. -/
theorem Rd.cell {B b g cap n p i : Nat} {ts : List Tk} {ev : Value} {w : World} (h : Rd B b g cap ts n ev w) (hp : p ≠ b) (hg : p ≠ g) (x : Value) : Rd B b g cap ts n ev (w.setCell ⟨p, i, none⟩ x) :=
  ⟨set_off h.c (Ne.symm hp) x, KeptT.own (E := []) (L := [p]) (KeptT.setCell (List.mem_singleton.2 rfl) x) h.o (by simp) (fun k hk => by injection hk with hk; rw [← hk, List.mem_singleton]; exact Ne.symm hg), h.l⟩
theorem put6_rd {B b g cap n br : Nat} {ts : List Tk} {ev : Value} {w Y : World} (h : Rd B b g cap ts n ev Y) (q : BelX b w Y) (hb : b ≠ br) (hw : w.heap.size ≤ br) (t : Tk) (hg : br ≠ g) : Rd B b g cap ts n ev (put6 Y br t) ∧ BelX b w (put6 Y br t) :=
  ⟨((((((h.cell hb.symm hg _).cell hb.symm hg _).cell hb.symm hg _).cell hb.symm hg _).cell hb.symm hg _).cell hb.symm hg _), (((((q.set (.inr hw) _).set (.inr hw) _).set (.inr hw) _).set (.inr hw) _).set (.inr hw) _).set (.inr hw) _⟩
/-- Tokens lie in no new block. -/
theorem Rd.old {B b g cap n : Nat} {ts : List Tk} {ev : Value} {w : World} (h : Rd B b g cap ts n ev w) : g < w.heap.size := by
  rcases h.o.2 with ⟨h0, _⟩ | ⟨g', cap', cur, h1, _, h3, _⟩
  · cases h0
  · obtain rfl : g = g' := by injection h1 with h1; injection h1 with h1; injection h1
    exact (Array.getElem?_eq_some_iff.1 h3).1
set_option maxHeartbeats 2000000 in
set_option maxRecDepth 20000 in
theorem taken_any {B b g cap n : Nat} {ts : List Tk} {ev : Value} {w : World} (h : Rd B b g cap ts n ev w) (t : Tk) (ht : ts[n]? = some t) (hl : n + 1 < ts.length) :
    Calls Tryz.prog 77 #[.pointer (some ⟨b, 0, none⟩)] w fun e w' => e = .returned (tkV t) ∧ Rd B b g cap ts (n + 1) ev w' ∧ BelX b w w' := by
  go_enter Tryz.func77, Tryz.ntmps77
  go_wp2_with fail
  obtain ⟨br, hbr⟩ : ∃ b, b = w.heap.size := ⟨_, rfl⟩
  rw [← hbr]
  obtain ⟨W, hW⟩ : ∃ W, W = w.alloc (.cells #[.int .i64 0, .string ⟨#[]⟩, .int .i64 0, .int .u32 0, .int .i64 0, .int .i64 0] 103) := ⟨_, rfl⟩
  rw [← hW]
  obtain ⟨qW, hr, _⟩ := box_at w _ hW hbr
  have hc := here_any (h.below qW) t ht
  have HB : Hid (b < w.heap.size ∧ w.heap.size = br) := ⟨(Array.getElem?_eq_some_iff.1 h.c).1, hbr.symm⟩
  have HG : Hid (br ≠ g) := by show br ≠ g; have := h.old; omega
  clear hW hbr
  refine hc.mono ?_
  rintro e U ⟨rfl, qU⟩
  clear hc
  unfold tkV
  go_upto_region 2 with fail
  obtain ⟨bt, hbt⟩ : ∃ b, b = U.heap.size := ⟨_, rfl⟩
  rw [← hbt]
  obtain ⟨V, hV⟩ : ∃ V, V = U.alloc (.cells #[.int .i64 t.kind, .string ⟨t.text.toArray⟩, .int .i64 t.val, .int .u32 t.a, .int .i64 t.b, .int .i64 t.pl] 103) := ⟨_, rfl⟩
  rw [← hV]
  obtain ⟨qV, hv, _⟩ := box_at U _ hV hbt
  have hrd := ((h.below qW).below qU).below qV
  have hR := pf_block (Below.trans qU (qV.mono qU.size)) hr
  have HQ : Hid (Below w.heap.size w V) := bel_up (bel_up qW qU qW.size) qV (Nat.le_trans qW.size qU.size)
  have HN : Hid (b ≠ br ∧ b ≠ bt ∧ br ≠ bt ∧ w.heap.size ≤ br ∧ w.heap.size ≤ bt ∧ Rd B b g cap ts n ev V) := by
    have h1 := qW.size
    have h2 := qU.size
    have h3 := HB.out
    have h4 := (Array.getElem?_eq_some_iff.1 hr).1
    exact ⟨by omega, by omega, by omega, by omega, by omega, hrd⟩
  obtain ⟨C0, C1, C2⟩ := cells_three hrd.c
  have F1 := free_at hrd.c 1
  have d2 : (ts.length : Int) ≤ 9223372036854775807 := by have := own_len hrd.o; omega
  have d3 : (n : Int) + 1 ≤ 9223372036854775807 := by have := own_len hrd.o; omega
  have d4 : (0 : Int) ≤ n := by omega
  have HV : Hid (V.heap[bt]? = some (.cells #[.int .i64 t.kind, .string ⟨t.text.toArray⟩, .int .i64 t.val, .int .u32 t.a, .int .i64 t.b, .int .i64 t.pl] 103 (0, 0)) ∧ V.heap[br]? = some (.cells #[.int .i64 0, .string ⟨#[]⟩, .int .i64 0, .int .u32 0, .int .i64 0, .int .i64 0] 103 (0, 0))) := ⟨hv, hR⟩
  clear hV hbt qV hv hrd hR qU qW hr
  go_upto_region 3 with fail
  rw [show ((n : Int) + 1) = ((n + 1 : Nat) : Int) from rfl]
  obtain ⟨Y, hY⟩ : ∃ Y, Y = V.setCell ⟨b, 1, none⟩ (.int .i64 ((n + 1 : Nat) : Int)) := ⟨_, rfl⟩
  rw [← hY]
  have y1 : Y.heap[bt]? = some (.cells #[.int .i64 t.kind, .string ⟨t.text.toArray⟩, .int .i64 t.val, .int .u32 t.a, .int .i64 t.b, .int .i64 t.pl] 103 (0, 0)) := by rw [hY]; exact set_off HV.out.1 (Ne.symm HN.out.2.1) _
  have y2 : Y.heap[br]? = some (.cells #[.int .i64 0, .string ⟨#[]⟩, .int .i64 0, .int .u32 0, .int .i64 0, .int .i64 0] 103 (0, 0)) := by rw [hY]; exact set_off HV.out.2 (Ne.symm HN.out.1) _
  have HY : Hid (Rd B b g cap ts (n + 1) ev Y ∧ BelX b w Y) := by
    rw [hY]
    exact ⟨HN.out.2.2.2.2.2.next hl, (BelX.of b HQ.out).set (.inl rfl) _⟩
  obtain ⟨T0, T1, T2, T3, T4, T5⟩ := cells_six y1
  obtain ⟨R0, R1, R2, R3, R4, R5⟩ := cells_six y2
  obtain ⟨F0, F1, F2, F3, F4, F5⟩ := free_six y2
  clear hY y1 C0 C1 C2 F1
  have F1 := (free_six y2).2.1
  go_wp2_with fail
  show bodyPost _ _ _ _ _ (put6 Y br t)
  have rX : (put6 Y br t).heap[br]? = some (.cells (tkL t).toArray 103 (0, 0)) := put_six y2 t
  have qX : Rd B b g cap ts (n + 1) ev (put6 Y br t) ∧ BelX b w (put6 Y br t) := put6_rd HY.out.1 HY.out.2 HN.out.1 HN.out.2.2.2.1 t HG.out
  generalize put6 Y br t = X at *
  obtain ⟨W0, W1, W2, W3, W4, W5⟩ := cells_six rX
  refine bodyPost_ret (v := tkV t) (by unfold tkV; simp [results, Tryz.results77, go_sem, W0, W1, W2, W3, W4, W5]) rfl ?_
  exact ⟨rfl, qX⟩
end Go.Proofs.YtejhgifadohbiaaGreatDoor
namespace Go.Proofs.YtejhgifadohbiaaGreatDoor
open Go.RowKit Go.Lib

/-- A text's last token is its end. -/
def Tail (r : List Tk) : Prop := ∃ l e, r = l ++ [e] ∧ e.kind = 0 ∧ e.text = []
theorem Tail.cons {r : List Tk} (h : Tail r) : ∃ t r', r = t :: r' := by
  obtain ⟨l, e, rfl, _⟩ := h
  cases l with
  | nil => exact ⟨e, [], rfl⟩
  | cons a l => exact ⟨a, l ++ [e], rfl⟩
theorem Tail.tl {t : Tk} {r : List Tk} (h : Tail (t :: r)) (hn : t.kind ≠ 0 ∨ t.text ≠ []) : Tail r := by
  obtain ⟨l, e, he, h1, h2⟩ := h
  cases l with
  | nil =>
    injection he with he _
    subst he
    exact absurd hn (by rintro (h | h); exact h h1; exact h h2)
  | cons a l =>
    injection he with _ he
    exact ⟨l, e, he, h1, h2⟩
/-- A reader, by where it is. -/
def RdS (B b g cap : Nat) (ts : List Tk) : Sta → World → Prop
  | .inl r, W => ∃ n, ts.drop n = r ∧ Tail r ∧ Rd B b g cap ts n .nilIface W
  | .inr e, W => ∃ n, Rd B b g cap ts n (faV e.1 e.2) W
section
variable {B b g cap : Nat} {ts : List Tk} {w w' : World}
theorem RdS.below {s : Sta} (h : RdS B b g cap ts s w) (q : Below w.heap.size w w') : RdS B b g cap ts s w' := by
  cases s with
  | inl r =>
    obtain ⟨n, h1, h2, h3⟩ := h
    exact ⟨n, h1, h2, h3.below q⟩
  | inr e =>
    obtain ⟨n, h⟩ := h
    exact ⟨n, h.below q⟩
theorem RdS.x {s : Sta} {p : Nat} (h : RdS B b g cap ts s w) (q : BelX p w w') (hp : p ≠ b) (hg : p ≠ g) : RdS B b g cap ts s w' := by
  cases s with
  | inl r =>
    obtain ⟨n, h1, h2, h3⟩ := h
    exact ⟨n, h1, h2, h3.x q hp hg⟩
  | inr e =>
    obtain ⟨n, h⟩ := h
    exact ⟨n, h.x q hp hg⟩
theorem RdS.cell {s : Sta} {p i : Nat} (h : RdS B b g cap ts s w) (hp : p ≠ b) (hg : p ≠ g) (v : Value) : RdS B b g cap ts s (w.setCell ⟨p, i, none⟩ v) := by
  cases s with
  | inl r =>
    obtain ⟨n, h1, h2, h3⟩ := h
    exact ⟨n, h1, h2, h3.cell hp hg v⟩
  | inr e =>
    obtain ⟨n, h⟩ := h
    exact ⟨n, h.cell hp hg v⟩
theorem RdS.old {s : Sta} (h : RdS B b g cap ts s w) : g < w.heap.size ∧ b < w.heap.size := by
  cases s with
  | inl r =>
    obtain ⟨n, _, _, h3⟩ := h
    exact ⟨h3.old, (Array.getElem?_eq_some_iff.1 h3.c).1⟩
  | inr e =>
    obtain ⟨n, h⟩ := h
    exact ⟨h.old, (Array.getElem?_eq_some_iff.1 h.c).1⟩
/-- There is a token. -/
theorem RdS.ex {s : Sta} (h : RdS B b g cap ts s w) : ∃ n t ev, ts[n]? = some t ∧ Rd B b g cap ts n ev w ∧ ((∃ r, s = .inl (t :: r) ∧ ts.drop (n + 1) = r ∧ Tail (t :: r) ∧ ev = .nilIface) ∨ ∃ e, s = .inr e ∧ ev = faV e.1 e.2) := by
  cases s with
  | inl r =>
    obtain ⟨n, h1, h2, h3⟩ := h
    obtain ⟨t, r', rfl⟩ := h2.cons
    have e1 : ts[n]? = some t := by
      have := congrArg List.head? h1
      rw [List.head?_drop] at this
      exact this
    refine ⟨n, t, _, e1, h3, .inl ⟨r', rfl, ?_, h2, rfl⟩⟩
    have := congrArg (List.drop 1) h1
    rw [List.drop_drop] at this
    simpa [Nat.add_comm] using this
  | inr e =>
    obtain ⟨n, h⟩ := h
    exact ⟨n, ts[n]'h.l, _, List.getElem?_eq_getElem h.l, h, .inr ⟨e, rfl, rfl⟩⟩
end
def hasB (x : Bs) : Sta → Bool
  | .inl (t :: _) => decide (t.text = x)
  | _ => false
def holdsB (k : Nat) : Sta → Bool
  | .inl (t :: _) => decide (t.kind = k)
  | _ => false
def failS (no : Nat) : Sta → Sta
  | .inl (t :: _) => .inr (no, t.pl)
  | s => s
theorem str_eq (x y : Bs) : (⟨x.toArray⟩ : ByteArray) = ⟨y.toArray⟩ ↔ x = y := by
  constructor
  · intro h
    injection h with h
    injection h
  · rintro rfl
    rfl
theorem tkf0 (k v a b p : Nat) (x : ByteArray) (W : World) : Sem.run Tryz.prog (Instr.field 103 (.agg #[.int .i64 k, .string x, .int .i64 v, .int .u32 a, .int .i64 b, .int .i64 p]) 0) W = .ok (.int .i64 k) W := by kernel_rfl
theorem tkf1 (k v a b p : Nat) (x : ByteArray) (W : World) : Sem.run Tryz.prog (Instr.field 103 (.agg #[.int .i64 k, .string x, .int .i64 v, .int .u32 a, .int .i64 b, .int .i64 p]) 1) W = .ok (.string x) W := by kernel_rfl
theorem tkf2 (k v a b p : Nat) (x : ByteArray) (W : World) : Sem.run Tryz.prog (Instr.field 103 (.agg #[.int .i64 k, .string x, .int .i64 v, .int .u32 a, .int .i64 b, .int .i64 p]) 2) W = .ok (.int .i64 v) W := by kernel_rfl
theorem tkf3 (k v a b p : Nat) (x : ByteArray) (W : World) : Sem.run Tryz.prog (Instr.field 103 (.agg #[.int .i64 k, .string x, .int .i64 v, .int .u32 a, .int .i64 b, .int .i64 p]) 3) W = .ok (.agg #[.int .u32 a, .int .i64 b]) W := by kernel_rfl
theorem tkf4 (k v a b p : Nat) (x : ByteArray) (W : World) : Sem.run Tryz.prog (Instr.field 103 (.agg #[.int .i64 k, .string x, .int .i64 v, .int .u32 a, .int .i64 b, .int .i64 p]) 4) W = .ok (.int .i64 p) W := by kernel_rfl
section
variable {B b g cap : Nat} {ts : List Tk} {w : World} {s : Sta}
set_option maxHeartbeats 2000000 in
set_option maxRecDepth 20000 in
theorem has_any (h : RdS B b g cap ts s w) (x : Bs) :
    Calls Tryz.prog 58 #[.pointer (some ⟨b, 0, none⟩), .string ⟨x.toArray⟩] w fun e w' => e = .returned (.bool (hasB x s)) ∧ Below w.heap.size w w' := by
  obtain ⟨n, t, ev, ht, hr, hs⟩ := h.ex
  have hh := here_any hr t ht
  obtain ⟨C0, C1, C2⟩ := cells_three hr.c
  unfold tkV at hh
  obtain ⟨X, hX⟩ : ∃ X : ByteArray, X = ⟨x.toArray⟩ := ⟨_, rfl⟩
  obtain ⟨T, hT⟩ : ∃ X : ByteArray, X = ⟨t.text.toArray⟩ := ⟨_, rfl⟩
  have HXT : Hid ((T.toList == X.toList) = decide (t.text = x)) := by
    show _ = _
    rw [hX, hT, ByteArray.toList_eq, ByteArray.toList_eq]
    show (t.text == x) = _
    by_cases h9 : t.text = x
    · rw [decide_eq_true h9, h9]
      simp
    · rw [decide_eq_false h9]
      exact beq_eq_false_iff_ne.2 h9
  rw [← hT] at hh
  rw [← hX]
  clear hX hT hr ht
  rcases hs with ⟨r, hs, _, _, rfl⟩ | ⟨e, hs, rfl⟩
  · have HS : Hid (hasB x s = (T.toList == X.toList)) := by
      show hasB x s = _
      rw [hs, HXT.out]
      rfl
    clear hs HXT
    go_enter Tryz.func58, Tryz.ntmps58
    go_wp2_with fail
    refine hh.mono ?_
    rintro e U ⟨rfl, qU⟩
    clear hh C0 C1 C2
    have f1 := tkf1 t.kind t.val t.a t.b t.pl T
    go_wp2_with fail
    go_ret
    exact ⟨by rw [HS.out]; rfl, qU⟩
  · unfold faV at C2
    have HS : Hid (hasB x s = false) := by show _ = _; rw [hs]; rfl
    clear hs HXT hh
    go_enter Tryz.func58, Tryz.ntmps58
    go_wp2_with fail
    go_ret
    exact ⟨by rw [HS.out]; rfl, Below.refl _ _⟩
set_option maxHeartbeats 2000000 in
set_option maxRecDepth 20000 in
theorem holds_any (h : RdS B b g cap ts s w) (k : Nat) :
    Calls Tryz.prog 44 #[.pointer (some ⟨b, 0, none⟩), .int .i64 k] w fun e w' => e = .returned (.bool (holdsB k s)) ∧ Below w.heap.size w w' := by
  obtain ⟨n, t, ev, ht, hr, hs⟩ := h.ex
  have hh := here_any hr t ht
  obtain ⟨C0, C1, C2⟩ := cells_three hr.c
  unfold tkV at hh
  obtain ⟨X, hX⟩ : ∃ X : ByteArray, X = ⟨t.text.toArray⟩ := ⟨_, rfl⟩
  rw [← hX] at hh
  clear hX hr ht
  rcases hs with ⟨r, hs, _, _, rfl⟩ | ⟨e, hs, rfl⟩
  · have HS : Hid (holdsB k s = ((t.kind : Int) == k)) := by
      show holdsB k s = _
      rw [hs]
      show decide (t.kind = k) = _
      by_cases hk : t.kind = k
      · rw [decide_eq_true hk, hk]
        simp
      · rw [decide_eq_false hk]
        symm
        rw [beq_eq_false_iff_ne]
        omega
    clear hs
    go_enter Tryz.func44, Tryz.ntmps44
    go_wp2_with fail
    refine hh.mono ?_
    rintro e U ⟨rfl, qU⟩
    clear hh C0 C1 C2
    have f1 := tkf0 t.kind t.val t.a t.b t.pl X
    go_wp2_with fail
    go_ret
    exact ⟨by rw [HS.out]; rfl, qU⟩
  · unfold faV at C2
    have HS : Hid (holdsB k s = false) := by show _ = _; rw [hs]; rfl
    clear hs hh
    go_enter Tryz.func44, Tryz.ntmps44
    go_wp2_with fail
    go_ret
    exact ⟨by rw [HS.out]; rfl, Below.refl _ _⟩
set_option maxHeartbeats 2000000 in
set_option maxRecDepth 20000 in
theorem fail_any (h : RdS B b g cap ts s w) (no : Nat) :
    Calls Tryz.prog 45 #[.pointer (some ⟨b, 0, none⟩), .int .i64 no] w fun e w' => e = .returned (.tuple #[]) ∧ RdS B b g cap ts (failS no s) w' ∧ BelX b w w' := by
  obtain ⟨n, t, ev, ht, hr, hs⟩ := h.ex
  have hh := here_any hr t ht
  obtain ⟨C0, C1, C2⟩ := cells_three hr.c
  unfold tkV at hh
  obtain ⟨X, hX⟩ : ∃ X : ByteArray, X = ⟨t.text.toArray⟩ := ⟨_, rfl⟩
  rw [← hX] at hh
  clear hX ht
  rcases hs with ⟨r, hs, _, _, rfl⟩ | ⟨e, hs, rfl⟩
  · have HS : Hid (failS no s = .inr (no, t.pl) ∧ Rd B b g cap ts n .nilIface w) := ⟨by rw [hs]; rfl, hr⟩
    have hwr := wrap_any no t.pl
    unfold faV at hwr
    clear hs hr
    go_enter Tryz.func45, Tryz.ntmps45
    go_wp2_with fail
    refine hh.mono ?_
    rintro e U ⟨rfl, qU⟩
    have hU := HS.out.2.below qU
    obtain ⟨D0, D1, D2⟩ := cells_three hU.c
    have F2 := free_at hU.c 2
    have HU : Hid (Rd B b g cap ts n .nilIface U) := hU
    clear hh C0 C1 C2 hU
    have f1 := tkf4 t.kind t.val t.a t.b t.pl X
    go_wp2_with fail
    refine (hwr _).mono ?_
    rintro e Y ⟨rfl, rfl⟩
    clear hwr
    go_wp2_with fail
    go_returns
    refine ⟨rfl, ?_, (BelX.of b qU).set (.inl rfl) _⟩
    rw [HS.out.1]
    exact ⟨n, HU.out.err _⟩
  · have HS : Hid (failS no s = s) := by show _ = _; rw [hs]; rfl
    unfold faV at C2
    clear hs hh hr
    go_enter Tryz.func45, Tryz.ntmps45
    go_wp2_with fail
    go_returns
    exact ⟨rfl, by rw [HS.out]; exact h, BelX.refl _ _⟩
/-- The token that is next is taken. -/
theorem RdS.take (h : RdS B b g cap ts s w) {t : Tk} {r : List Tk} (hs : s = .inl (t :: r)) (hn : t.kind ≠ 0 ∨ t.text ≠ []) :
    Calls Tryz.prog 77 #[.pointer (some ⟨b, 0, none⟩)] w fun e w' => e = .returned (tkV t) ∧ RdS B b g cap ts (.inl r) w' ∧ BelX b w w' := by
  obtain ⟨n, t', ev, ht, hr, hh⟩ := h.ex
  rcases hh with ⟨r', hs', hd, htl, rfl⟩ | ⟨e, hs', _⟩
  · rw [hs] at hs'
    injection hs' with hs'
    injection hs' with h1 h2
    subst h1
    subst h2
    have hl : n + 1 < ts.length := by
      rcases Nat.lt_or_ge (n + 1) ts.length with hl | hl
      · exact hl
      · obtain ⟨x, y, hxy⟩ := (htl.tl hn).cons
        rw [List.drop_eq_nil_of_le hl] at hd
        rw [← hd] at hxy
        cases hxy
    refine (taken_any hr t ht hl).mono ?_
    rintro e w' ⟨he, h1, h2⟩
    exact ⟨he, ⟨n + 1, hd, htl.tl hn, h1⟩, h2⟩
  · rw [hs] at hs'
    cases hs'
theorem has_some {x : Bs} (h : hasB x s = true) : ∃ t r, s = .inl (t :: r) ∧ t.text = x := by
  cases s with
  | inr e => cases h
  | inl r =>
    cases r with
    | nil => cases h
    | cons t r => exact ⟨t, r, rfl, of_decide_eq_true h⟩
theorem holds_some {k : Nat} (h : holdsB k s = true) : ∃ t r, s = .inl (t :: r) ∧ t.kind = k := by
  cases s with
  | inr e => cases h
  | inl r =>
    cases r with
    | nil => cases h
    | cons t r => exact ⟨t, r, rfl, of_decide_eq_true h⟩
theorem took_yes {x : Bs} {t : Tk} {r : List Tk} (hs : s = .inl (t :: r)) (ht : t.text = x) : stepS (optB x) s = (.inl r, some true) := by
  subst hs
  exact step_ok (by unfold optB; dsimp only; rw [if_pos ht])
theorem took_no {x : Bs} (h : hasB x s = false) : (stepS (optB x) s).1 = s ∧ (stepS (optB x) s).2.getD false = false := by
  cases s with
  | inr e => exact ⟨rfl, rfl⟩
  | inl r =>
    cases r with
    | nil => exact ⟨rfl, rfl⟩
    | cons t r =>
      rw [step_ok (r' := t :: r) (a := false) (by unfold optB; dsimp only; rw [if_neg (of_decide_eq_false h)])]
      exact ⟨rfl, rfl⟩
set_option maxHeartbeats 2000000 in
set_option maxRecDepth 20000 in
theorem took_any (h : RdS B b g cap ts s w) (x : Bs) (hx : x ≠ []) :
    Calls Tryz.prog 76 #[.pointer (some ⟨b, 0, none⟩), .string ⟨x.toArray⟩] w fun e w' => e = .returned (.bool ((stepS (optB x) s).2.getD false)) ∧ RdS B b g cap ts (stepS (optB x) s).1 w' ∧ BelX b w w' := by
  have h1 := has_any h x
  obtain ⟨X, hX⟩ : ∃ X : ByteArray, X = ⟨x.toArray⟩ := ⟨_, rfl⟩
  rw [← hX] at h1 ⊢
  clear hX
  cases hb : hasB x s with
  | false =>
    have HN : Hid _ := took_no hb
    rw [hb] at h1
    go_enter Tryz.func76, Tryz.ntmps76
    go_wp2_with fail
    refine h1.mono ?_
    rintro e U ⟨rfl, qU⟩
    clear h1 hb
    go_wp2_with fail
    go_ret
    exact ⟨by rw [HN.out.2]; rfl, by rw [HN.out.1]; exact h.below qU, BelX.of b qU⟩
  | true =>
    obtain ⟨t, r, hs, htx⟩ := has_some hb
    have HN : Hid _ := took_yes hs htx
    have HT : Hid (∀ U, RdS B b g cap ts s U → Calls Tryz.prog 77 #[.pointer (some ⟨b, 0, none⟩)] U fun e w' => e = .returned (tkV t) ∧ RdS B b g cap ts (.inl r) w' ∧ BelX b U w') := fun U hU => hU.take hs (.inr (by rw [htx]; exact hx))
    rw [hb] at h1
    clear hb hs
    go_enter Tryz.func76, Tryz.ntmps76
    go_wp2_with fail
    refine h1.mono ?_
    rintro e U ⟨rfl, qU⟩
    clear h1
    have h2 := HT.out U (h.below qU)
    go_wp2_with fail
    refine h2.mono ?_
    rintro e Y ⟨rfl, hY, qY⟩
    clear h2
    go_wp2_with fail
    go_ret
    exact ⟨by rw [HN.out]; rfl, by rw [HN.out]; exact hY, (BelX.of b qU).trans qY⟩
end
end Go.Proofs.YtejhgifadohbiaaGreatDoor
namespace Go.Proofs.YtejhgifadohbiaaGreatDoor
open Go.RowKit Go.Lib

section
variable {B b g cap : Nat} {ts : List Tk} {w : World} {s : Sta}
theorem fail_at (h : RdS B b g cap ts s w) {α : Type} {f : List Tk → Res α} {no : Nat} (hf : ∀ t r, s = .inl (t :: r) → f (t :: r) = .inl (no, t.pl)) : failS no s = (stepS f s).1 ∧ (stepS f s).2 = none := by
  obtain ⟨n, t, ev, _, _, hh⟩ := h.ex
  rcases hh with ⟨r, rfl, _⟩ | ⟨e, rfl, _⟩
  · rw [step_no (hf t r rfl)]
    exact ⟨rfl, rfl⟩
  · exact ⟨rfl, rfl⟩
theorem take_yes {x : Bs} (h : hasB x s = true) : (stepS (wordR x) s).1 = (stepS (optB x) s).1 ∧ (stepS (optB x) s).2.getD false = true := by
  obtain ⟨t, r, hs, ht⟩ := has_some h
  rw [took_yes hs ht]
  subst hs
  rw [step_ok (f := wordR x) (r' := r) (a := t.pl) (by unfold wordR; dsimp only; rw [if_pos ht])]
  exact ⟨rfl, rfl⟩
theorem has_not {x : Bs} {t : Tk} {r : List Tk} (h : hasB x s = false) (hs : s = .inl (t :: r)) : t.text ≠ x := by
  subst hs
  exact of_decide_eq_false h
theorem holds_not {k : Nat} {t : Tk} {r : List Tk} (h : holdsB k s = false) (hs : s = .inl (t :: r)) : t.kind ≠ k := by
  subst hs
  exact of_decide_eq_false h
set_option maxHeartbeats 2000000 in
set_option maxRecDepth 20000 in
theorem take_any (h : RdS B b g cap ts s w) (x : Bs) (hx : x ≠ []) :
    Calls Tryz.prog 60 #[.pointer (some ⟨b, 0, none⟩), .string ⟨x.toArray⟩] w fun e w' => e = .returned (.tuple #[]) ∧ RdS B b g cap ts (stepS (wordR x) s).1 w' ∧ BelX b w w' := by
  have h1 := took_any h x hx
  obtain ⟨X, hX⟩ : ∃ X : ByteArray, X = ⟨x.toArray⟩ := ⟨_, rfl⟩
  rw [← hX] at h1 ⊢
  clear hX
  cases hb : hasB x s with
  | true =>
    have HN : Hid _ := take_yes hb
    rw [HN.out.2] at h1
    clear hb
    go_enter Tryz.func60, Tryz.ntmps60
    go_wp2_with fail
    refine h1.mono ?_
    rintro e U ⟨rfl, hU, qU⟩
    clear h1
    go_wp2_with fail
    go_returns
    exact ⟨rfl, by rw [HN.out.1]; exact hU, qU⟩
  | false =>
    have HN : Hid _ := took_no hb
    have HF : Hid _ := fail_at h (f := wordR x) (no := 2) fun t r hs => by unfold wordR; dsimp only; rw [if_neg (has_not hb hs)]
    rw [HN.out.2, HN.out.1] at h1
    clear hb
    go_enter Tryz.func60, Tryz.ntmps60
    go_wp2_with fail
    refine h1.mono ?_
    rintro e U ⟨rfl, hU, qU⟩
    have h2 := fail_any hU 2
    clear h1
    go_wp2_with fail
    refine h2.mono ?_
    rintro e Y ⟨rfl, hY, qY⟩
    clear h2
    go_wp2_with fail
    go_returns
    exact ⟨rfl, by rw [← HF.out.1]; exact hY, qU.trans qY⟩
set_option maxHeartbeats 2000000 in
set_option maxRecDepth 20000 in
theorem name_rd (h : RdS B b g cap ts s w) :
    Calls Tryz.prog 61 #[.pointer (some ⟨b, 0, none⟩)] w fun e w' => e = .returned (.string ⟨((stepS nameR s).2.getD []).toArray⟩) ∧ RdS B b g cap ts (stepS nameR s).1 w' ∧ BelX b w w' := by
  have h1 := holds_any h 1
  cases hb : holdsB 1 s with
  | true =>
    obtain ⟨t, r, hs, ht⟩ := holds_some hb
    have HN : Hid (stepS nameR s = (.inl r, some t.text)) := by
      show _ = _
      rw [hs]
      exact step_ok (by unfold nameR; dsimp only; rw [if_pos ht])
    have HT : Hid (∀ U, RdS B b g cap ts s U → Calls Tryz.prog 77 #[.pointer (some ⟨b, 0, none⟩)] U fun e w' => e = .returned (tkV t) ∧ RdS B b g cap ts (.inl r) w' ∧ BelX b U w') := fun U hU => hU.take hs (.inl (by rw [ht]; decide))
    rw [hb] at h1
    clear hb hs ht
    go_enter Tryz.func61, Tryz.ntmps61
    go_wp2_with fail
    refine h1.mono ?_
    rintro e U ⟨rfl, qU⟩
    clear h1
    have h2 := HT.out U (h.below qU)
    unfold tkV at h2
    go_wp2_with fail
    refine h2.mono ?_
    rintro e Y ⟨rfl, hY, qY⟩
    clear h2
    have f1 := tkf1 t.kind t.val t.a t.b t.pl ⟨t.text.toArray⟩
    go_wp2_with fail
    go_ret
    exact ⟨by rw [HN.out]; rfl, by rw [HN.out]; exact hY, (BelX.of b qU).trans qY⟩
  | false =>
    have HF : Hid _ := fail_at h (f := nameR) (no := 2) fun t r hs => by unfold nameR; dsimp only; rw [if_neg (holds_not hb hs)]
    rw [hb] at h1
    clear hb
    go_enter Tryz.func61, Tryz.ntmps61
    go_wp2_with fail
    refine h1.mono ?_
    rintro e U ⟨rfl, qU⟩
    clear h1
    have h2 := fail_any (h.below qU) 2
    go_wp2_with fail
    refine h2.mono ?_
    rintro e Y ⟨rfl, hY, qY⟩
    clear h2
    go_wp2_with fail
    go_ret
    exact ⟨by rw [HF.out.2]; rfl, by rw [← HF.out.1]; exact hY, (BelX.of b qU).trans qY⟩
def pfV2 (p : Nat × Int) : Value := .agg #[.int .u32 p.1, .int .i64 p.2]
set_option maxHeartbeats 2000000 in
set_option maxRecDepth 20000 in
theorem prefix_rd (h : RdS B b g cap ts s w) :
    Calls Tryz.prog 78 #[.pointer (some ⟨b, 0, none⟩)] w fun e w' => e = .returned (pfV2 ((stepS pfxR s).2.getD (0, 0))) ∧ RdS B b g cap ts (stepS pfxR s).1 w' ∧ BelX b w w' := by
  obtain ⟨br, hbr⟩ : ∃ b, b = w.heap.size := ⟨_, rfl⟩
  obtain ⟨W, hW⟩ : ∃ W, W = w.alloc (.cells #[.int .u32 0, .int .i64 0] 63) := ⟨_, rfl⟩
  obtain ⟨qW, hr, _⟩ := box_at w _ hW hbr
  have HB : Hid (br ≠ b ∧ br ≠ g ∧ w.heap.size ≤ br) := by have := h.old; exact ⟨by omega, by omega, by omega⟩
  have hw := h.below qW
  have h1 := holds_any hw 3
  cases hb : holdsB 3 s with
  | true =>
    obtain ⟨t, r, hs, ht⟩ := holds_some hb
    have HN : Hid (stepS pfxR s = (.inl r, some (t.a, (t.b : Int)))) := by
      show _ = _
      rw [hs]
      exact step_ok (by unfold pfxR; dsimp only; rw [if_pos ht])
    have HT : Hid (∀ U, RdS B b g cap ts s U → Calls Tryz.prog 77 #[.pointer (some ⟨b, 0, none⟩)] U fun e w' => e = .returned (tkV t) ∧ RdS B b g cap ts (.inl r) w' ∧ BelX b U w') := fun U hU => hU.take hs (.inl (by rw [ht]; decide))
    rw [hb] at h1
    clear hb hs ht
    go_enter Tryz.func78, Tryz.ntmps78
    go_wp2_with fail
    rw [← hbr, ← hW]
    clear hW hbr
    refine h1.mono ?_
    rintro e U ⟨rfl, qU⟩
    clear h1
    have h2 := HT.out U (hw.below qU)
    unfold tkV at h2
    go_wp2_with fail
    refine h2.mono ?_
    rintro e Y ⟨rfl, hY, qY⟩
    have hr2 := qY.get (pf_block qU hr) HB.out.1
    have QY : Hid (BelX b w Y) := ((BelX.of b qW).below qU).trans qY
    clear h2 qW qU qY hr hw
    obtain ⟨R0, R1⟩ := cells_two hr2
    have F0 := free_at hr2 0
    have F1 := free_at hr2 1
    have f1 := tkf3 t.kind t.val t.a t.b t.pl ⟨t.text.toArray⟩
    go_wp2_with fail
    obtain ⟨X, hX⟩ : ∃ X, X = (Y.setCell ⟨br, 0, none⟩ (.int .u32 t.a)).setCell ⟨br, 1, none⟩ (.int .i64 t.b) := ⟨_, rfl⟩
    rw [← hX]
    have rX : X.heap[br]? = some (.cells #[.int .u32 t.a, .int .i64 t.b] 63 (0, 0)) := by rw [hX]; exact set_at (i := 1) (set_at (i := 0) hr2 _) _
    have hx : RdS B b g cap ts (.inl r) X := by rw [hX]; exact (hY.cell HB.out.1 HB.out.2.1 _).cell HB.out.1 HB.out.2.1 _
    have qx : BelX b w X := by rw [hX]; exact (QY.out.set (.inr HB.out.2.2) _).set (.inr HB.out.2.2) _
    clear hX R0 R1 F0 F1
    obtain ⟨W0, W1⟩ := cells_two rX
    refine bodyPost_ret (v := .agg #[.int .u32 t.a, .int .i64 t.b]) (by simp [results, Tryz.results78, go_sem, W0, W1]) rfl ?_
    exact ⟨by rw [HN.out]; rfl, by rw [HN.out]; exact hx, qx⟩
  | false =>
    have HF : Hid _ := fail_at h (f := pfxR) (no := 2) fun t r hs => by unfold pfxR; dsimp only; rw [if_neg (holds_not hb hs)]
    rw [hb] at h1
    clear hb
    go_enter Tryz.func78, Tryz.ntmps78
    go_wp2_with fail
    rw [← hbr, ← hW]
    clear hW hbr
    refine h1.mono ?_
    rintro e U ⟨rfl, qU⟩
    clear h1
    have h2 := fail_any (hw.below qU) 2
    go_wp2_with fail
    refine h2.mono ?_
    rintro e Y ⟨rfl, hY, qY⟩
    have hr2 := qY.get (pf_block qU hr) HB.out.1
    have QY : Hid (BelX b w Y) := ((BelX.of b qW).below qU).trans qY
    clear h2 qW qU qY hr hw
    obtain ⟨R0, R1⟩ := cells_two hr2
    have F0 := free_at hr2 0
    have F1 := free_at hr2 1
    go_wp2_with fail
    obtain ⟨X, hX⟩ : ∃ X, X = (Y.setCell ⟨br, 0, none⟩ (.int .u32 0)).setCell ⟨br, 1, none⟩ (.int .i64 0) := ⟨_, rfl⟩
    rw [← hX]
    have rX : X.heap[br]? = some (.cells #[.int .u32 0, .int .i64 0] 63 (0, 0)) := by rw [hX]; exact set_at (i := 1) (set_at (i := 0) hr2 _) _
    have hx : RdS B b g cap ts (failS 2 s) X := by rw [hX]; exact (hY.cell HB.out.1 HB.out.2.1 _).cell HB.out.1 HB.out.2.1 _
    have qx : BelX b w X := by rw [hX]; exact (QY.out.set (.inr HB.out.2.2) _).set (.inr HB.out.2.2) _
    clear hX R0 R1 F0 F1
    obtain ⟨W0, W1⟩ := cells_two rX
    refine bodyPost_ret (v := .agg #[.int .u32 0, .int .i64 0]) (by simp [results, Tryz.results78, go_sem, W0, W1]) rfl ?_
    exact ⟨by rw [HF.out.2]; rfl, by rw [← HF.out.1]; exact hx, qx⟩
set_option maxHeartbeats 2000000 in
set_option maxRecDepth 20000 in
theorem number_rd (h : RdS B b g cap ts s w) (least most : Nat) :
    Calls Tryz.prog 81 #[.pointer (some ⟨b, 0, none⟩), .int .i64 least, .int .i64 most] w fun e w' => e = .returned (.int .i64 ((stepS (numR least most) s).2.getD 0 : Nat)) ∧ RdS B b g cap ts (stepS (numR least most) s).1 w' ∧ BelX b w w' := by
  have h1 := holds_any h 2
  cases hb : holdsB 2 s with
  | true =>
    obtain ⟨t, r, hs, ht⟩ := holds_some hb
    have HH : Hid (∀ U, RdS B b g cap ts s U → Calls Tryz.prog 59 #[.pointer (some ⟨b, 0, none⟩)] U fun e w' => e = .returned (tkV t) ∧ Below U.heap.size U w') := by
      intro U hU
      obtain ⟨n, t', ev, ht', hr, hh⟩ := hU.ex
      rcases hh with ⟨r', hs', _⟩ | ⟨e, hs', _⟩
      · rw [hs] at hs'
        injection hs' with hs'
        injection hs' with e1 _
        subst e1
        exact here_any hr t ht'
      · rw [hs] at hs'
        cases hs'
    rw [hb] at h1
    clear hb
    by_cases hw1 : t.val < least ∨ most < t.val
    · have HN : Hid (stepS (numR least most) s = (failS 6 s, none)) := by
        show _ = _
        rw [hs]
        exact step_no (by unfold numR; dsimp only; rw [if_pos ht, if_pos hw1])
      clear hs ht
      go_enter Tryz.func81, Tryz.ntmps81
      go_wp2_with fail
      refine h1.mono ?_
      rintro e U ⟨rfl, qU⟩
      clear h1
      have hU := h.below qU
      have h2 := HH.out U hU
      unfold tkV at h2
      go_wp2_with fail
      refine h2.mono ?_
      rintro e Y ⟨rfl, qY⟩
      clear h2
      have hY := hU.below qY
      have h3 := fail_any hY 6
      have f1 := tkf2 t.kind t.val t.a t.b t.pl ⟨t.text.toArray⟩
      have HR : Hid (BelX b w Y) := (BelX.of b qU).below qY
      clear hU qU qY
      by_cases hl : t.val < least
      · have d1 : decide ((t.val : Int) < least) = true := decide_eq_true (by omega)
        go_wp2_with fail
        refine h3.mono ?_
        rintro e Z ⟨rfl, hZ, qZ⟩
        clear h3
        go_wp2_with fail
        go_ret
        exact ⟨by rw [HN.out]; rfl, by rw [HN.out]; exact hZ, HR.out.trans qZ⟩
      · have d1 : decide ((t.val : Int) < least) = false := decide_eq_false (by omega)
        have d2 : decide ((most : Int) < t.val) = true := decide_eq_true (by omega)
        go_wp2_with fail
        refine h3.mono ?_
        rintro e Z ⟨rfl, hZ, qZ⟩
        clear h3
        go_wp2_with fail
        go_ret
        exact ⟨by rw [HN.out]; rfl, by rw [HN.out]; exact hZ, HR.out.trans qZ⟩
    · have HN : Hid (stepS (numR least most) s = (.inl r, some t.val)) := by
        show _ = _
        rw [hs]
        exact step_ok (by unfold numR; dsimp only; rw [if_pos ht, if_neg hw1])
      have HT : Hid (∀ U, RdS B b g cap ts s U → Calls Tryz.prog 77 #[.pointer (some ⟨b, 0, none⟩)] U fun e w' => e = .returned (tkV t) ∧ RdS B b g cap ts (.inl r) w' ∧ BelX b U w') := fun U hU => hU.take hs (.inl (by rw [ht]; decide))
      clear hs ht
      go_enter Tryz.func81, Tryz.ntmps81
      go_wp2_with fail
      refine h1.mono ?_
      rintro e U ⟨rfl, qU⟩
      clear h1
      have hU := h.below qU
      have h2 := HH.out U hU
      unfold tkV at h2
      go_wp2_with fail
      refine h2.mono ?_
      rintro e Y ⟨rfl, qY⟩
      clear h2
      have hY := hU.below qY
      have h3 := HT.out Y hY
      unfold tkV at h3
      have f1 := tkf2 t.kind t.val t.a t.b t.pl ⟨t.text.toArray⟩
      have HR : Hid (BelX b w Y) := (BelX.of b qU).below qY
      have d1 : decide ((t.val : Int) < least) = false := decide_eq_false (by omega)
      have d2 : decide ((most : Int) < t.val) = false := decide_eq_false (by omega)
      have n1 : ¬ t.val < least := by omega
      have n2 : ¬ most < t.val := by omega
      clear hU qU qY hw1
      go_wp2_with fail
      refine h3.mono ?_
      rintro e Z ⟨rfl, hZ, qZ⟩
      clear h3
      go_wp2_with fail
      go_ret
      exact ⟨by rw [HN.out]; rfl, by rw [HN.out]; exact hZ, HR.out.trans qZ⟩
  | false =>
    have HF : Hid _ := fail_at h (f := numR least most) (no := 2) fun t r hs => by unfold numR; dsimp only; rw [if_neg (holds_not hb hs)]
    rw [hb] at h1
    clear hb
    go_enter Tryz.func81, Tryz.ntmps81
    go_wp2_with fail
    refine h1.mono ?_
    rintro e U ⟨rfl, qU⟩
    clear h1
    have h2 := fail_any (h.below qU) 2
    go_wp2_with fail
    refine h2.mono ?_
    rintro e Y ⟨rfl, hY, qY⟩
    clear h2
    go_wp2_with fail
    go_ret
    exact ⟨by rw [HF.out.2]; rfl, by rw [← HF.out.1]; exact hY, (BelX.of b qU).trans qY⟩
theorem getD_ret {α β : Type} {f : List Tk → Res α} {φ : α → β} {d : α} {d' : β} {s : Sta} (hd : φ d = d') : (stepS (fun r => (.inr (φ ((stepS f s).2.getD d), r) : Res β)) (stepS f s).1).2.getD d' = φ ((stepS f s).2.getD d) := by
  subst hd
  cases s with
  | inr e => rfl
  | inl r =>
    cases h : f r with
    | inl e => rw [step_no h]; rfl
    | inr p => rw [step_ok (r' := p.2) (a := p.1) (by rw [h])]; rfl
set_option maxHeartbeats 2000000 in
set_option maxRecDepth 20000 in
theorem numB_rd (h : RdS B b g cap ts s w) (x : Bs) (hx : x ≠ []) (most : Nat) :
    Calls Tryz.prog 80 #[.pointer (some ⟨b, 0, none⟩), .string ⟨x.toArray⟩, .int .i64 most] w fun e w' => e = .returned (.int .i64 ((stepS (optN x most) s).2.getD 0)) ∧ RdS B b g cap ts (stepS (optN x most) s).1 w' ∧ BelX b w w' := by
  have h1 := took_any h x hx
  have HO : Hid (stepS (optN x most) s = stepS (fun r => andR (optB x r) fun b r => if b = true then andR (numR 1 most r) (fun n r => .inr ((n : Int), r)) else .inr (0, r)) s) := step_congr fun r _ => optN_is x most r
  have HA : Hid (∀ bo, Agr bo (stepS (optB x) s).2 → stepS (optN x most) s = stepS (fun r => if bo = true then andR (numR 1 most r) (fun n r => .inr ((n : Int), r)) else .inr (0, r)) (stepS (optB x) s).1) := fun bo hb => HO.out.trans (step_and (f := optB x) hb)
  have HB := HA.out _ (Agr.getD false _)
  obtain ⟨X, hX⟩ : ∃ X : ByteArray, X = ⟨x.toArray⟩ := ⟨_, rfl⟩
  rw [← hX] at h1 ⊢
  clear hX HO HA
  obtain ⟨s1, hs1⟩ : ∃ s1, s1 = (stepS (optB x) s).1 := ⟨_, rfl⟩
  rw [← hs1] at h1 HB
  clear hs1
  cases hb : (stepS (optB x) s).2.getD false with
  | false =>
    rw [hb] at h1 HB
    have HN : Hid (stepS (optN x most) s = stepS (fun r => .inr ((0 : Int), r)) s1) := HB
    clear hb HB
    go_enter Tryz.func80, Tryz.ntmps80
    go_wp2_with fail
    refine h1.mono ?_
    rintro e U ⟨rfl, hU, qU⟩
    clear h1
    go_wp2_with fail
    go_ret
    refine ⟨?_, by rw [HN.out, (step_ret (0 : Int) s1).1]; exact hU, qU⟩
    rw [HN.out]
    cases s1 <;> rfl
  | true =>
    rw [hb] at h1 HB
    have HN : Hid (stepS (optN x most) s = stepS (fun r => .inr ((((stepS (numR 1 most) s1).2.getD 0 : Nat) : Int), r)) (stepS (numR 1 most) s1).1) := HB.trans (step_and (f := numR 1 most) (g := fun n r => (.inr ((n : Int), r) : Res Int)) (Agr.getD 0 _))
    clear hb HB
    go_enter Tryz.func80, Tryz.ntmps80
    go_wp2_with fail
    refine h1.mono ?_
    rintro e U ⟨rfl, hU, qU⟩
    clear h1
    have h2 := number_rd hU 1 most
    go_wp2_with fail
    refine h2.mono ?_
    rintro e Y ⟨rfl, hY, qY⟩
    clear h2
    go_wp2_with fail
    go_ret
    refine ⟨?_, by rw [HN.out, (step_ret _ _).1]; exact hY, qU.trans qY⟩
    rw [HN.out, getD_ret (f := numR 1 most) (φ := fun n : Nat => (n : Int)) (d := 0) (d' := 0) rfl]
    rfl
set_option maxHeartbeats 2000000 in
set_option maxRecDepth 20000 in
theorem nameB_rd (h : RdS B b g cap ts s w) (x : Bs) (hx : x ≠ []) :
    Calls Tryz.prog 82 #[.pointer (some ⟨b, 0, none⟩), .string ⟨x.toArray⟩] w fun e w' => e = .returned (.string ⟨((stepS (optS x) s).2.getD []).toArray⟩) ∧ RdS B b g cap ts (stepS (optS x) s).1 w' ∧ BelX b w w' := by
  have h1 := took_any h x hx
  have HB : stepS (optS x) s = stepS (fun r => if (stepS (optB x) s).2.getD false = true then nameR r else .inr ([], r)) (stepS (optB x) s).1 := (step_congr fun r _ => optS_is x r).trans (step_and (f := optB x) (Agr.getD false _))
  obtain ⟨X, hX⟩ : ∃ X : ByteArray, X = ⟨x.toArray⟩ := ⟨_, rfl⟩
  rw [← hX] at h1 ⊢
  clear hX
  obtain ⟨s1, hs1⟩ : ∃ s1, s1 = (stepS (optB x) s).1 := ⟨_, rfl⟩
  rw [← hs1] at h1 HB
  clear hs1
  cases hb : (stepS (optB x) s).2.getD false with
  | false =>
    rw [hb] at h1 HB
    have HN : Hid (stepS (optS x) s = stepS (fun r => .inr (([] : Bs), r)) s1) := HB
    clear hb HB
    go_enter Tryz.func82, Tryz.ntmps82
    go_wp2_with fail
    refine h1.mono ?_
    rintro e U ⟨rfl, hU, qU⟩
    clear h1
    go_wp2_with fail
    go_ret
    refine ⟨?_, by rw [HN.out, (step_ret ([] : Bs) s1).1]; exact hU, qU⟩
    rw [HN.out]
    cases s1 <;> rfl
  | true =>
    rw [hb] at h1 HB
    have HN : Hid (stepS (optS x) s = stepS nameR s1) := HB
    clear hb HB
    go_enter Tryz.func82, Tryz.ntmps82
    go_wp2_with fail
    refine h1.mono ?_
    rintro e U ⟨rfl, hU, qU⟩
    clear h1
    have h2 := name_rd hU
    go_wp2_with fail
    refine h2.mono ?_
    rintro e Y ⟨rfl, hY, qY⟩
    clear h2
    go_wp2_with fail
    go_ret
    exact ⟨by rw [HN.out]; rfl, by rw [HN.out]; exact hY, qU.trans qY⟩
theorem ano_no {x : Bs} {n m : Nat} (h : hasB x s = false) : (stepS (anoR x n m) s).1 = s ∧ (stepS (anoR x n m) s).2.getD false = false := by
  cases s with
  | inr e => exact ⟨rfl, rfl⟩
  | inl r =>
    cases r with
    | nil => exact ⟨rfl, rfl⟩
    | cons t r =>
      rw [step_ok (r' := t :: r) (a := false) (by unfold anoR; dsimp only; rw [if_neg (has_not h rfl)])]
      exact ⟨rfl, rfl⟩
set_option maxHeartbeats 2000000 in
set_option maxRecDepth 20000 in
theorem another_rd (h : RdS B b g cap ts s w) (x : Bs) (n m : Nat) :
    Calls Tryz.prog 41 #[.pointer (some ⟨b, 0, none⟩), .string ⟨x.toArray⟩, .int .i64 n, .int .i64 m] w fun e w' => e = .returned (.bool ((stepS (anoR x n m) s).2.getD false)) ∧ RdS B b g cap ts (stepS (anoR x n m) s).1 w' ∧ BelX b w w' := by
  have h1 := has_any h x
  obtain ⟨X, hX⟩ : ∃ X : ByteArray, X = ⟨x.toArray⟩ := ⟨_, rfl⟩
  rw [← hX] at h1 ⊢
  clear hX
  cases hb : hasB x s with
  | false =>
    have HN : Hid _ := ano_no (n := n) (m := m) hb
    rw [hb] at h1
    clear hb
    go_enter Tryz.func41, Tryz.ntmps41
    go_wp2_with fail
    refine h1.mono ?_
    rintro e U ⟨rfl, qU⟩
    clear h1
    go_wp2_with fail
    go_ret
    exact ⟨by rw [HN.out.2]; rfl, by rw [HN.out.1]; exact h.below qU, BelX.of b qU⟩
  | true =>
    obtain ⟨t, r, hs, ht⟩ := has_some hb
    rw [hb] at h1
    clear hb
    by_cases hnm : n = m
    · have HN : Hid (stepS (anoR x n m) s = (failS 7 s, none)) := by
        show _ = _
        rw [hs]
        exact step_no (by unfold anoR; dsimp only; rw [if_pos ht, if_pos hnm])
      have e1 : ((n : Int) == m) = true := by rw [beq_iff_eq]; omega
      clear hs
      go_enter Tryz.func41, Tryz.ntmps41
      go_wp2_with fail
      refine h1.mono ?_
      rintro e U ⟨rfl, qU⟩
      clear h1
      have h2 := fail_any (h.below qU) 7
      go_wp2_with fail
      refine h2.mono ?_
      rintro e Y ⟨rfl, hY, qY⟩
      clear h2
      go_wp2_with fail
      go_ret
      exact ⟨by rw [HN.out]; rfl, by rw [HN.out]; exact hY, (BelX.of b qU).trans qY⟩
    · have HN : Hid (stepS (anoR x n m) s = (s, some true)) := by
        show _ = _
        rw [hs]
        exact step_ok (by unfold anoR; dsimp only; rw [if_pos ht, if_neg hnm])
      have e1 : ((n : Int) == m) = false := by rw [beq_eq_false_iff_ne]; omega
      clear hs
      go_enter Tryz.func41, Tryz.ntmps41
      go_wp2_with fail
      refine h1.mono ?_
      rintro e U ⟨rfl, qU⟩
      clear h1
      go_wp2_with fail
      go_ret
      exact ⟨by rw [HN.out]; rfl, by rw [HN.out]; exact h.below qU, BelX.of b qU⟩
/-- Whether nothing was wrong. -/
theorem RdS.nil (h : RdS B b g cap ts s w) : ∃ n ev, Rd B b g cap ts n ev w ∧ ((∃ t r, s = .inl (t :: r) ∧ ev = .nilIface) ∨ ∃ e, s = .inr e ∧ ev = faV e.1 e.2) := by
  obtain ⟨n, t, ev, _, hr, hh⟩ := h.ex
  refine ⟨n, ev, hr, ?_⟩
  rcases hh with ⟨r, hs, _, _, he⟩ | ⟨e, hs, he⟩
  · exact .inl ⟨t, r, hs, he⟩
  · exact .inr ⟨e, hs, he⟩
set_option maxHeartbeats 2000000 in
set_option maxRecDepth 20000 in
theorem moreCl_rd (h : RdS B b g cap ts s w) (n : Nat) :
    Calls Tryz.prog 62 #[.pointer (some ⟨b, 0, none⟩), .int .i64 n] w fun e w' => e = .returned (.bool ((stepS (mclR n) s).2.getD false)) ∧ RdS B b g cap ts (stepS (mclR n) s).1 w' ∧ BelX b w w' := by
  have h1 := has_any h [125]
  obtain ⟨k, ev, hr, hh⟩ := h.nil
  obtain ⟨C0, C1, C2⟩ := cells_three hr.c
  clear hr
  rcases hh with ⟨t, r, hs, rfl⟩ | ⟨e, hs, rfl⟩
  · by_cases ht : t.text = [125]
    · have HN : Hid (stepS (mclR n) s = (s, some false)) := by
        show _ = _
        rw [hs]
        exact step_ok (by unfold mclR; dsimp only; rw [if_pos ht])
      rw [show hasB [125] s = true by rw [hs]; exact decide_eq_true ht] at h1
      clear hs
      go_enter Tryz.func62, Tryz.ntmps62
      go_wp2_with fail
      refine h1.mono ?_
      rintro e U ⟨rfl, qU⟩
      clear h1 C0 C1 C2
      go_wp2_with fail
      go_ret
      exact ⟨by rw [HN.out]; rfl, by rw [HN.out]; exact h.below qU, BelX.of b qU⟩
    · rw [show hasB [125] s = false by rw [hs]; exact decide_eq_false ht] at h1
      by_cases hn : n = 16
      · have HN : Hid (stepS (mclR n) s = (failS 7 s, none)) := by
          show _ = _
          rw [hs]
          exact step_no (by unfold mclR; dsimp only; rw [if_neg ht, if_pos hn])
        have e1 : ((n : Int) == 16) = true := by rw [beq_iff_eq]; omega
        clear hs
        go_enter Tryz.func62, Tryz.ntmps62
        go_wp2_with fail
        refine h1.mono ?_
        rintro e U ⟨rfl, qU⟩
        clear h1 C0 C1 C2
        have h2 := fail_any (h.below qU) 7
        go_wp2_with fail
        refine h2.mono ?_
        rintro e Y ⟨rfl, hY, qY⟩
        clear h2
        go_wp2_with fail
        go_ret
        exact ⟨by rw [HN.out]; rfl, by rw [HN.out]; exact hY, (BelX.of b qU).trans qY⟩
      · have HN : Hid (stepS (mclR n) s = (s, some true)) := by
          show _ = _
          rw [hs]
          exact step_ok (by unfold mclR; dsimp only; rw [if_neg ht, if_neg hn])
        have e1 : ((n : Int) == 16) = false := by rw [beq_eq_false_iff_ne]; omega
        clear hs
        go_enter Tryz.func62, Tryz.ntmps62
        go_wp2_with fail
        refine h1.mono ?_
        rintro e U ⟨rfl, qU⟩
        clear h1 C0 C1 C2
        go_wp2_with fail
        go_ret
        exact ⟨by rw [HN.out]; rfl, by rw [HN.out]; exact h.below qU, BelX.of b qU⟩
  · have HN : Hid (stepS (mclR n) s = (s, none)) := by show _ = _; rw [hs]; rfl
    unfold faV at C2
    clear hs h1
    go_enter Tryz.func62, Tryz.ntmps62
    go_wp2_with fail
    go_ret
    exact ⟨by rw [HN.out]; rfl, by rw [HN.out]; exact h, BelX.refl _ _⟩
end
end Go.Proofs.YtejhgifadohbiaaGreatDoor
namespace Go.Proofs.YtejhgifadohbiaaGreatDoor
open Go.RowKit Go.Lib

theorem optT_is (w : Bs) (ts : List Tk) : optT w ts = andR (optB w ts) fun b r => if b = true then tag1 r else .inr (0, r) := by
  cases ts with
  | nil => rfl
  | cons t r =>
    unfold optT optB
    dsimp only
    by_cases h : t.text = w
    · rw [if_pos h, if_pos h]
      rfl
    · rw [if_neg h, if_neg h]
      rfl
theorem tag1_is (ts : List Tk) : tag1 ts = andR (numR 0 3 ts) fun v r => tagsR r (2 ^ v) (v + 1) := by
  cases ts with
  | nil => rfl
  | cons t r =>
    unfold tag1 numR
    dsimp only
    by_cases h : t.kind = 2
    · rw [if_pos h, if_pos h, tagsR.eq_def]
      dsimp only
      rw [if_pos h]
      by_cases h3 : 3 < t.val
      · rw [if_pos h3, if_pos (.inr h3)]
        rfl
      · rw [if_neg h3, if_neg (by omega), if_neg (by omega), Nat.zero_add]
        rfl
    · rw [if_neg h, if_neg h]
      rfl
theorem tags_next {t : Tk} {r : List Tk} {acc v : Nat} (hk : t.kind = 2) (hv : v < t.val) : tagsR (t :: r) acc (v + 1) = andR (numR 0 3 (t :: r)) fun v' r => tagsR r (acc + 2 ^ v') (v' + 1) := by
  rw [tagsR.eq_def]
  unfold numR
  dsimp only
  rw [if_pos hk, if_pos hk]
  by_cases h3 : 3 < t.val
  · rw [if_pos h3, if_pos (.inr h3)]
    rfl
  · rw [if_neg h3, if_neg (by omega), if_neg (by omega)]
    rfl
theorem tags_twice {t : Tk} {r : List Tk} {acc v : Nat} (hk : t.kind = 2) (hv : t.val ≤ v) (h3 : v ≤ 3) : tagsR (t :: r) acc (v + 1) = .inl (4, t.pl) := by
  rw [tagsR.eq_def]
  dsimp only
  rw [if_pos hk, if_neg (by omega), if_pos (by omega)]
theorem tags_stop {s : Sta} {acc v : Nat} (h : holdsB 2 s = false) : (stepS (fun r => tagsR r acc (v + 1)) s).1 = s ∧ Agr acc (stepS (fun r => tagsR r acc (v + 1)) s).2 := by
  cases s with
  | inr e => exact ⟨rfl, Agr.none _⟩
  | inl r =>
    cases r with
    | nil => exact ⟨rfl, Agr.some _⟩
    | cons t r =>
      rw [step_ok (r' := t :: r) (a := acc) (by rw [tagsR.eq_def]; dsimp only; rw [if_neg (holds_not h rfl)])]
      exact ⟨rfl, Agr.some _⟩
theorem pow_mod {v : Nat} (h : v ≤ 3) : ((2 : Int) ^ v % 256) = ((2 ^ v : Nat) : Int) := by
  rcases (show v = 0 ∨ v = 1 ∨ v = 2 ∨ v = 3 by omega) with rfl | rfl | rfl | rfl <;> rfl
def szS : Sta → Nat
  | .inl r => r.length
  | .inr _ => 0
def okS : Sta → Prop
  | .inl _ => True
  | .inr _ => False
theorem num_lt {s : Sta} (least most : Nat) : (stepS (numR least most) s).2.getD 0 ≤ most := by
  cases s with
  | inr e => exact Nat.zero_le _
  | inl r =>
    cases r with
    | nil => exact Nat.zero_le _
    | cons t r =>
      show (resS (numR least most (t :: r))).2.getD 0 ≤ most
      unfold numR
      dsimp only
      split
      · split
        · exact Nat.zero_le _
        · show t.val ≤ most
          omega
      · exact Nat.zero_le _
theorem num_ok {s : Sta} {least most : Nat} (h : okS (stepS (numR least most) s).1) : ∃ t r, s = .inl (t :: r) ∧ (stepS (numR least most) s) = (.inl r, some t.val) := by
  cases s with
  | inr e => exact h.elim
  | inl r =>
    cases r with
    | nil => exact h.elim
    | cons t r =>
      refine ⟨t, r, rfl, ?_⟩
      by_cases hk : t.kind = 2
      · by_cases h2 : t.val < least ∨ most < t.val
        · rw [step_no (e := (6, t.pl)) (by unfold numR; dsimp only; rw [if_pos hk, if_pos h2])] at h
          exact h.elim
        · exact step_ok (by unfold numR; dsimp only; rw [if_pos hk, if_neg h2])
      · rw [step_no (e := (2, t.pl)) (by unfold numR; dsimp only; rw [if_neg hk])] at h
        exact h.elim
theorem num_sz {s : Sta} {least most : Nat} (h : 0 < szS s) : szS (stepS (numR least most) s).1 < szS s := by
  by_cases hk : okS (stepS (numR least most) s).1
  · obtain ⟨t, r, rfl, h2⟩ := num_ok hk
    rw [h2]
    show r.length < (t :: r).length
    simp
  · cases h2 : (stepS (numR least most) s).1 with
    | inl r => rw [h2] at hk; exact absurd trivial hk
    | inr e => exact h
theorem or_add {acc v v' : Nat} (h : acc < 2 ^ (v + 1)) (hv : v < v') : acc ||| 2 ^ v' = acc + 2 ^ v' := by
  have h1 : acc < 2 ^ v' := Nat.lt_of_lt_of_le h (Nat.pow_le_pow_right (by decide) hv)
  have := Nat.two_pow_add_eq_or_of_lt h1 1
  rw [Nat.mul_one] at this
  rw [Nat.or_comm, ← this, Nat.add_comm]
section
variable {B b g cap : Nat} {ts : List Tk} {w : World} {s : Sta}
set_option maxHeartbeats 4000000 in
set_option maxRecDepth 20000 in
theorem tags_rd (h : RdS B b g cap ts s w) (x : Bs) (hx : x ≠ []) :
    Calls Tryz.prog 79 #[.pointer (some ⟨b, 0, none⟩), .string ⟨x.toArray⟩] w fun e w' => ∃ a : Nat, e = .returned (.int .u8 a) ∧ Agr a (stepS (optT x) s).2 ∧ RdS B b g cap ts (stepS (optT x) s).1 w' ∧ BelX b w w' := by
  have h1 := took_any h x hx
  have HB : stepS (optT x) s = stepS (fun r => if (stepS (optB x) s).2.getD false = true then tag1 r else .inr (0, r)) (stepS (optB x) s).1 := (step_congr fun r _ => optT_is x r).trans (step_and (f := optB x) (Agr.getD false _))
  obtain ⟨X, hX⟩ : ∃ X : ByteArray, X = ⟨x.toArray⟩ := ⟨_, rfl⟩
  rw [← hX] at h1 ⊢
  clear hX
  obtain ⟨s1, hs1⟩ : ∃ s1, s1 = (stepS (optB x) s).1 := ⟨_, rfl⟩
  rw [← hs1] at h1 HB
  clear hs1
  obtain ⟨R, hR⟩ : ∃ R, R = stepS (optT x) s := ⟨_, rfl⟩
  rw [← hR] at HB ⊢
  clear hR
  cases hb : (stepS (optB x) s).2.getD false with
  | false =>
    rw [hb] at h1 HB
    have HN : Hid (R = stepS (fun r => .inr ((0 : Nat), r)) s1) := HB
    clear hb HB
    go_enter Tryz.func79, Tryz.ntmps79
    go_wp2_with fail
    refine h1.mono ?_
    rintro e U ⟨rfl, hU, qU⟩
    clear h1
    go_wp2_with fail
    go_ret
    refine ⟨0, rfl, ?_, ?_, qU⟩
    · rw [HN.out]; exact (step_ret (0 : Nat) s1).2
    · rw [HN.out, (step_ret (0 : Nat) s1).1]; exact hU
  | true =>
    rw [hb] at h1 HB
    obtain ⟨v, hv⟩ : ∃ v, v = (stepS (numR 0 3) s1).2.getD 0 := ⟨_, rfl⟩
    have v3 : v ≤ 3 := by rw [hv]; exact num_lt 0 3
    have HN : Hid (R = stepS (fun r => tagsR r (2 ^ v) (v + 1)) (stepS (numR 0 3) s1).1) := by
      have h9 : R = stepS tag1 s1 := HB
      rw [h9, hv]
      exact (step_congr fun r _ => tag1_is r).trans (step_and (f := numR 0 3) (g := fun v r => tagsR r (2 ^ v) (v + 1)) (Agr.getD 0 _))
    have HH : Hid (∀ U, RdS B b g cap ts s1 U → Calls Tryz.prog 81 #[.pointer (some ⟨b, 0, none⟩), .int .i64 0, .int .i64 3] U fun e w' => e = .returned (.int .i64 v) ∧ RdS B b g cap ts (stepS (numR 0 3) s1).1 w' ∧ BelX b U w') := fun U hU => by
      rw [hv]
      exact number_rd hU 0 3
    clear hb HB hv
    go_enter Tryz.func79, Tryz.ntmps79
    go_wp2_with fail
    refine h1.mono ?_
    rintro e U ⟨rfl, hU, qU⟩
    clear h1
    have h2 := HH.out U hU
    go_wp2_with fail
    refine h2.mono ?_
    rintro e Y ⟨rfl, hY, qY⟩
    clear h2
    have HY : Hid (RdS B b g cap ts (stepS (numR 0 3) s1).1 Y ∧ BelX b w Y) := ⟨hY, qU.trans qY⟩
    clear hY qU qY hU
    have v0 : (0 : Int) ≤ v := by omega
    go_wp2_with fail
    rw [pow_mod v3]
    have HV : Hid (v ≤ 3) := v3
    clear v3 v0
    obtain ⟨s2, hs2⟩ : ∃ s2, s2 = (stepS (numR 0 3) s1).1 := ⟨_, rfl⟩
    rw [← hs2] at HN HY
    clear hs2 HH
    go_loopg [5, 6] (szS s2) (fun gm vl vb wr => ∃ (v acc : Nat) (s' : Sta), gm = szS s' ∧ vl = .int .i64 v ∧ vb = .int .u8 acc ∧ Hid (v ≤ 3 ∧ acc < 256 ∧ (okS s' → acc < 2 ^ (v + 1)) ∧ R = stepS (fun r => tagsR r acc (v + 1)) s' ∧ RdS B b g cap ts s' wr ∧ BelX b w wr))
    case atStart =>
      refine ⟨v, 2 ^ v, s2, rfl, rfl, rfl, (⟨HV.out, ?_, fun _ => ?_, HN.out, HY.out.1, HY.out.2⟩ : _ ∧ _ ∧ _ ∧ _ ∧ _ ∧ _)⟩
      · have := Nat.pow_le_pow_right (show 0 < 2 by decide) HV.out
        omega
      · exact Nat.pow_lt_pow_right (by decide) (Nat.lt_succ_self v)
    case round =>
      obtain ⟨v', acc, s', rfl, rfl, rfl, HW⟩ := hrel
      have h1 := holds_any HW.out.2.2.2.2.1 2
      cases hb : holdsB 2 s' with
      | false =>
        have HT : Hid _ := tags_stop (acc := acc) (v := v') hb
        rw [hb] at h1
        clear hb
        go_wp2_with fail
        refine h1.mono ?_
        rintro e Z ⟨rfl, qZ⟩
        clear h1
        go_wp2_with fail
        go_ret
        refine ⟨acc, rfl, ?_, ?_, HW.out.2.2.2.2.2.below qZ⟩
        · rw [HW.out.2.2.2.1]; exact HT.out.2
        · rw [HW.out.2.2.2.1, HT.out.1]; exact HW.out.2.2.2.2.1.below qZ
      | true =>
        obtain ⟨t, r, hs, ht⟩ := holds_some hb
        have HH : Hid (∀ U, RdS B b g cap ts s' U → Calls Tryz.prog 59 #[.pointer (some ⟨b, 0, none⟩)] U fun e w' => e = .returned (tkV t) ∧ Below U.heap.size U w') := by
          intro U hU
          obtain ⟨n, t', ev, ht', hr, hh⟩ := hU.ex
          rcases hh with ⟨r', hs', _⟩ | ⟨e, hs', _⟩
          · rw [hs] at hs'
            injection hs' with hs'
            injection hs' with e1 _
            subst e1
            exact here_any hr t ht'
          · rw [hs] at hs'
            cases hs'
        have HS : Hid (s' = .inl (t :: r) ∧ t.kind = 2) := ⟨hs, ht⟩
        rw [hb] at h1
        clear hb hs ht
        go_wp2_with fail
        refine h1.mono ?_
        rintro e Z ⟨rfl, qZ⟩
        clear h1
        have hZ := HW.out.2.2.2.2.1.below qZ
        have h2 := HH.out Z hZ
        unfold tkV at h2
        go_wp2_with fail
        refine h2.mono ?_
        rintro e Y2 ⟨rfl, qY⟩
        clear h2
        have hY := hZ.below qY
        have HQ : Hid (BelX b w Y2) := (HW.out.2.2.2.2.2.below qZ).below qY
        have f1 := tkf2 t.kind t.val t.a t.b t.pl ⟨t.text.toArray⟩
        clear qZ qY hZ
        by_cases hle : t.val ≤ v'
        · have d1 : decide ((t.val : Int) ≤ v') = true := decide_eq_true (by omega)
          have h3 := fail_any hY 4
          go_wp2_with fail
          refine h3.mono ?_
          rintro e Z ⟨rfl, hZ, qZ⟩
          clear h3
          have HT : Hid (R = (failS 4 s', none)) := by
            show R = _
            rw [HW.out.2.2.2.1, HS.out.1]
            exact step_no (tags_twice HS.out.2 hle HW.out.1)
          go_wp2_with fail
          go_ret
          refine ⟨acc, rfl, ?_, ?_, HQ.out.trans qZ⟩
          · rw [HT.out]; exact Agr.none _
          · rw [HT.out]; exact hZ
        · have d1 : decide ((t.val : Int) ≤ v') = false := decide_eq_false (by omega)
          have n1 : ¬ t.val ≤ v' := hle
          have h3 := number_rd hY 0 3
          obtain ⟨u, hu⟩ : ∃ u, u = (stepS (numR 0 3) s').2.getD 0 := ⟨_, rfl⟩
          have u3 : u ≤ 3 := by rw [hu]; exact num_lt 0 3
          rw [← hu] at h3
          have HU : Hid (u = (stepS (numR 0 3) s').2.getD 0) := hu
          have HG : Hid (szS (stepS (numR 0 3) s').1 < szS s') := num_sz (by rw [HS.out.1]; show 0 < (t :: r).length; simp)
          have hnext : ∃ acc', acc' = acc ||| 2 ^ u ∧ acc' < 256 ∧ (okS (stepS (numR 0 3) s').1 → acc' < 2 ^ (u + 1)) ∧ R = stepS (fun r => tagsR r acc' (u + 1)) (stepS (numR 0 3) s').1 := by
            have hp : (2 : Nat) ^ u < 2 ^ 8 := Nat.pow_lt_pow_right (by decide) (by omega)
            refine ⟨_, rfl, Nat.or_lt_two_pow (n := 8) HW.out.2.1 hp, ?_, ?_⟩
            · intro hok
              obtain ⟨t2, r2, e1, e2⟩ := num_ok hok
              have hacc := HW.out.2.2.1 (by rw [HS.out.1]; trivial)
              have e3 : t2 = t := by
                rw [HS.out.1] at e1
                injection e1 with e1
                injection e1 with e1 _
                exact e1.symm
              have e4 : u = t.val := by rw [hu, e2, e3]; rfl
              rw [or_add hacc (by omega)]
              have : acc < 2 ^ u := Nat.lt_of_lt_of_le hacc (Nat.pow_le_pow_right (by decide) (by omega))
              rw [Nat.pow_succ]
              omega
            · rw [HW.out.2.2.2.1]
              by_cases hok : okS (stepS (numR 0 3) s').1
              · obtain ⟨t2, r2, e1, e2⟩ := num_ok hok
                have hacc := HW.out.2.2.1 (by rw [HS.out.1]; trivial)
                have e3 : t2 = t := by
                  rw [HS.out.1] at e1
                  injection e1 with e1
                  injection e1 with e1 _
                  exact e1.symm
                have e4 : u = t.val := by rw [hu, e2, e3]; rfl
                rw [or_add hacc (by omega), hu]
                refine Eq.trans (step_congr fun r' hr' => ?_) (step_and (f := numR 0 3) (g := fun v r => tagsR r (acc + 2 ^ v) (v + 1)) (Agr.getD 0 _))
                rw [HS.out.1] at hr'
                injection hr' with hr'
                rw [← hr']
                exact tags_next HS.out.2 (by omega)
              · have e5 : stepS (fun r => tagsR r acc (v' + 1)) s' = stepS (fun r => tagsR r (acc + 2 ^ u) (u + 1)) (stepS (numR 0 3) s').1 := by
                  rw [hu]
                  refine Eq.trans (step_congr fun r' hr' => ?_) (step_and (f := numR 0 3) (g := fun v r => tagsR r (acc + 2 ^ v) (v + 1)) (Agr.getD 0 _))
                  rw [HS.out.1] at hr'
                  injection hr' with hr'
                  rw [← hr']
                  exact tags_next HS.out.2 (by omega)
                rw [e5]
                cases h2 : (stepS (numR 0 3) s').1 with
                | inl r => rw [h2] at hok; exact absurd trivial hok
                | inr e => rfl
          obtain ⟨acc', ha1, ha2, ha3, ha4⟩ := hnext
          have HA : Hid ((okS (stepS (numR 0 3) s').1 → acc' < 2 ^ (u + 1)) ∧ R = stepS (fun r => tagsR r acc' (u + 1)) (stepS (numR 0 3) s').1 ∧ u ≤ 3 ∧ acc' < 256) := ⟨ha3, ha4, u3, ha2⟩
          have hor : bits .or .u8 (acc : Int) ((2 : Int) ^ u % 256) = (acc' : Int) := by
            rw [pow_mod u3, ha1]
            exact u8_or_nat acc (2 ^ u) HW.out.2.1 (Nat.lt_of_lt_of_le (Nat.pow_lt_pow_right (by decide) (show u < 8 by omega)) (by decide))
          have hor2 : bits .or .u8 (acc : Int) ((2 : Int) ^ min u 8 % 256) = (acc' : Int) := by rw [Nat.min_eq_left (by omega)]; exact hor
          have u0 : (0 : Int) ≤ u := by omega
          clear ha1 ha2 ha3 ha4 hu u3
          go_wp2_with fail
          refine h3.mono ?_
          rintro e Z ⟨rfl, hZ, qZ⟩
          clear h3
          go_wp2_with fail
          go_roundg (szS (stepS (numR 0 3) s').1)
          case measure => exact HG.out
          case rel => exact ⟨u, acc', _, rfl, rfl, rfl, (⟨HA.out.2.2.1, HA.out.2.2.2, HA.out.1, HA.out.2.1, hZ, HQ.out.trans qZ⟩ : _ ∧ _ ∧ _ ∧ _ ∧ _ ∧ _)⟩
end
end Go.Proofs.YtejhgifadohbiaaGreatDoor
