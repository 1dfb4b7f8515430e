/- What copied and ofPiece do. -/
import Derived.Test.YtejhgifadohbiaaGreatDoorKC
import Derived.Test.YtejhgifadohbiaaGreatDoorShelf2
import Derived.Deep.RegionHeld3
namespace Go.Proofs.YtejhgifadohbiaaGreatDoor
open Go.RowKit Go.Lib

set_option maxHeartbeats 1000000 in
set_option maxRecDepth 20000 in
theorem copy_any (s : ByteArray) (hs : s.size ≤ 281474976710656) (w : World) :
    Calls Tryz.prog 38 #[.string s] w fun e w' => e = .returned (.string s) ∧ Below w.heap.size w w' := by
  have h := fun w => Tryz.stringslite_Clone s w hs
  go_enter Tryz.func38, Tryz.ntmps38
  go_wp2_with (first | (go_at_call 71; refine (h _).mono ?_; rintro e w1 ⟨rfl, q⟩) | go_in)
  go_ret
  exact ⟨rfl, by assumption⟩
/-- A token as it lies, and as a value. -/
def tkL (t : Tk) : List Value := [.int .i64 t.kind, .string ⟨t.text.toArray⟩, .int .i64 t.val, .int .u32 t.a, .int .i64 t.b, .int .i64 t.pl]
def tkV (t : Tk) : Value := .agg #[.int .i64 t.kind, .string ⟨t.text.toArray⟩, .int .i64 t.val, .int .u32 t.a, .int .i64 t.b, .int .i64 t.pl]
def noT : Tk := ⟨0, [], 0, 0, 0, 0⟩
theorem cells_six {w : World} {b t : Nat} {x0 x1 x2 x3 x4 x5 : Value} (h : w.heap[b]? = some (.cells #[x0, x1, x2, x3, x4, x5] t (0, 0))) :
    w.cell? ⟨b, 0, none⟩ = some x0 ∧ w.cell? ⟨b, 1, none⟩ = some x1 ∧ w.cell? ⟨b, 2, none⟩ = some x2 ∧ w.cell? ⟨b, 3, none⟩ = some x3 ∧ w.cell? ⟨b, 4, none⟩ = some x4 ∧ w.cell? ⟨b, 5, none⟩ = some x5 := by
  refine ⟨?_, ?_, ?_, ?_, ?_, ?_⟩ <;> simp [World.cell?, h]
theorem free_six {w : World} {b t : Nat} {x0 x1 x2 x3 x4 x5 : Value} (h : w.heap[b]? = some (.cells #[x0, x1, x2, x3, x4, x5] t (0, 0))) :
    w.frozen? ⟨b, 0, none⟩ = false ∧ w.frozen? ⟨b, 1, none⟩ = false ∧ w.frozen? ⟨b, 2, none⟩ = false ∧ w.frozen? ⟨b, 3, none⟩ = false ∧ w.frozen? ⟨b, 4, none⟩ = false ∧ w.frozen? ⟨b, 5, none⟩ = false := by
  refine ⟨?_, ?_, ?_, ?_, ?_, ?_⟩ <;> simp [World.frozen?, h]
/-- A whole token written. -/
def put6 (w : World) (b : Nat) (t : Tk) : World := (((((w.setCell ⟨b, 0, none⟩ (.int .i64 t.kind)).setCell ⟨b, 1, none⟩ (.string ⟨t.text.toArray⟩)).setCell ⟨b, 2, none⟩ (.int .i64 t.val)).setCell ⟨b, 3, none⟩ (.int .u32 t.a)).setCell ⟨b, 4, none⟩ (.int .i64 t.b)).setCell ⟨b, 5, none⟩ (.int .i64 t.pl)
theorem put_six {w : World} {b ty : Nat} {x0 x1 x2 x3 x4 x5 : Value} (h : w.heap[b]? = some (.cells #[x0, x1, x2, x3, x4, x5] ty (0, 0))) (t : Tk) : (put6 w b t).heap[b]? = some (.cells (tkL t).toArray ty (0, 0)) := by
  have e0 := pf_set (i := 0) h (.int .i64 t.kind)
  have e1 := pf_set (i := 1) e0 (.string ⟨t.text.toArray⟩)
  have e2 := pf_set (i := 2) e1 (.int .i64 t.val)
  have e3 := pf_set (i := 3) e2 (.int .u32 t.a)
  have e4 := pf_set (i := 4) e3 (.int .i64 t.b)
  have e5 := pf_set (i := 5) e4 (.int .i64 t.pl)
  exact e5
theorem put_bel {w U : World} {b B : Nat} (h : Below B w U) (hb : B ≤ b) (t : Tk) : Below B w (put6 U b t) :=
  (((((h.setCell hb _).setCell hb _).setCell hb _).setCell hb _).setCell hb _).setCell hb _
/-- What ofPiece answers. -/
def ofV : Option Tk → Value
  | some t => .tuple #[tkV t, .bool true]
  | none => .tuple #[tkV noT, .bool false]
set_option maxHeartbeats 4000000 in
set_option maxRecDepth 20000 in
theorem of_any (l : List UInt8) (hl : l.length ≤ 65536) (w : World) :
    Calls Tryz.prog 40 #[.string ⟨l.toArray⟩] w fun e w' => e = .returned (ofV (pieceP l)) ∧ Below w.heap.size w w' := by
  have h1 := name_any ⟨l.toArray⟩
  have h2 := copy_any ⟨l.toArray⟩ (by rw [str_size]; omega)
  have h3 := parse_l l (Nat.le_trans hl (by unfold maxLen; decide))
  have h4 := tnum_any ⟨l.toArray⟩
  rw [show (⟨l.toArray⟩ : ByteArray).data.toList = l from rfl] at h1 h4
  obtain ⟨br, hbr⟩ : ∃ b, b = w.heap.size := ⟨_, rfl⟩
  have HBR : Hid (w.heap.size ≤ br) := by show w.heap.size ≤ br; omega
  cases hn : nameP l with
  | true =>
    have HV : Hid (pieceP l = some ⟨1, l, 0, 0, 0, 0⟩) := by show pieceP l = _; unfold pieceP; rw [hn]; rfl
    rw [hn] at h1
    go_enter Tryz.func40, Tryz.ntmps40
    go_wp2_with fail
    rw [← hbr]
    obtain ⟨W, hW⟩ : ∃ W, W = w.alloc (.cells #[.int .i64 0, .string ⟨#[]⟩, .int .i64 0, .int .u32 0, .int .i64 0, .int .i64 0] 103) := ⟨_, rfl⟩
    rw [← hW]
    have hr : W.heap[br]? = some (.cells #[.int .i64 0, .string ⟨#[]⟩, .int .i64 0, .int .u32 0, .int .i64 0, .int .i64 0] 103 (0, 0)) := by rw [hW]; exact pf_new _ _ _ hbr
    have hw : Below w.heap.size w W := by rw [hW]; exact bel_alloc (Below.refl _ _) _
    clear hW hbr
    refine (h1 _).mono ?_
    rintro e w1 ⟨rfl, rfl⟩
    go_wp2_with fail
    refine (h2 _).mono ?_
    rintro e w2 ⟨rfl, q2⟩
    have r1 := pf_block q2 hr
    obtain ⟨R0, R1, R2, R3, R4, R5⟩ := cells_six r1
    obtain ⟨F0, F1, F2, F3, F4, F5⟩ := free_six r1
    have q3 := bel_up hw q2 hw.size
    clear h1 h2 h3 h4
    go_wp2_with fail
    show bodyPost _ _ _ _ _ (put6 w2 br ⟨1, l, 0, 0, 0, 0⟩)
    have r2 : (put6 w2 br ⟨1, l, 0, 0, 0, 0⟩).heap[br]? = some (.cells (tkL ⟨1, l, 0, 0, 0, 0⟩).toArray 103 (0, 0)) := put_six r1 _
    have qX := put_bel q3 HBR.out ⟨1, l, 0, 0, 0, 0⟩
    generalize put6 w2 br ⟨1, l, 0, 0, 0, 0⟩ = X at *
    obtain ⟨W0, W1, W2, W3, W4, W5⟩ := cells_six r2
    refine bodyPost_ret (v := ofV (some ⟨1, l, 0, 0, 0, 0⟩)) (by unfold ofV tkV; simp [results, Tryz.results40, go_sem, W0, W1, W2, W3, W4, W5]) rfl ?_
    exact ⟨by rw [HV.out], qX⟩
  | false =>
    rw [hn] at h1
    go_enter Tryz.func40, Tryz.ntmps40
    go_wp2_with fail
    rw [← hbr]
    obtain ⟨W, hW⟩ : ∃ W, W = w.alloc (.cells #[.int .i64 0, .string ⟨#[]⟩, .int .i64 0, .int .u32 0, .int .i64 0, .int .i64 0] 103) := ⟨_, rfl⟩
    rw [← hW]
    have hr : W.heap[br]? = some (.cells #[.int .i64 0, .string ⟨#[]⟩, .int .i64 0, .int .u32 0, .int .i64 0, .int .i64 0] 103 (0, 0)) := by rw [hW]; exact pf_new _ _ _ hbr
    have hw : Below w.heap.size w W := by rw [hW]; exact bel_alloc (Below.refl _ _) _
    clear hW hbr
    refine (h1 _).mono ?_
    rintro e w1 ⟨rfl, rfl⟩
    cases hp : parseP l with
    | some r =>
      obtain ⟨a, b⟩ := r
      have HV : Hid (pieceP l = some ⟨3, l, 0, a, b, 0⟩) := by show pieceP l = _; unfold pieceP; rw [hn, hp]; rfl
      rw [hp] at h3
      unfold parV pfV at h3
      simp only at h3
      go_wp2_with fail
      refine (h3 _).mono ?_
      rintro e w2 ⟨rfl, q2⟩
      have r1 := pf_block q2 hr
      have q3 := bel_up hw q2 hw.size
      clear h1 h3 h4 hp hn hr q2 hw
      obtain ⟨b4, hb4⟩ : ∃ b, b = w2.heap.size := ⟨_, rfl⟩
      have hne : b4 ≠ br := by
        have := (Array.getElem?_eq_some_iff.1 r1).1
        omega
      go_wp2_with fail
      rw [← hb4]
      obtain ⟨Z, hZ⟩ : ∃ Z, Z = w2.alloc (.cells #[.int .u32 a, .int .i64 b] 63) := ⟨_, rfl⟩
      rw [← hZ]
      have hp4 : Z.heap[b4]? = some (.cells #[.int .u32 a, .int .i64 b] 63 (0, 0)) := by rw [hZ]; exact pf_new _ _ _ hb4
      have qz : Below w2.heap.size w2 Z := by rw [hZ]; exact bel_alloc (Below.refl _ _) _
      have r2 := pf_block qz r1
      have q4 := bel_up q3 qz q3.size
      clear hZ hb4 qz r1 q3
      obtain ⟨z0, z1⟩ := cells_two hp4
      have lz : b4 < Z.heap.size := (Array.getElem?_eq_some_iff.1 hp4).1
      have HC : ∀ Y, Below Z.heap.size Z Y → Y.cell? ⟨b4, 0, none⟩ = some (.int .u32 a) ∧ Y.cell? ⟨b4, 1, none⟩ = some (.int .i64 b) := fun Y hY =>
        ⟨by rw [hY.cell (p := ⟨b4, 0, none⟩) lz]; exact z0, by rw [hY.cell (p := ⟨b4, 1, none⟩) lz]; exact z1⟩
      have HR : Hid (Z.heap[br]? = some (.cells #[.int .i64 0, .string ⟨#[]⟩, .int .i64 0, .int .u32 0, .int .i64 0, .int .i64 0] 103 (0, 0))) := r2
      clear r2 hp4
      go_region_with (first
          | (go_at_call 38; refine (h2 _).mono ?_; rintro e Y ⟨rfl, hbu0⟩; have hbu := bel_up (Below.refl Z.heap.size Z).drew hbu0 (Nat.le_refl _); have r3 := pf_block hbu HR.out; obtain ⟨R0, R1, R2, R3, R4, R5⟩ := cells_six r3; obtain ⟨F0, F1, F2, F3, F4, F5⟩ := free_six r3; obtain ⟨y0, y1⟩ := HC _ hbu))
      all_goals
        have q5 := bel_up q4 hbu q4.size
        clear h2 HC HR z0 z1 y0 y1 hbu hbu0 R0 R1 R2 R3 R4 R5 F0 F1 F2 F3 F4 F5 lz q4
        go_wp2_with fail
        show bodyPost _ _ _ _ _ (put6 Y br ⟨3, l, 0, a, b, 0⟩)
        have rX : (put6 Y br ⟨3, l, 0, a, b, 0⟩).heap[br]? = some (.cells (tkL ⟨3, l, 0, a, b, 0⟩).toArray 103 (0, 0)) := put_six r3 _
        have qX := put_bel q5 HBR.out ⟨3, l, 0, a, b, 0⟩
        generalize put6 Y br ⟨3, l, 0, a, b, 0⟩ = X at *
        obtain ⟨W0, W1, W2, W3, W4, W5⟩ := cells_six rX
        refine bodyPost_ret (v := ofV (some ⟨3, l, 0, a, b, 0⟩)) (by unfold ofV tkV; simp [results, Tryz.results40, go_sem, W0, W1, W2, W3, W4, W5]) rfl ?_
        exact ⟨by rw [HV.out], qX⟩
    | none =>
      have HV0 : Hid (pieceP l = match tnP l with | some n => some ⟨2, l, n, 0, 0, 0⟩ | none => none) := by show pieceP l = _; unfold pieceP; rw [hn, hp]; rfl
      rw [hp] at h3
      unfold parV pfV at h3
      simp only at h3
      go_wp2_with fail
      refine (h3 _).mono ?_
      rintro e w2 ⟨rfl, q2⟩
      have r1 := pf_block q2 hr
      have q3 := bel_up hw q2 hw.size
      clear h1 h3 hp hn hr q2 hw
      obtain ⟨b4, hb4⟩ : ∃ b, b = w2.heap.size := ⟨_, rfl⟩
      go_wp2_with fail
      rw [← hb4]
      obtain ⟨Z, hZ⟩ : ∃ Z, Z = w2.alloc (.cells #[.int .u32 0, .int .i64 0] 63) := ⟨_, rfl⟩
      rw [← hZ]
      have qz : Below w2.heap.size w2 Z := by rw [hZ]; exact bel_alloc (Below.refl _ _) _
      have r2 := pf_block qz r1
      have q4 := bel_up q3 qz q3.size
      clear hZ hb4 qz r1 q3
      cases hm : tnP l with
      | some n =>
        have HV : Hid (pieceP l = some ⟨2, l, n, 0, 0, 0⟩) := by show pieceP l = _; rw [HV0.out, hm]
        rw [hm] at h4
        unfold tnV at h4
        simp only [Option.getD_some, Option.isSome_some] at h4
        clear hm
        refine (h4 _).mono ?_
        rintro e w3 ⟨rfl, rfl⟩
        go_wp2_with fail
        refine (h2 _).mono ?_
        rintro e Y ⟨rfl, hbu⟩
        have r3 := pf_block hbu r2
        have q5 := bel_up q4 hbu q4.size
        obtain ⟨R0, R1, R2, R3, R4, R5⟩ := cells_six r3
        obtain ⟨F0, F1, F2, F3, F4, F5⟩ := free_six r3
        clear h2 h4 r2 q4 hbu
        go_wp2_with fail
        show bodyPost _ _ _ _ _ (put6 Y br ⟨2, l, n, 0, 0, 0⟩)
        have rX : (put6 Y br ⟨2, l, n, 0, 0, 0⟩).heap[br]? = some (.cells (tkL ⟨2, l, n, 0, 0, 0⟩).toArray 103 (0, 0)) := put_six r3 _
        have qX := put_bel q5 HBR.out ⟨2, l, n, 0, 0, 0⟩
        generalize put6 Y br ⟨2, l, n, 0, 0, 0⟩ = X at *
        obtain ⟨W0, W1, W2, W3, W4, W5⟩ := cells_six rX
        refine bodyPost_ret (v := ofV (some ⟨2, l, n, 0, 0, 0⟩)) (by unfold ofV tkV; simp [results, Tryz.results40, go_sem, W0, W1, W2, W3, W4, W5]) rfl ?_
        exact ⟨by rw [HV.out], qX⟩
      | none =>
        have HV : Hid (pieceP l = none) := by show pieceP l = _; rw [HV0.out, hm]
        rw [hm] at h4
        unfold tnV at h4
        simp only [Option.getD_none, Option.isSome_none] at h4
        clear hm
        refine (h4 _).mono ?_
        rintro e w3 ⟨rfl, rfl⟩
        obtain ⟨R0, R1, R2, R3, R4, R5⟩ := cells_six r2
        obtain ⟨F0, F1, F2, F3, F4, F5⟩ := free_six r2
        clear h2 h4
        go_wp2_with fail
        show bodyPost _ _ _ _ _ (put6 w3 br noT)
        have rX : (put6 w3 br noT).heap[br]? = some (.cells (tkL noT).toArray 103 (0, 0)) := put_six r2 _
        have qX := put_bel q4 HBR.out noT
        generalize put6 w3 br noT = X at *
        obtain ⟨W0, W1, W2, W3, W4, W5⟩ := cells_six rX
        refine bodyPost_ret (v := ofV (none)) (by unfold ofV tkV; simp [results, Tryz.results40, go_sem, W0, W1, W2, W3, W4, W5, noT]) rfl ?_
        exact ⟨by rw [HV.out], qX⟩
end Go.Proofs.YtejhgifadohbiaaGreatDoor
