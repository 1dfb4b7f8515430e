/- What Parse does. -/
import Derived.Test.YtejhgifadohbiaaGreatDoorHF
import Derived.Laws.ResultCell
import Derived.Handy
namespace Go.Proofs.YtejhgifadohbiaaGreatDoor
open Go.RowKit Go.Lib

/-- What is read behind some bytes that part numbers. -/
def contP : List UInt8 → Nat → List UInt8 → Option (Nat × Nat)
  | [], a, l => (numP l).bind fun b => if mayP a b then some (a, b) else none
  | c :: cs, a, l => (stepP l c).bind fun x => contP cs (a * 256 + x.1) x.2
theorem cont_is (l : List UInt8) : contP [46, 46, 46, 47] 0 l = parseP l := by
  unfold parseP
  simp only [contP, Nat.zero_mul, Nat.zero_add]
/-- What Parse answers. -/
def parV : Option (Nat × Nat) → Value
  | some r => .tuple #[pfV r.1 r.2, .bool true]
  | none => .tuple #[pfV 0 0, .bool false]
theorem pf_set {w : World} {p i : Nat} {c : Array Value} {e : TypeId} {fr : Nat × Nat} (h : w.heap[p]? = some (.cells c e fr)) (x : Value) : (w.setCell ⟨p, i, none⟩ x).heap[p]? = some (.cells (c.setIfInBounds i x) e fr) := by
  simp [World.setCell, Array.getElem?_modify, h]
theorem or_int (a n : Nat) (ha : a < 16777216) (hn : n < 256) : bits BinOp.or IntKind.u32 ((a : Int) * 256) n = (a * 256 + n : Nat) := by
  have h := u32_or_nat (a * 256) n (by omega) (by omega)
  rw [nat_join 8 (a * 256) n (by omega) hn] at h
  simpa using h
theorem sep_at0 (w : World) : Sem.run Tryz.prog (Instr.index 153 (Value.agg #[.string ⟨#[46]⟩, .string ⟨#[46]⟩, .string ⟨#[46]⟩, .string ⟨#[47]⟩]) (.int .i64 0)) w = .ok (.string ⟨#[46]⟩) w := by kernel_rfl
theorem sep_at1 (w : World) : Sem.run Tryz.prog (Instr.index 153 (Value.agg #[.string ⟨#[46]⟩, .string ⟨#[46]⟩, .string ⟨#[46]⟩, .string ⟨#[47]⟩]) (.int .i64 1)) w = .ok (.string ⟨#[46]⟩) w := by kernel_rfl
theorem sep_at2 (w : World) : Sem.run Tryz.prog (Instr.index 153 (Value.agg #[.string ⟨#[46]⟩, .string ⟨#[46]⟩, .string ⟨#[46]⟩, .string ⟨#[47]⟩]) (.int .i64 2)) w = .ok (.string ⟨#[46]⟩) w := by kernel_rfl
theorem sep_at3 (w : World) : Sem.run Tryz.prog (Instr.index 153 (Value.agg #[.string ⟨#[46]⟩, .string ⟨#[46]⟩, .string ⟨#[46]⟩, .string ⟨#[47]⟩]) (.int .i64 3)) w = .ok (.string ⟨#[47]⟩) w := by kernel_rfl
theorem number_l (l : List UInt8) (w : World) :
    Calls Tryz.prog 75 #[.string ⟨l.toArray⟩] w fun e w' => e = .returned (numV (numP l)) ∧ w' = w := number_any ⟨l.toArray⟩ w
theorem pcut_l (l : List UInt8) (c : UInt8) (hl : l.length ≤ maxLen) (w : World) :
    Calls Tryz.prog 74 #[.string ⟨l.toArray⟩, .string ⟨#[c]⟩] w fun e w' => e = .returned (cutV l (cutP l c)) ∧ Below w.heap.size w w' := pcut_any ⟨l.toArray⟩ c (by rw [str_size]; exact hl) w
theorem free_two {w : World} {b t : Nat} {x y : Value} (h : w.heap[b]? = some (.cells #[x, y] t (0, 0))) : w.frozen? ⟨b, 0, none⟩ = false ∧ w.frozen? ⟨b, 1, none⟩ = false := by
  constructor <;> simp [World.frozen?, h]
theorem put_two {w : World} {b t : Nat} {x y : Value} (h : w.heap[b]? = some (.cells #[x, y] t (0, 0))) (u v : Value) : ((w.setCell ⟨b, 0, none⟩ u).setCell ⟨b, 1, none⟩ v).heap[b]? = some (.cells #[u, v] t (0, 0)) := by
  rw [pf_set (pf_set h u) v]
  rfl
set_option maxHeartbeats 8000000 in
set_option maxRecDepth 20000 in
theorem parse_l (l0 : List UInt8) (hl0 : l0.length ≤ maxLen) (w : World) :
    Calls Tryz.prog 56 #[.string ⟨l0.toArray⟩] w fun e w' => e = .returned (parV (parseP l0)) ∧ Below w.heap.size w w' := by
  have HS : Hid (contP [46, 46, 46, 47] 0 l0 = parseP l0) := cont_is _
  have HL : Hid (l0.length ≤ maxLen) := hl0
  clear hl0
  go_enter Tryz.func56, Tryz.ntmps56
  go_wp2_with fail
  obtain ⟨br, hbr⟩ : ∃ b, b = w.heap.size := ⟨_, rfl⟩
  obtain ⟨bp, hbp⟩ : ∃ b, b = w.heap.size + 1 := ⟨_, rfl⟩
  obtain ⟨U, hU⟩ : ∃ U, U = (w.alloc (.cells #[.int .u32 0, .int .i64 0] 63)).alloc (.cells #[.int .u32 0, .int .i64 0] 63) := ⟨_, rfl⟩
  rw [← hU, ← hbp, ← hbr]
  have hwU : Below w.heap.size w U := by rw [hU]; exact bel_alloc (bel_alloc (Below.refl _ _) _) _
  have s1 : (w.alloc (.cells #[.int .u32 0, .int .i64 0] 63)).heap.size = w.heap.size + 1 := by simp
  have hrU : U.heap[br]? = some (.cells #[.int .u32 0, .int .i64 0] 63 (0, 0)) := by
    rw [hU]
    exact pf_block (bel_alloc (Below.refl _ _) _) (pf_new _ _ _ hbr)
  have hpU : U.heap[bp]? = some (.cells #[.int .u32 0, .int .i64 0] 63 (0, 0)) := by rw [hU]; exact pf_new _ _ _ (by rw [s1]; exact hbp)
  have hnb : bp ≠ br := by omega
  have HBR : Hid (w.heap.size ≤ br ∧ w.heap.size ≤ bp) := by show w.heap.size ≤ br ∧ w.heap.size ≤ bp; omega
  clear hU hbr hbp s1
  go_loopw [0, 15] (fun sv i wr => ∃ (k a : Nat) (l : List UInt8), k ≤ 4 ∧ i = .int .i64 k ∧ sv = .string ⟨l.toArray⟩ ∧ l.length ≤ maxLen ∧ a < 256 ^ k ∧ wr.heap[br]? = some (.cells #[.int .u32 0, .int .i64 0] 63 (0, 0)) ∧ wr.heap[bp]? = some (.cells #[.int .u32 a, .int .i64 0] 63 (0, 0)) ∧ Below w.heap.size w wr ∧ contP (([46, 46, 46, 47] : List UInt8).drop k) a l = parseP l0) (fun _ i _ => 4 - (RowKit.intOf i).toNat)
  case atStart => exact ⟨0, 0, l0, Nat.zero_le _, rfl, rfl, HL.out, by decide, hrU, hpU, hwU, HS.out⟩
  case round =>
    obtain ⟨k, a, l, hk, rfl, rfl, hl, ha, hr, hp, hw, HJ⟩ := hrel
    clear hrU hpU hwU HS HL
    by_cases hlt : k < 4
    · have hk' : k = 0 ∨ k = 1 ∨ k = 2 ∨ k = 3 := by omega
      rcases hk' with rfl | rfl | rfl | rfl
      · have HJ' : Hid ((stepP l 46).bind (fun x => contP [46, 46, 47] (a * 256 + x.1) x.2) = parseP l0) := HJ
        have ha' : a < 16777216 := Nat.lt_of_lt_of_le ha (by decide)
        have HA : Hid (a < 256 ^ 0) := ha
        clear HJ ha
        have pc := pcut_l l 46 hl
        cases hc : cutP l 46 with
        | none =>
          have hno : parseP l0 = none := by
            have h := HJ'.out
            unfold stepP at h
            rw [hc] at h
            exact h.symm
          have HNO : Hid (parseP l0 = none) := hno
          rw [hc] at pc
          have pn := number_l l
          obtain ⟨n0, hn0⟩ : ∃ x : Nat, x = (numP l).getD 0 := ⟨_, rfl⟩
          obtain ⟨k0, hk0⟩ : ∃ x : Bool, x = (numP l).isSome := ⟨_, rfl⟩
          unfold numV at pn
          rw [← hn0, ← hk0] at pn
          unfold cutV strV at pc
          clear hno hc HJ' hn0 hk0
          rw [show ((0 : Nat) : Int) = 0 from rfl]
          have hix := sep_at0
          go_wp2_with fail
          refine (pc _).mono ?_
          rintro e w1 ⟨rfl, q1⟩
          have r1 := pf_block q1 hr
          obtain ⟨R0, R1⟩ := cells_two r1
          obtain ⟨F0, F1⟩ := free_two r1
          have q2 := bel_up hw q1 hw.size
          clear pc
          go_wp2_with fail
          refine (pn _).mono ?_
          rintro e w2 ⟨rfl, rfl⟩
          clear pn
          go_wp2_with fail
          rw [HNO.out]
          obtain ⟨W, hW⟩ : ∃ W, W = (w2.setCell ⟨br, 0, none⟩ (.int .u32 0)).setCell ⟨br, 1, none⟩ (.int .i64 0) := ⟨_, rfl⟩
          rw [← hW]
          have r2 : W.heap[br]? = some (.cells #[.int .u32 0, .int .i64 0] 63 (0, 0)) := by rw [hW]; exact put_two r1 _ _
          obtain ⟨W0, W1⟩ := cells_two r2
          have qW : Below w.heap.size w W := by rw [hW]; exact (q2.setCell HBR.out.1 _).setCell HBR.out.1 _
          clear hW
          refine bodyPost_ret (v := parV none) (by unfold parV pfV; simp [results, Tryz.results56, go_sem, W0, W1]) rfl ?_
          exact ⟨rfl, qW⟩
        | some r =>
          obtain ⟨x, q⟩ := r
          have hcut := cut_is hc
          have HQ : Hid (q.length ≤ maxLen) := by
            show q.length ≤ maxLen
            have e := congrArg List.length hcut
            simp only [List.length_append, List.length_cons] at e
            omega
          have pn := number_l x
          rw [hc] at pc
          unfold cutV strV at pc
          cases hn : numP x with
          | none =>
            have hno : parseP l0 = none := by
              have h := HJ'.out
              unfold stepP at h
              rw [hc] at h
              simp only [Option.bind_some, hn, Option.map_none, Option.bind_none] at h
              exact h.symm
            have HNO : Hid (parseP l0 = none) := hno
            rw [hn] at pn
            unfold numV at pn
            simp only [Option.getD_none, Option.isSome_none] at pn
            clear hno hc HJ' hcut hn
            rw [show ((0 : Nat) : Int) = 0 from rfl]
            have hix := sep_at0
            go_wp2_with fail
            refine (pc _).mono ?_
            rintro e w1 ⟨rfl, q1⟩
            have r1 := pf_block q1 hr
            obtain ⟨R0, R1⟩ := cells_two r1
            obtain ⟨F0, F1⟩ := free_two r1
            have q2 := bel_up hw q1 hw.size
            clear pc
            go_wp2_with fail
            refine (pn _).mono ?_
            rintro e w2 ⟨rfl, rfl⟩
            clear pn
            go_wp2_with fail
            rw [HNO.out]
            obtain ⟨W, hW⟩ : ∃ W, W = (w2.setCell ⟨br, 0, none⟩ (.int .u32 0)).setCell ⟨br, 1, none⟩ (.int .i64 0) := ⟨_, rfl⟩
            rw [← hW]
            have r2 : W.heap[br]? = some (.cells #[.int .u32 0, .int .i64 0] 63 (0, 0)) := by rw [hW]; exact put_two r1 _ _
            obtain ⟨W0, W1⟩ := cells_two r2
            have qW : Below w.heap.size w W := by rw [hW]; exact (q2.setCell HBR.out.1 _).setCell HBR.out.1 _
            clear hW
            refine bodyPost_ret (v := parV none) (by unfold parV pfV; simp [results, Tryz.results56, go_sem, W0, W1]) rfl ?_
            exact ⟨rfl, qW⟩
          | some n =>
            have hn255 := (num_is hn).1
            have HN : Hid (contP [46, 46, 47] (a * 256 + n) q = parseP l0) := by
              have h := HJ'.out
              unfold stepP at h
              rw [hc] at h
              simp only [Option.bind_some, hn, Option.map_some] at h
              exact h
            rw [hn] at pn
            unfold numV at pn
            simp only [Option.getD_some, Option.isSome_some] at pn
            have hor := or_int a n ha' (by omega)
            clear hc HJ' hcut hn
            rw [show ((0 : Nat) : Int) = 0 from rfl]
            have hix := sep_at0
            go_wp2_with fail
            refine (pc _).mono ?_
            rintro e w1 ⟨rfl, q1⟩
            have r1 := pf_block q1 hr
            obtain ⟨R0, R1⟩ := cells_two r1
            obtain ⟨F0, F1⟩ := free_two r1
            have q2 := bel_up hw q1 hw.size
            clear pc
            go_wp2_with fail
            refine (pn _).mono ?_
            rintro e w2 ⟨rfl, rfl⟩
            clear pn
            have p1 := pf_block q1 hp
            obtain ⟨P0, P1⟩ := cells_two p1
            obtain ⟨G0, G1⟩ := free_two p1
            go_wp2_with fail
            go_roundw
            case rel =>
              refine ⟨0 + 1, a * 256 + n, q, by omega, by go_num, rfl, HQ.out, ?_, ?_, ?_, ?_, HN.out⟩
              · have := HA.out
                rw [Nat.pow_succ]
                omega
              · rw [Below.heap_setCell _ _ _ _ (by simpa using hnb.symm)]
                exact r1
              · rw [pf_set p1]
                rfl
              · exact q2.setCell HBR.out.2 _
            case measure => simp [RowKit.intOf]
      · have HJ' : Hid ((stepP l 46).bind (fun x => contP [46, 47] (a * 256 + x.1) x.2) = parseP l0) := HJ
        have ha' : a < 16777216 := Nat.lt_of_lt_of_le ha (by decide)
        have HA : Hid (a < 256 ^ 1) := ha
        clear HJ ha
        have pc := pcut_l l 46 hl
        cases hc : cutP l 46 with
        | none =>
          have hno : parseP l0 = none := by
            have h := HJ'.out
            unfold stepP at h
            rw [hc] at h
            exact h.symm
          have HNO : Hid (parseP l0 = none) := hno
          rw [hc] at pc
          have pn := number_l l
          obtain ⟨n0, hn0⟩ : ∃ x : Nat, x = (numP l).getD 0 := ⟨_, rfl⟩
          obtain ⟨k0, hk0⟩ : ∃ x : Bool, x = (numP l).isSome := ⟨_, rfl⟩
          unfold numV at pn
          rw [← hn0, ← hk0] at pn
          unfold cutV strV at pc
          clear hno hc HJ' hn0 hk0
          rw [show ((1 : Nat) : Int) = 1 from rfl]
          have hix := sep_at1
          go_wp2_with fail
          refine (pc _).mono ?_
          rintro e w1 ⟨rfl, q1⟩
          have r1 := pf_block q1 hr
          obtain ⟨R0, R1⟩ := cells_two r1
          obtain ⟨F0, F1⟩ := free_two r1
          have q2 := bel_up hw q1 hw.size
          clear pc
          go_wp2_with fail
          refine (pn _).mono ?_
          rintro e w2 ⟨rfl, rfl⟩
          clear pn
          go_wp2_with fail
          rw [HNO.out]
          obtain ⟨W, hW⟩ : ∃ W, W = (w2.setCell ⟨br, 0, none⟩ (.int .u32 0)).setCell ⟨br, 1, none⟩ (.int .i64 0) := ⟨_, rfl⟩
          rw [← hW]
          have r2 : W.heap[br]? = some (.cells #[.int .u32 0, .int .i64 0] 63 (0, 0)) := by rw [hW]; exact put_two r1 _ _
          obtain ⟨W0, W1⟩ := cells_two r2
          have qW : Below w.heap.size w W := by rw [hW]; exact (q2.setCell HBR.out.1 _).setCell HBR.out.1 _
          clear hW
          refine bodyPost_ret (v := parV none) (by unfold parV pfV; simp [results, Tryz.results56, go_sem, W0, W1]) rfl ?_
          exact ⟨rfl, qW⟩
        | some r =>
          obtain ⟨x, q⟩ := r
          have hcut := cut_is hc
          have HQ : Hid (q.length ≤ maxLen) := by
            show q.length ≤ maxLen
            have e := congrArg List.length hcut
            simp only [List.length_append, List.length_cons] at e
            omega
          have pn := number_l x
          rw [hc] at pc
          unfold cutV strV at pc
          cases hn : numP x with
          | none =>
            have hno : parseP l0 = none := by
              have h := HJ'.out
              unfold stepP at h
              rw [hc] at h
              simp only [Option.bind_some, hn, Option.map_none, Option.bind_none] at h
              exact h.symm
            have HNO : Hid (parseP l0 = none) := hno
            rw [hn] at pn
            unfold numV at pn
            simp only [Option.getD_none, Option.isSome_none] at pn
            clear hno hc HJ' hcut hn
            rw [show ((1 : Nat) : Int) = 1 from rfl]
            have hix := sep_at1
            go_wp2_with fail
            refine (pc _).mono ?_
            rintro e w1 ⟨rfl, q1⟩
            have r1 := pf_block q1 hr
            obtain ⟨R0, R1⟩ := cells_two r1
            obtain ⟨F0, F1⟩ := free_two r1
            have q2 := bel_up hw q1 hw.size
            clear pc
            go_wp2_with fail
            refine (pn _).mono ?_
            rintro e w2 ⟨rfl, rfl⟩
            clear pn
            go_wp2_with fail
            rw [HNO.out]
            obtain ⟨W, hW⟩ : ∃ W, W = (w2.setCell ⟨br, 0, none⟩ (.int .u32 0)).setCell ⟨br, 1, none⟩ (.int .i64 0) := ⟨_, rfl⟩
            rw [← hW]
            have r2 : W.heap[br]? = some (.cells #[.int .u32 0, .int .i64 0] 63 (0, 0)) := by rw [hW]; exact put_two r1 _ _
            obtain ⟨W0, W1⟩ := cells_two r2
            have qW : Below w.heap.size w W := by rw [hW]; exact (q2.setCell HBR.out.1 _).setCell HBR.out.1 _
            clear hW
            refine bodyPost_ret (v := parV none) (by unfold parV pfV; simp [results, Tryz.results56, go_sem, W0, W1]) rfl ?_
            exact ⟨rfl, qW⟩
          | some n =>
            have hn255 := (num_is hn).1
            have HN : Hid (contP [46, 47] (a * 256 + n) q = parseP l0) := by
              have h := HJ'.out
              unfold stepP at h
              rw [hc] at h
              simp only [Option.bind_some, hn, Option.map_some] at h
              exact h
            rw [hn] at pn
            unfold numV at pn
            simp only [Option.getD_some, Option.isSome_some] at pn
            have hor := or_int a n ha' (by omega)
            clear hc HJ' hcut hn
            rw [show ((1 : Nat) : Int) = 1 from rfl]
            have hix := sep_at1
            go_wp2_with fail
            refine (pc _).mono ?_
            rintro e w1 ⟨rfl, q1⟩
            have r1 := pf_block q1 hr
            obtain ⟨R0, R1⟩ := cells_two r1
            obtain ⟨F0, F1⟩ := free_two r1
            have q2 := bel_up hw q1 hw.size
            clear pc
            go_wp2_with fail
            refine (pn _).mono ?_
            rintro e w2 ⟨rfl, rfl⟩
            clear pn
            have p1 := pf_block q1 hp
            obtain ⟨P0, P1⟩ := cells_two p1
            obtain ⟨G0, G1⟩ := free_two p1
            go_wp2_with fail
            go_roundw
            case rel =>
              refine ⟨1 + 1, a * 256 + n, q, by omega, by go_num, rfl, HQ.out, ?_, ?_, ?_, ?_, HN.out⟩
              · have := HA.out
                rw [Nat.pow_succ]
                omega
              · rw [Below.heap_setCell _ _ _ _ (by simpa using hnb.symm)]
                exact r1
              · rw [pf_set p1]
                rfl
              · exact q2.setCell HBR.out.2 _
            case measure => simp [RowKit.intOf]
      · have HJ' : Hid ((stepP l 46).bind (fun x => contP [47] (a * 256 + x.1) x.2) = parseP l0) := HJ
        have ha' : a < 16777216 := Nat.lt_of_lt_of_le ha (by decide)
        have HA : Hid (a < 256 ^ 2) := ha
        clear HJ ha
        have pc := pcut_l l 46 hl
        cases hc : cutP l 46 with
        | none =>
          have hno : parseP l0 = none := by
            have h := HJ'.out
            unfold stepP at h
            rw [hc] at h
            exact h.symm
          have HNO : Hid (parseP l0 = none) := hno
          rw [hc] at pc
          have pn := number_l l
          obtain ⟨n0, hn0⟩ : ∃ x : Nat, x = (numP l).getD 0 := ⟨_, rfl⟩
          obtain ⟨k0, hk0⟩ : ∃ x : Bool, x = (numP l).isSome := ⟨_, rfl⟩
          unfold numV at pn
          rw [← hn0, ← hk0] at pn
          unfold cutV strV at pc
          clear hno hc HJ' hn0 hk0
          rw [show ((2 : Nat) : Int) = 2 from rfl]
          have hix := sep_at2
          go_wp2_with fail
          refine (pc _).mono ?_
          rintro e w1 ⟨rfl, q1⟩
          have r1 := pf_block q1 hr
          obtain ⟨R0, R1⟩ := cells_two r1
          obtain ⟨F0, F1⟩ := free_two r1
          have q2 := bel_up hw q1 hw.size
          clear pc
          go_wp2_with fail
          refine (pn _).mono ?_
          rintro e w2 ⟨rfl, rfl⟩
          clear pn
          go_wp2_with fail
          rw [HNO.out]
          obtain ⟨W, hW⟩ : ∃ W, W = (w2.setCell ⟨br, 0, none⟩ (.int .u32 0)).setCell ⟨br, 1, none⟩ (.int .i64 0) := ⟨_, rfl⟩
          rw [← hW]
          have r2 : W.heap[br]? = some (.cells #[.int .u32 0, .int .i64 0] 63 (0, 0)) := by rw [hW]; exact put_two r1 _ _
          obtain ⟨W0, W1⟩ := cells_two r2
          have qW : Below w.heap.size w W := by rw [hW]; exact (q2.setCell HBR.out.1 _).setCell HBR.out.1 _
          clear hW
          refine bodyPost_ret (v := parV none) (by unfold parV pfV; simp [results, Tryz.results56, go_sem, W0, W1]) rfl ?_
          exact ⟨rfl, qW⟩
        | some r =>
          obtain ⟨x, q⟩ := r
          have hcut := cut_is hc
          have HQ : Hid (q.length ≤ maxLen) := by
            show q.length ≤ maxLen
            have e := congrArg List.length hcut
            simp only [List.length_append, List.length_cons] at e
            omega
          have pn := number_l x
          rw [hc] at pc
          unfold cutV strV at pc
          cases hn : numP x with
          | none =>
            have hno : parseP l0 = none := by
              have h := HJ'.out
              unfold stepP at h
              rw [hc] at h
              simp only [Option.bind_some, hn, Option.map_none, Option.bind_none] at h
              exact h.symm
            have HNO : Hid (parseP l0 = none) := hno
            rw [hn] at pn
            unfold numV at pn
            simp only [Option.getD_none, Option.isSome_none] at pn
            clear hno hc HJ' hcut hn
            rw [show ((2 : Nat) : Int) = 2 from rfl]
            have hix := sep_at2
            go_wp2_with fail
            refine (pc _).mono ?_
            rintro e w1 ⟨rfl, q1⟩
            have r1 := pf_block q1 hr
            obtain ⟨R0, R1⟩ := cells_two r1
            obtain ⟨F0, F1⟩ := free_two r1
            have q2 := bel_up hw q1 hw.size
            clear pc
            go_wp2_with fail
            refine (pn _).mono ?_
            rintro e w2 ⟨rfl, rfl⟩
            clear pn
            go_wp2_with fail
            rw [HNO.out]
            obtain ⟨W, hW⟩ : ∃ W, W = (w2.setCell ⟨br, 0, none⟩ (.int .u32 0)).setCell ⟨br, 1, none⟩ (.int .i64 0) := ⟨_, rfl⟩
            rw [← hW]
            have r2 : W.heap[br]? = some (.cells #[.int .u32 0, .int .i64 0] 63 (0, 0)) := by rw [hW]; exact put_two r1 _ _
            obtain ⟨W0, W1⟩ := cells_two r2
            have qW : Below w.heap.size w W := by rw [hW]; exact (q2.setCell HBR.out.1 _).setCell HBR.out.1 _
            clear hW
            refine bodyPost_ret (v := parV none) (by unfold parV pfV; simp [results, Tryz.results56, go_sem, W0, W1]) rfl ?_
            exact ⟨rfl, qW⟩
          | some n =>
            have hn255 := (num_is hn).1
            have HN : Hid (contP [47] (a * 256 + n) q = parseP l0) := by
              have h := HJ'.out
              unfold stepP at h
              rw [hc] at h
              simp only [Option.bind_some, hn, Option.map_some] at h
              exact h
            rw [hn] at pn
            unfold numV at pn
            simp only [Option.getD_some, Option.isSome_some] at pn
            have hor := or_int a n ha' (by omega)
            clear hc HJ' hcut hn
            rw [show ((2 : Nat) : Int) = 2 from rfl]
            have hix := sep_at2
            go_wp2_with fail
            refine (pc _).mono ?_
            rintro e w1 ⟨rfl, q1⟩
            have r1 := pf_block q1 hr
            obtain ⟨R0, R1⟩ := cells_two r1
            obtain ⟨F0, F1⟩ := free_two r1
            have q2 := bel_up hw q1 hw.size
            clear pc
            go_wp2_with fail
            refine (pn _).mono ?_
            rintro e w2 ⟨rfl, rfl⟩
            clear pn
            have p1 := pf_block q1 hp
            obtain ⟨P0, P1⟩ := cells_two p1
            obtain ⟨G0, G1⟩ := free_two p1
            go_wp2_with fail
            go_roundw
            case rel =>
              refine ⟨2 + 1, a * 256 + n, q, by omega, by go_num, rfl, HQ.out, ?_, ?_, ?_, ?_, HN.out⟩
              · have := HA.out
                rw [Nat.pow_succ]
                omega
              · rw [Below.heap_setCell _ _ _ _ (by simpa using hnb.symm)]
                exact r1
              · rw [pf_set p1]
                rfl
              · exact q2.setCell HBR.out.2 _
            case measure => simp [RowKit.intOf]
      · have HJ' : Hid ((stepP l 47).bind (fun x => contP [] (a * 256 + x.1) x.2) = parseP l0) := HJ
        have ha' : a < 16777216 := Nat.lt_of_lt_of_le ha (by decide)
        have HA : Hid (a < 256 ^ 3) := ha
        clear HJ ha
        have pc := pcut_l l 47 hl
        cases hc : cutP l 47 with
        | none =>
          have hno : parseP l0 = none := by
            have h := HJ'.out
            unfold stepP at h
            rw [hc] at h
            exact h.symm
          have HNO : Hid (parseP l0 = none) := hno
          rw [hc] at pc
          have pn := number_l l
          obtain ⟨n0, hn0⟩ : ∃ x : Nat, x = (numP l).getD 0 := ⟨_, rfl⟩
          obtain ⟨k0, hk0⟩ : ∃ x : Bool, x = (numP l).isSome := ⟨_, rfl⟩
          unfold numV at pn
          rw [← hn0, ← hk0] at pn
          unfold cutV strV at pc
          clear hno hc HJ' hn0 hk0
          rw [show ((3 : Nat) : Int) = 3 from rfl]
          have hix := sep_at3
          go_wp2_with fail
          refine (pc _).mono ?_
          rintro e w1 ⟨rfl, q1⟩
          have r1 := pf_block q1 hr
          obtain ⟨R0, R1⟩ := cells_two r1
          obtain ⟨F0, F1⟩ := free_two r1
          have q2 := bel_up hw q1 hw.size
          clear pc
          go_wp2_with fail
          refine (pn _).mono ?_
          rintro e w2 ⟨rfl, rfl⟩
          clear pn
          go_wp2_with fail
          rw [HNO.out]
          obtain ⟨W, hW⟩ : ∃ W, W = (w2.setCell ⟨br, 0, none⟩ (.int .u32 0)).setCell ⟨br, 1, none⟩ (.int .i64 0) := ⟨_, rfl⟩
          rw [← hW]
          have r2 : W.heap[br]? = some (.cells #[.int .u32 0, .int .i64 0] 63 (0, 0)) := by rw [hW]; exact put_two r1 _ _
          obtain ⟨W0, W1⟩ := cells_two r2
          have qW : Below w.heap.size w W := by rw [hW]; exact (q2.setCell HBR.out.1 _).setCell HBR.out.1 _
          clear hW
          refine bodyPost_ret (v := parV none) (by unfold parV pfV; simp [results, Tryz.results56, go_sem, W0, W1]) rfl ?_
          exact ⟨rfl, qW⟩
        | some r =>
          obtain ⟨x, q⟩ := r
          have hcut := cut_is hc
          have HQ : Hid (q.length ≤ maxLen) := by
            show q.length ≤ maxLen
            have e := congrArg List.length hcut
            simp only [List.length_append, List.length_cons] at e
            omega
          have pn := number_l x
          rw [hc] at pc
          unfold cutV strV at pc
          cases hn : numP x with
          | none =>
            have hno : parseP l0 = none := by
              have h := HJ'.out
              unfold stepP at h
              rw [hc] at h
              simp only [Option.bind_some, hn, Option.map_none, Option.bind_none] at h
              exact h.symm
            have HNO : Hid (parseP l0 = none) := hno
            rw [hn] at pn
            unfold numV at pn
            simp only [Option.getD_none, Option.isSome_none] at pn
            clear hno hc HJ' hcut hn
            rw [show ((3 : Nat) : Int) = 3 from rfl]
            have hix := sep_at3
            go_wp2_with fail
            refine (pc _).mono ?_
            rintro e w1 ⟨rfl, q1⟩
            have r1 := pf_block q1 hr
            obtain ⟨R0, R1⟩ := cells_two r1
            obtain ⟨F0, F1⟩ := free_two r1
            have q2 := bel_up hw q1 hw.size
            clear pc
            go_wp2_with fail
            refine (pn _).mono ?_
            rintro e w2 ⟨rfl, rfl⟩
            clear pn
            go_wp2_with fail
            rw [HNO.out]
            obtain ⟨W, hW⟩ : ∃ W, W = (w2.setCell ⟨br, 0, none⟩ (.int .u32 0)).setCell ⟨br, 1, none⟩ (.int .i64 0) := ⟨_, rfl⟩
            rw [← hW]
            have r2 : W.heap[br]? = some (.cells #[.int .u32 0, .int .i64 0] 63 (0, 0)) := by rw [hW]; exact put_two r1 _ _
            obtain ⟨W0, W1⟩ := cells_two r2
            have qW : Below w.heap.size w W := by rw [hW]; exact (q2.setCell HBR.out.1 _).setCell HBR.out.1 _
            clear hW
            refine bodyPost_ret (v := parV none) (by unfold parV pfV; simp [results, Tryz.results56, go_sem, W0, W1]) rfl ?_
            exact ⟨rfl, qW⟩
          | some n =>
            have hn255 := (num_is hn).1
            have HN : Hid (contP [] (a * 256 + n) q = parseP l0) := by
              have h := HJ'.out
              unfold stepP at h
              rw [hc] at h
              simp only [Option.bind_some, hn, Option.map_some] at h
              exact h
            rw [hn] at pn
            unfold numV at pn
            simp only [Option.getD_some, Option.isSome_some] at pn
            have hor := or_int a n ha' (by omega)
            clear hc HJ' hcut hn
            rw [show ((3 : Nat) : Int) = 3 from rfl]
            have hix := sep_at3
            go_wp2_with fail
            refine (pc _).mono ?_
            rintro e w1 ⟨rfl, q1⟩
            have r1 := pf_block q1 hr
            obtain ⟨R0, R1⟩ := cells_two r1
            obtain ⟨F0, F1⟩ := free_two r1
            have q2 := bel_up hw q1 hw.size
            clear pc
            go_wp2_with fail
            refine (pn _).mono ?_
            rintro e w2 ⟨rfl, rfl⟩
            clear pn
            have p1 := pf_block q1 hp
            obtain ⟨P0, P1⟩ := cells_two p1
            obtain ⟨G0, G1⟩ := free_two p1
            go_wp2_with fail
            go_roundw
            case rel =>
              refine ⟨3 + 1, a * 256 + n, q, by omega, by go_num, rfl, HQ.out, ?_, ?_, ?_, ?_, HN.out⟩
              · have := HA.out
                rw [Nat.pow_succ]
                omega
              · rw [Below.heap_setCell _ _ _ _ (by simpa using hnb.symm)]
                exact r1
              · rw [pf_set p1]
                rfl
              · exact q2.setCell HBR.out.2 _
            case measure => simp [RowKit.intOf]
    · obtain rfl : k = 4 := by omega
      have HJ' : Hid ((numP l).bind (fun b => if mayP a b then some (a, b) else none) = parseP l0) := HJ
      have ha' : a < 4294967296 := Nat.lt_of_lt_of_le ha (by decide)
      clear HJ ha
      have pn := number_l l
      obtain ⟨P0, P1⟩ := cells_two hp
      obtain ⟨G0, G1⟩ := free_two hp
      rw [show ((4 : Nat) : Int) = 4 from rfl]
      cases hn : numP l with
      | none =>
        have HNO : Hid (parseP l0 = none) := by
          have h := HJ'.out
          rw [hn] at h
          exact h.symm
        rw [hn] at pn
        unfold numV at pn
        simp only [Option.getD_none, Option.isSome_none] at pn
        clear hn HJ'
        go_wp2_with fail
        refine (pn _).mono ?_
        rintro e w2 ⟨rfl, rfl⟩
        clear pn
        have x1 : (w2.setCell ⟨bp, 1, none⟩ (.int .i64 0)).heap[br]? = some (.cells #[.int .u32 0, .int .i64 0] 63 (0, 0)) := (Below.heap_setCell _ _ _ _ (by simpa using hnb.symm)).trans hr
        obtain ⟨R0, R1⟩ := cells_two x1
        obtain ⟨F0, F1⟩ := free_two x1
        have qX : Below w.heap.size w (w2.setCell ⟨bp, 1, none⟩ (.int .i64 0)) := hw.setCell HBR.out.2 _
        have HX : Hid ((w2.setCell ⟨bp, 1, none⟩ (.int .i64 0)).heap[br]? = some (.cells #[.int .u32 0, .int .i64 0] 63 (0, 0)) ∧ Below w.heap.size w (w2.setCell ⟨bp, 1, none⟩ (.int .i64 0))) := ⟨x1, qX⟩
        clear x1 qX
        go_wp2_with fail
        obtain ⟨x1, qX⟩ := HX.out
        rw [HNO.out]
        obtain ⟨W, hW⟩ : ∃ W, W = ((w2.setCell ⟨bp, 1, none⟩ (.int .i64 0)).setCell ⟨br, 0, none⟩ (.int .u32 0)).setCell ⟨br, 1, none⟩ (.int .i64 0) := ⟨_, rfl⟩
        rw [← hW]
        have r2 : W.heap[br]? = some (.cells #[.int .u32 0, .int .i64 0] 63 (0, 0)) := by rw [hW]; exact put_two x1 _ _
        obtain ⟨W0, W1⟩ := cells_two r2
        have qW : Below w.heap.size w W := by rw [hW]; exact (qX.setCell HBR.out.1 _).setCell HBR.out.1 _
        clear hW
        refine bodyPost_ret (v := parV none) (by unfold parV pfV; simp [results, Tryz.results56, go_sem, W0, W1]) rfl ?_
        exact ⟨rfl, qW⟩
      | some b =>
        have HNB : Hid ((if mayP a b then some (a, b) else none) = parseP l0) := by
          have h := HJ'.out
          rw [hn] at h
          exact h
        have hb255 := (num_is hn).1
        have hbi : IntKind.i64.wrap (b : Int) = b := by rw [IntKind.wrap_i64]; omega
        rw [hn] at pn
        unfold numV at pn
        simp only [Option.getD_some, Option.isSome_some] at pn
        have pm := may_any a b ha'
        unfold pfV at pm
        clear hn HJ'
        have x1 : (wr.setCell ⟨bp, 1, none⟩ (.int .i64 b)).heap[br]? = some (.cells #[.int .u32 0, .int .i64 0] 63 (0, 0)) := (Below.heap_setCell _ _ _ _ (by simpa using hnb.symm)).trans hr
        have x2 : (wr.setCell ⟨bp, 1, none⟩ (.int .i64 b)).heap[bp]? = some (.cells #[.int .u32 a, .int .i64 b] 63 (0, 0)) := (pf_set hp _).trans rfl
        have qX : Below w.heap.size w (wr.setCell ⟨bp, 1, none⟩ (.int .i64 b)) := hw.setCell HBR.out.2 _
        obtain ⟨X, hX⟩ : ∃ X, X = wr.setCell ⟨bp, 1, none⟩ (.int .i64 b) := ⟨_, rfl⟩
        rw [← hX] at x1 x2 qX
        have HX : Hid (X = wr.setCell ⟨bp, 1, none⟩ (.int .i64 b)) := hX
        clear hX
        obtain ⟨Y0, Y1⟩ := cells_two x2
        rw [HX.out] at Y0 Y1
        cases hm : mayP a b with
        | false =>
          rw [hm] at pm HNB
          go_wp2_with fail
          refine (pn _).mono ?_
          rintro e w2 ⟨rfl, rfl⟩
          clear pn
          go_wp2_with fail
          refine (pm _).mono ?_
          rintro e w3 ⟨rfl, q3⟩
          rw [← HX.out] at q3
          clear pm Y0 Y1
          have r1 := pf_block q3 x1
          obtain ⟨R0, R1⟩ := cells_two r1
          obtain ⟨F0, F1⟩ := free_two r1
          have q4 := bel_up qX q3 qX.size
          go_wp2_with fail
          rw [← HNB.out]
          simp only [Bool.false_eq_true, if_false]
          obtain ⟨W, hW⟩ : ∃ W, W = (w3.setCell ⟨br, 0, none⟩ (.int .u32 0)).setCell ⟨br, 1, none⟩ (.int .i64 0) := ⟨_, rfl⟩
          rw [← hW]
          have r2 : W.heap[br]? = some (.cells #[.int .u32 0, .int .i64 0] 63 (0, 0)) := by rw [hW]; exact put_two r1 _ _
          obtain ⟨W0, W1⟩ := cells_two r2
          have qW : Below w.heap.size w W := by rw [hW]; exact (q4.setCell HBR.out.1 _).setCell HBR.out.1 _
          clear hW
          refine bodyPost_ret (v := parV none) (by unfold parV pfV; simp [results, Tryz.results56, go_sem, W0, W1]) rfl ?_
          exact ⟨rfl, qW⟩
        | true =>
          rw [hm] at pm HNB
          go_wp2_with fail
          refine (pn _).mono ?_
          rintro e w2 ⟨rfl, rfl⟩
          clear pn
          go_wp2_with fail
          refine (pm _).mono ?_
          rintro e w3 ⟨rfl, q3⟩
          rw [← HX.out] at q3
          clear pm Y0 Y1
          have r1 := pf_block q3 x1
          obtain ⟨R0, R1⟩ := cells_two r1
          obtain ⟨F0, F1⟩ := free_two r1
          have p1 := pf_block q3 x2
          obtain ⟨P0', P1'⟩ := cells_two p1
          have q4 := bel_up qX q3 qX.size
          go_wp2_with fail
          rw [← HNB.out]
          simp only [if_true]
          obtain ⟨W, hW⟩ : ∃ W, W = (w3.setCell ⟨br, 0, none⟩ (.int .u32 a)).setCell ⟨br, 1, none⟩ (.int .i64 b) := ⟨_, rfl⟩
          rw [← hW]
          have r2 : W.heap[br]? = some (.cells #[.int .u32 a, .int .i64 b] 63 (0, 0)) := by rw [hW]; exact put_two r1 _ _
          obtain ⟨W0, W1⟩ := cells_two r2
          have qW : Below w.heap.size w W := by rw [hW]; exact (q4.setCell HBR.out.1 _).setCell HBR.out.1 _
          clear hW
          refine bodyPost_ret (v := parV (some (a, b))) (by unfold parV pfV; simp [results, Tryz.results56, go_sem, W0, W1]) rfl ?_
          exact ⟨rfl, qW⟩
theorem parse_any (s : ByteArray) (hs : s.size ≤ maxLen) (w : World) :
    Calls Tryz.prog 56 #[.string s] w fun e w' => e = .returned (parV (parseP s.data.toList)) ∧ Below w.heap.size w w' := by
  have h := parse_l s.data.toList (by rw [← size_eq]; exact hs) w
  rwa [str_mk] at h
end Go.Proofs.YtejhgifadohbiaaGreatDoor
