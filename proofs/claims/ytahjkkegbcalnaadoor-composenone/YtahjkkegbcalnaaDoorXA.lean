/- What puts diagrams for a variable, in memory; whether a diagram asks the variable. -/
import Derived.Test.YtahjkkegbcalnaaDoorXQ
import Derived.Test.YtahjkkegbcalnaaDoorL
namespace Go.Proofs.YtahjkkegbcalnaaDoor
open Go.RowKit Go.Maps

theorem lawI : Keyed Tryd.prog 3 := int_keyed Tryd.underlying3
theorem keyI (k : Int) (h : (Lit.int .i64 k).wf = true) : ∃ l, keyOf Tryd.prog 3 (.int .i64 k) = some l := ⟨_, keyOf_int_mk Tryd.underlying3 h⟩
theorem wideC : (match Tryd.prog.underlying 54 with | some (.array _ _) | some (.struct _) => true | _ => false) = true := by kernel_rfl
theorem rowC : (54 : TypeId) < Tryd.prog.types.size := of_decide_eq_true (by kernel_rfl)
theorem lawC : Keyed Tryd.prog 54 := Keyed.of_law (deep_law_laid laidOut (m := 2) (by omega) rowC (by kernel_rfl) wideC)
theorem keyTypeC : Tryd.prog.keyType 54 = true := by kernel_rfl
theorem cellsC : Tryd.prog.cellsOf 54 = 3 := by kernel_rfl
theorem keyC (a b c : Int) (ha : (Lit.int .i64 a).wf = true) (hb : (Lit.int .i64 b).wf = true) (hc : (Lit.int .i64 c).wf = true) : ∃ l, keyOf Tryd.prog 54 (ndV ⟨a, b, c⟩) = some l := by
  have h1 : (ndV ⟨a, b, c⟩).formed Tryd.prog 54 = true := by simp [ndV, Value.formed, Tryd.underlying54, cellsC]
  obtain ⟨k, hk⟩ : ∃ k, Tryd.prog.types.size = k + 1 := ⟨Tryd.prog.types.size - 1, by have : (0 : Nat) < Tryd.prog.types.size := Nat.lt_of_le_of_lt (Nat.zero_le _) rowC; omega⟩
  refine ⟨.string (keyBytes [.int .i64 a, .int .i64 b, .int .i64 c]), ?_⟩
  simp [keyOf, Tryd.underlying54, keyTypeC, h1, hk]
  unfold Program.keyLits
  simp [Tryd.underlying54, cellsC, ndV, Value.cells, cells3, lits3, ha, hb, hc]

/-- A putter lies at j: its arena at p, its maps in blocks qa and qd. -/
structure PutAt (w : World) (j p g m qa qd cap : Nat) (most ru v : Int) (ns : List Nd) (ka kd : List (Value × Value)) : Prop where
  here : w.heap[j]? = some (.cells #[.pointer (some ⟨p, 0, none⟩), .int .i64 ru, .int .i64 v, .map (some qa), .map (some qd)] 51 (0, 0))
  arena : ArenaAt 39 35 w p g m cap most ns
  amap : mapIs w qa ka
  dmap : mapIs w qd kd
  nj : j ∉ [p, g, m]
  na : qa ∉ [p, g, m]
  nd : qd ∉ [p, g, m]
  ad : qa ≠ qd
  akeys : ∀ x ∈ ka, ∃ l, keyOf Tryd.prog 3 x.1 = some l
  dkeys : ∀ x ∈ kd, ∃ l, keyOf Tryd.prog 54 x.1 = some l
theorem mapIs.lt {w : World} {q : Nat} {kvs : List (Value × Value)} (h : mapIs w q kvs) : q < w.heap.size := by
  obtain ⟨es, c, hm, _⟩ := h
  exact (Array.getElem?_eq_some_iff.1 hm).1
theorem mapIs.same {w w' : World} {q : Nat} {kvs : List (Value × Value)} (h : mapIs w q kvs) (e : w'.heap[q]? = w.heap[q]?) : mapIs w' q kvs := by
  obtain ⟨es, c, k1, k2⟩ := h
  exact ⟨es, c, e.trans k1, k2⟩
section
variable {w : World} {j p g m qa qd cap : Nat} {most ru v : Int} {ns : List Nd} {ka kd : List (Value × Value)}
theorem PutAt.ltj (h : PutAt w j p g m qa qd cap most ru v ns ka kd) : j < w.heap.size := (Array.getElem?_eq_some_iff.1 h.here).1
theorem PutAt.ja (h : PutAt w j p g m qa qd cap most ru v ns ka kd) : j ≠ qa := by
  rintro rfl
  obtain ⟨es, c, hm, _⟩ := h.amap
  rw [h.here] at hm
  cases hm
theorem PutAt.jd (h : PutAt w j p g m qa qd cap most ru v ns ka kd) : j ≠ qd := by
  rintro rfl
  obtain ⟨es, c, hm, _⟩ := h.dmap
  rw [h.here] at hm
  cases hm
theorem PutAt.c0 (h : PutAt w j p g m qa qd cap most ru v ns ka kd) : w.cell? ⟨j, 0, none⟩ = some (.pointer (some ⟨p, 0, none⟩)) := by simp [World.cell?, h.here]
theorem PutAt.c1 (h : PutAt w j p g m qa qd cap most ru v ns ka kd) : w.cell? ⟨j, 1, none⟩ = some (.int .i64 ru) := by simp [World.cell?, h.here]
theorem PutAt.c2 (h : PutAt w j p g m qa qd cap most ru v ns ka kd) : w.cell? ⟨j, 2, none⟩ = some (.int .i64 v) := by simp [World.cell?, h.here]
theorem PutAt.c3 (h : PutAt w j p g m qa qd cap most ru v ns ka kd) : w.cell? ⟨j, 3, none⟩ = some (.map (some qa)) := by simp [World.cell?, h.here]
theorem PutAt.c4 (h : PutAt w j p g m qa qd cap most ru v ns ka kd) : w.cell? ⟨j, 4, none⟩ = some (.map (some qd)) := by simp [World.cell?, h.here]
theorem PutAt.below {w' : World} (h : PutAt w j p g m qa qd cap most ru v ns ka kd) (hb : Below w.heap.size w w') : PutAt w' j p g m qa qd cap most ru v ns ka kd :=
  ⟨(hb.block j h.ltj).trans h.here, h.arena.below hb, h.amap.same (hb.block qa h.amap.lt), h.dmap.same (hb.block qd h.dmap.lt), h.nj, h.na, h.nd, h.ad, h.akeys, h.dkeys⟩
/-- What is made in the arena leaves the putter. -/
theorem PutAt.next {W : World} {g' cap' : Nat} {ns' : List Nd} (h : PutAt w j p g m qa qd cap most ru v ns ka kd) (a : ArenaAt 39 35 W p g' m cap' most ns') (k : Kept [p, g, m] w W) (hg : g' = g ∨ w.heap.size ≤ g') : PutAt W j p g' m qa qd cap' most ru v ns' ka kd := by
  have hj := h.ltj
  have ha := h.amap.lt
  have hd := h.dmap.lt
  have nj := h.nj
  have na := h.na
  have nd := h.nd
  refine ⟨k.stays h.here h.nj, a, h.amap.same (k.block qa ha na), h.dmap.same (k.block qd hd nd), ?_, ?_, ?_, h.ad, h.akeys, h.dkeys⟩
  · simp at nj ⊢; omega
  · simp at na ⊢; omega
  · simp at nd ⊢; omega
/-- What is put into a map leaves the rest. -/
theorem PutAt.puta {W : World} {kvs' : List (Value × Value)} {key val : Value} (h : PutAt w j p g m qa qd cap most ru v ns ka kd) (k : w.grownBy W (some qa)) (hm : mapIs W qa kvs') (hx : ∀ x ∈ kvs', x ∈ ka ∨ x = (key, val)) (hd : ∃ l, keyOf Tryd.prog 3 key = some l) : PutAt W j p g m qa qd cap most ru v ns kvs' kd := by
  have nq := h.na
  simp at nq
  refine ⟨(k.block j h.ltj (fun e => h.ja (by cases e; rfl))).trans h.here, h.arena.stays (k.block p h.arena.ltp (fun e => nq.1 (by cases e; rfl))) (k.block g h.arena.ltg (fun e => nq.2.1 (by cases e; rfl))) (k.block m h.arena.ltm (fun e => nq.2.2 (by cases e; rfl))), hm, h.dmap.same (k.block qd h.dmap.lt (fun e => h.ad (by cases e; rfl))), h.nj, h.na, h.nd, h.ad, ?_, h.dkeys⟩
  intro x hx'
  rcases hx x hx' with h1 | rfl
  · exact h.akeys x h1
  · exact hd
theorem PutAt.putd {W : World} {kvs' : List (Value × Value)} {key val : Value} (h : PutAt w j p g m qa qd cap most ru v ns ka kd) (k : w.grownBy W (some qd)) (hm : mapIs W qd kvs') (hx : ∀ x ∈ kvs', x ∈ kd ∨ x = (key, val)) (hd : ∃ l, keyOf Tryd.prog 54 key = some l) : PutAt W j p g m qa qd cap most ru v ns ka kvs' := by
  have nq := h.nd
  simp at nq
  refine ⟨(k.block j h.ltj (fun e => h.jd (by cases e; rfl))).trans h.here, h.arena.stays (k.block p h.arena.ltp (fun e => nq.1 (by cases e; rfl))) (k.block g h.arena.ltg (fun e => nq.2.1 (by cases e; rfl))) (k.block m h.arena.ltm (fun e => nq.2.2 (by cases e; rfl))), h.amap.same (k.block qa h.amap.lt (fun e => h.ad (by cases e; rfl))), hm, h.nj, h.na, h.nd, h.ad, h.akeys, ?_⟩
  intro x hx'
  rcases hx x hx' with h1 | rfl
  · exact h.dkeys x h1
  · exact hd
end

/-- What is known behind asks. -/
def APost (w : World) (j p g m qa qd cap : Nat) (most ru v : Int) (ns : List Nd) (kd : List (Value × Value)) (R : Bool → List (Value × Value) → Prop) (e : Ending) (w' : World) : Prop :=
  ∃ b ka', e = .returned (.bool b) ∧ PutAt w' j p g m qa qd cap most ru v ns ka' kd ∧ Kept [qa] w w' ∧ R b ka'

section
variable {w : World} {j p g m qa qd cap : Nat} {most ru v : Int} {ns : List Nd} {ka kd : List (Value × Value)}
set_option maxHeartbeats 1000000 in
set_option maxRecDepth 20000 in
theorem asks_far (h : PutAt w j p g m qa qd cap most ru v ns ka kd) (k : Int) (hv : v ≤ (getN ns k).v) :
    Calls Tryd.prog 22 #[.pointer (some ⟨j, 0, none⟩), .int .i64 k] w (APost w j p g m qa qd cap most ru v ns kd fun b ka' => b = ((getN ns k).v == v) ∧ ka' = ka) := by
  have HP : Hid (PutAt w j p g m qa qd cap most ru v ns ka kd) := h
  have c0 := h.c0
  have c2 := h.c2
  have lj := h.ltj
  have hg := get_any h.arena k
  unfold ndV at hg
  generalize hn : getN ns k = n at *
  obtain ⟨x, y, z⟩ := n
  dsimp only at *
  clear hn h
  go_enter Tryd.func22, Tryd.ntmps22
  go_wp2_with fail
  refine hg.mono ?_
  rintro e w1 ⟨rfl, b1, s1⟩
  go_wp2_with fail
  have hb : Below w.heap.size w (w1.alloc (.cells #[.int .i64 x, .int .i64 y, .int .i64 z] 35)) := b1.alloc (by omega) _
  obtain ⟨C0, C1, C2⟩ := three_cells (heap_new_at w1 (.cells #[.int .i64 x, .int .i64 y, .int .i64 z] 35) (w.heap.size + 1) s1.symm)
  have D2 : (w1.alloc (.cells #[.int .i64 x, .int .i64 y, .int .i64 z] 35)).cell? ⟨j, 2, none⟩ = some (.int .i64 v) := by rw [hb.cell lj]; exact c2
  generalize w1.alloc (.cells #[.int .i64 x, .int .i64 y, .int .i64 z] 35) = W at *
  generalize w.heap.size + 1 = b at *
  clear hg c0 c2 b1 s1
  go_quiet (fail)
  go_wp2_with fail
  go_quiet (fail)
  go_wp2_with fail
  go_ret
  exact ⟨_, ka, rfl, HP.out.below (below_drewN (below_drewN hb _) _), Kept.of_below (below_drewN (below_drewN hb _) _) _, rfl, rfl⟩

set_option maxHeartbeats 1000000 in
set_option maxRecDepth 20000 in
theorem asks_known (h : PutAt w j p g m qa qd cap most ru v ns ka kd) (k t : Int) (hv : (getN ns k).v < v)
    (hlook : ∀ W, Below w.heap.size w W → Sem.run Tryd.prog (Instr.lookup 48 (.map (some qa)) (.int .i64 k) true) W = .ok (.tuple #[.int .i64 t, .bool true]) W) :
    Calls Tryd.prog 22 #[.pointer (some ⟨j, 0, none⟩), .int .i64 k] w (APost w j p g m qa qd cap most ru v ns kd fun b ka' => b = (t == 1) ∧ ka' = ka) := by
  have HP : Hid (PutAt w j p g m qa qd cap most ru v ns ka kd) := h
  have c0 := h.c0
  have c2 := h.c2
  have c3 := h.c3
  have lj := h.ltj
  have hg := get_any h.arena k
  unfold ndV at hg
  generalize hn : getN ns k = n at *
  obtain ⟨x, y, z⟩ := n
  dsimp only at *
  clear hn h
  go_enter Tryd.func22, Tryd.ntmps22
  go_wp2_with fail
  refine hg.mono ?_
  rintro e w1 ⟨rfl, b1, s1⟩
  go_wp2_with fail
  have hb : Below w.heap.size w (w1.alloc (.cells #[.int .i64 x, .int .i64 y, .int .i64 z] 35)) := b1.alloc (by omega) _
  obtain ⟨C0, C1, C2⟩ := three_cells (heap_new_at w1 (.cells #[.int .i64 x, .int .i64 y, .int .i64 z] 35) (w.heap.size + 1) s1.symm)
  have D2 : (w1.alloc (.cells #[.int .i64 x, .int .i64 y, .int .i64 z] 35)).cell? ⟨j, 2, none⟩ = some (.int .i64 v) := by rw [hb.cell lj]; exact c2
  have D3 : (w1.alloc (.cells #[.int .i64 x, .int .i64 y, .int .i64 z] 35)).cell? ⟨j, 3, none⟩ = some (.map (some qa)) := by rw [hb.cell lj]; exact c3
  generalize w1.alloc (.cells #[.int .i64 x, .int .i64 y, .int .i64 z] 35) = W at *
  generalize w.heap.size + 1 = b at *
  have hl : ∀ nq, Sem.run Tryd.prog (Instr.lookup 48 (.map (some qa)) (.int .i64 k) true) (W.drewN nq) = .ok (.tuple #[.int .i64 t, .bool true]) (W.drewN nq) := fun nq => hlook _ (below_drewN hb nq)
  clear hg c0 c2 c3 b1 s1 hlook
  go_wp2_with fail
  go_quiet (fail)
  go_wp2_with fail
  go_ret
  exact ⟨_, ka, rfl, HP.out.below (below_drewN hb _), Kept.of_below (below_drewN hb _) _, rfl, rfl⟩

/-- What asks comes to, by what it does of the two ways. -/
def FinA (k : Int) (PL : Bool → List (Value × Value) → Prop) (PH : List (Value × Value) → Bool → List (Value × Value) → Prop) (b : Bool) (ka' : List (Value × Value)) : Prop :=
  ∃ ka1, ((b = true ∧ (PL true ka1 ∨ ∃ ka0, PL false ka0 ∧ PH ka0 true ka1)) ∨ (b = false ∧ ∃ ka0, PL false ka0 ∧ PH ka0 false ka1)) ∧ ∀ x ∈ ka', x ∈ ka1 ∨ x = (.int .i64 k, .int .i64 (if b = true then 1 else 0))

set_option maxHeartbeats 1000000 in
set_option maxRecDepth 20000 in
theorem asks_new (h : PutAt w j p g m qa qd cap most ru v ns ka kd) (k : Int) (hv : (getN ns k).v < v) (hkey : ∃ l, keyOf Tryd.prog 3 (.int .i64 k) = some l)
    (hlook : ∀ W, Below w.heap.size w W → Sem.run Tryd.prog (Instr.lookup 48 (.map (some qa)) (.int .i64 k) true) W = .ok (.tuple #[.int .i64 0, .bool false]) W)
    {PL : Bool → List (Value × Value) → Prop} {PH : List (Value × Value) → Bool → List (Value × Value) → Prop}
    (hlow : ∀ X, Below w.heap.size w X → Calls Tryd.prog 22 #[.pointer (some ⟨j, 0, none⟩), .int .i64 (getN ns k).lo] X (APost X j p g m qa qd cap most ru v ns kd PL))
    (hhigh : ∀ X ka1, PutAt X j p g m qa qd cap most ru v ns ka1 kd → PL false ka1 → Calls Tryd.prog 22 #[.pointer (some ⟨j, 0, none⟩), .int .i64 (getN ns k).hi] X (APost X j p g m qa qd cap most ru v ns kd (PH ka1))) :
    Calls Tryd.prog 22 #[.pointer (some ⟨j, 0, none⟩), .int .i64 k] w (APost w j p g m qa qd cap most ru v ns kd (FinA k PL PH)) := by
  have HP : Hid (PutAt w j p g m qa qd cap most ru v ns ka kd) := h
  have HK : Hid (∃ l, keyOf Tryd.prog 3 (.int .i64 k) = some l) := hkey
  have c0 := h.c0
  have c2 := h.c2
  have c3 := h.c3
  have lj := h.ltj
  have hg := get_any h.arena k
  have la := h.amap.lt
  unfold ndV at hg
  generalize hn : getN ns k = n at *
  obtain ⟨x, y, z⟩ := n
  dsimp only at *
  clear hn h hkey
  go_enter Tryd.func22, Tryd.ntmps22
  go_wp2_with fail
  refine hg.mono ?_
  rintro e w1 ⟨rfl, b1, s1⟩
  go_wp2_with fail
  have hb : Below w.heap.size w (w1.alloc (.cells #[.int .i64 x, .int .i64 y, .int .i64 z] 35)) := b1.alloc (by omega) _
  have HB := heap_new_at w1 (.cells #[.int .i64 x, .int .i64 y, .int .i64 z] 35) (w.heap.size + 1) s1.symm
  have D2 : (w1.alloc (.cells #[.int .i64 x, .int .i64 y, .int .i64 z] 35)).cell? ⟨j, 2, none⟩ = some (.int .i64 v) := by rw [hb.cell lj]; exact c2
  have D3 : (w1.alloc (.cells #[.int .i64 x, .int .i64 y, .int .i64 z] 35)).cell? ⟨j, 3, none⟩ = some (.map (some qa)) := by rw [hb.cell lj]; exact c3
  generalize w1.alloc (.cells #[.int .i64 x, .int .i64 y, .int .i64 z] 35) = W at *
  have hqb : qa ≠ w.heap.size + 1 := by omega
  generalize w.heap.size + 1 = b at *
  obtain ⟨C0, C1, C2⟩ := three_cells HB
  have hl : ∀ nq, Sem.run Tryd.prog (Instr.lookup 48 (.map (some qa)) (.int .i64 k) true) (W.drewN nq) = .ok (.tuple #[.int .i64 0, .bool false]) (W.drewN nq) := fun nq => hlook _ (below_drewN hb nq)
  clear hg c0 c2 c3 b1 s1 hlook
  go_quiet (fail)
  go_wp2_with fail
  have hb' := below_drewN hb nq
  have HB' : (W.drewN nq).heap[b]? = some (.cells #[.int .i64 x, .int .i64 y, .int .i64 z] 35) := HB
  generalize W.drewN nq = U at *
  clear hl hb D2 D3 C0 C1 C2 HB
  refine (hlow U hb').mono ?_
  rintro e w2 ⟨t1, ka1, rfl, A1, q1, R1⟩
  have HB2 := q1.stays HB' (by simp; exact Ne.symm hqb)
  have K2 : Kept [qa] w w2 := (Kept.of_below hb' _).more q1 (fun x hx => .inl hx)
  clear hlow hb' HB' q1
  obtain ⟨kl, hkl⟩ := HK.out
  cases t1 with
  | true =>
    obtain ⟨w3, ka3, E3, M3, gr3, mem3⟩ := mapIs.put (val := .int .i64 1) lawI Tryd.underlying48 A1.amap A1.akeys hkl
    have A3 := PutAt.puta A1 gr3 M3 mem3 ⟨kl, hkl⟩
    have K3 : Kept [qa] w w3 := K2.more (Kept.grown (own := [qa]) gr3 (by simp)) (fun x hx => .inl hx)
    have c3 := A1.c3
    have HF : Hid (FinA k PL PH true ka3) := ⟨ka1, .inl ⟨rfl, .inl R1⟩, mem3⟩
    clear M3 gr3 mem3 hkl A1 R1 hhigh HB2 K2
    go_wp2_with fail
    go_ret
    exact ⟨true, ka3, rfl, A3, K3, HF.out⟩
  | false =>
    obtain ⟨C0, C1, C2⟩ := three_cells HB2
    have hh := hhigh w2 ka1 A1 R1
    clear hhigh A1
    go_wp2_with fail
    refine hh.mono ?_
    rintro e w3 ⟨t2, ka2, rfl, A2, q2, R2⟩
    have K3 : Kept [qa] w w3 := K2.more q2 (fun x hx => .inl hx)
    clear hh q2 HB2 C0 C1 C2 K2
    cases t2 with
    | true =>
      obtain ⟨w4, ka4, E3, M3, gr3, mem3⟩ := mapIs.put (val := .int .i64 1) lawI Tryd.underlying48 A2.amap A2.akeys hkl
      have A3 := PutAt.puta A2 gr3 M3 mem3 ⟨kl, hkl⟩
      have K4 : Kept [qa] w w4 := K3.more (Kept.grown (own := [qa]) gr3 (by simp)) (fun x hx => .inl hx)
      have c3 := A2.c3
      have HF : Hid (FinA k PL PH true ka4) := ⟨ka2, .inl ⟨rfl, .inr ⟨ka1, R1, R2⟩⟩, mem3⟩
      clear M3 gr3 mem3 hkl A2 R1 R2 K3
      go_wp2_with fail
      go_ret
      exact ⟨true, ka4, rfl, A3, K4, HF.out⟩
    | false =>
      obtain ⟨w4, ka4, E3, M3, gr3, mem3⟩ := mapIs.put (val := .int .i64 0) lawI Tryd.underlying48 A2.amap A2.akeys hkl
      have A3 := PutAt.puta A2 gr3 M3 mem3 ⟨kl, hkl⟩
      have K4 : Kept [qa] w w4 := K3.more (Kept.grown (own := [qa]) gr3 (by simp)) (fun x hx => .inl hx)
      have c3 := A2.c3
      have HF : Hid (FinA k PL PH false ka4) := ⟨ka2, .inr ⟨rfl, ka1, R1, R2⟩, mem3⟩
      clear M3 gr3 mem3 hkl A2 R1 R2 K3
      go_wp2_with fail
      go_ret
      exact ⟨false, ka4, rfl, A3, K4, HF.out⟩
end

theorem asks_any : ∀ (n i : Nat), i < n → ∀ {w : World} {j p g m qa qd cap : Nat} {most ru v : Int} {ns : List Nd} {ka kd : List (Value × Value)}, v < 1024 → PutAt w j p g m qa qd cap most ru v ns ka kd → i < ns.length → AskOk ns v ka →
    Calls Tryd.prog 22 #[.pointer (some ⟨j, 0, none⟩), .int .i64 i] w (APost w j p g m qa qd cap most ru v ns kd fun b ka' => (b = true ↔ ¬ Free ns v i) ∧ AskOk ns v ka')
  | 0, i, hn, _, _, _, _, _, _, _, _, _, _, _, _, _, _, _, _, _, _ => by omega
  | n + 1, i, hn, w, j, p, g, m, qa, qd, cap, most, ru, v, ns, ka, kd, hlt, h, hi, hok => by
    have hg := h.arena.good
    have hin : In ns i := ⟨i, rfl, hi⟩
    by_cases hv : v ≤ (getN ns i).v
    · refine (asks_far h i hv).mono ?_
      rintro e w' ⟨b, ka', rfl, A, K, rfl, rfl⟩
      refine ⟨_, _, rfl, A, K, ?_, hok⟩
      rw [beq_iff_eq]
      constructor
      · intro e; exact free_at hg hin e hlt
      · intro hf
        by_cases e : (getN ns i).v = v
        · exact e
        · exact absurd (free_behind hg hin (by omega)) hf
    · have hv' : (getN ns i).v < v := by omega
      obtain ⟨kl, hkl⟩ := keyI i (in_wf hg hin)
      by_cases hh : ∃ x ∈ ka, x.1 = .int .i64 i
      · obtain ⟨x, hx, ex⟩ := hh
        obtain ⟨k0, b0, rfl, hk0, hb0⟩ := hok x hx
        simp only [Value.int.injEq, true_and] at ex
        subst ex
        refine (asks_known h i (if b0 = true then 1 else 0) hv' (fun W hW => ?_)).mono ?_
        · rcases mapIs.look lawI Tryd.underlying48 (zeroI W) (h.below hW).amap h.akeys hkl with ⟨_, h2⟩ | ⟨y, hy, ey, h2⟩
          · exact absurd rfl (h2 _ hx)
          · obtain ⟨k2, b2, rfl, hk2, hb2⟩ := hok y hy
            simp only [Value.int.injEq, true_and] at ey
            subst ey
            have : b2 = b0 := by
              rw [Bool.eq_iff_iff, hb2, hb0]
            rw [h2, this]
        · rintro e w' ⟨b, ka', rfl, A, K, rfl, rfl⟩
          refine ⟨_, _, rfl, A, K, ?_, hok⟩
          rw [← hb0]
          cases b0 <;> simp
      · have hl : (ndAt ns i).v < 1024 := by rw [getN_in hi] at hv'; omega
        obtain ⟨_, _, ⟨a, ea, la, va⟩, ⟨b, eb, lb, vb⟩, _⟩ := asks_at hg hi hl
        have ea' : (getN ns i).lo = (a : Int) := by rw [getN_in hi, ea]
        have eb' : (getN ns i).hi = (b : Int) := by rw [getN_in hi, eb]
        refine (asks_new (PL := fun b ka' => (b = true ↔ ¬ Free ns v a) ∧ AskOk ns v ka') (PH := fun _ t ka' => (t = true ↔ ¬ Free ns v b) ∧ AskOk ns v ka') h i hv' ⟨kl, hkl⟩ (fun W hW => ?_)
          (fun X hX => by rw [ea']; exact asks_any n a (by omega) hlt (h.below hX) (by omega) hok)
          (fun X ka1 A1 R1 => by rw [eb']; exact asks_any n b (by omega) hlt A1 (by omega) R1.2)).mono ?_
        · rcases mapIs.look lawI Tryd.underlying48 (zeroI W) (h.below hW).amap h.akeys hkl with ⟨h1, _⟩ | ⟨y, hy, ey, _⟩
          · exact h1
          · exact absurd ⟨y, hy, ey⟩ hh
        · rintro e w' ⟨t, ka', rfl, A, K, ka1, hc, hmem⟩
          have hs := free_split hg hin hv' hlt
          rw [ea', eb'] at hs
          have hb : (t = true ↔ ¬ Free ns v i) ∧ AskOk ns v ka1 := by
            rcases hc with ⟨rfl, ⟨h1, h2⟩ | ⟨ka0, ⟨h1, _⟩, h2, h3⟩⟩ | ⟨rfl, ka0, ⟨h1, _⟩, h2, h3⟩
            · refine ⟨⟨fun _ hf => h1.1 rfl (hs.1 hf).1, fun _ => rfl⟩, h2⟩
            · refine ⟨⟨fun _ hf => h2.1 rfl (hs.1 hf).2, fun _ => rfl⟩, h3⟩
            · refine ⟨⟨fun h => (by cases h), fun hf => ?_⟩, h3⟩
              exfalso
              refine hf (hs.2 ⟨?_, ?_⟩)
              · exact Classical.not_not.1 (fun hn => by have := h1.2 hn; cases this)
              · exact Classical.not_not.1 (fun hn => by have := h2.2 hn; cases this)
          refine ⟨t, ka', rfl, A, K, hb.1, ?_⟩
          intro x hx
          rcases hmem x hx with h1 | rfl
          · exact hb.2 x h1
          · exact ⟨i, t, rfl, hin, hb.1⟩
end Go.Proofs.YtahjkkegbcalnaaDoor
