/- Eval. -/
import Derived.Test.YtcbpklpehdojnaaD0
import Derived.LoopTactic
import Derived.WalkSmall
import Derived.Handy
namespace Go.Proofs.Ytcbpklpehdojnaa
open Go.RowKit

/-- Whether YES is come to from a node on, in so many steps. -/
def evalF (ns : List Nd) (f : Int → Bool) : Nat → Int → Bool
  | 0, k => decide (k = 1)
  | n + 1, k => if (getN ns k).v < 1024 then evalF ns f n (if f (getN ns k).v = true then (getN ns k).hi else (getN ns k).lo) else decide (k = 1)
def evalP (ns : List Nd) (f : Int → Bool) (k : Int) : Bool := evalF ns f ns.length k

theorem getN_in {ns : List Nd} {i : Nat} (h : i < ns.length) : getN ns i = ndAt ns i := by simp [getN, hasB_nat.2 h]
theorem getN_out {ns : List Nd} {k : Int} (h : hasB ns k = false) : getN ns k = ⟨1024, 0, 0⟩ := by simp [getN, h]
/-- A node that asks something is there, and goes to nodes of smaller numbers. -/
theorem asks {most : Int} {ns : List Nd} (h : Good most ns) {k : Int} (hv : (getN ns k).v < 1024) : ∃ i : Nat, k = i ∧ 2 ≤ i ∧ i < ns.length ∧ (∃ a : Nat, (getN ns k).lo = a ∧ a < i) ∧ (∃ a : Nat, (getN ns k).hi = a ∧ a < i) := by
  cases hb : hasB ns k with
  | false => rw [getN_out hb] at hv; simp at hv
  | true =>
    obtain ⟨i, rfl, hi⟩ := hasB_elim hb
    rw [getN_in hi] at hv ⊢
    have h2 : 2 ≤ i := by
      obtain ⟨l, rfl⟩ := h.two
      match i with
      | 0 => simp [ndAt] at hv
      | 1 => simp [ndAt] at hv
      | i + 2 => omega
    obtain ⟨_, _, ⟨a, h3, h4, _⟩, ⟨b, h5, h6, _⟩, _⟩ := h.nodes i h2 hi
    exact ⟨i, rfl, h2, hi, ⟨a, h3, h4⟩, ⟨b, h5, h6⟩⟩
theorem asks_nonneg {most : Int} {ns : List Nd} (h : Good most ns) {k : Int} (hv : (getN ns k).v < 1024) : 0 ≤ (getN ns k).v := by
  obtain ⟨i, rfl, h2, hi, _⟩ := asks h hv
  rw [getN_in hi]
  exact (h.nodes i h2 hi).1
theorem evalF_more {most : Int} {ns : List Nd} (h : Good most ns) (f : Int → Bool) : ∀ (n : Nat) (k : Int), k.toNat < n → evalF ns f (n + 1) k = evalF ns f n k
  | 0, k, hk => by omega
  | n + 1, k, hk => by
    have e1 : ∀ j, evalF ns f (j + 1) k = if (getN ns k).v < 1024 then evalF ns f j (if f (getN ns k).v = true then (getN ns k).hi else (getN ns k).lo) else decide (k = 1) := fun _ => rfl
    rw [e1, e1]
    by_cases hv : (getN ns k).v < 1024
    · rw [if_pos hv, if_pos hv]
      obtain ⟨i, rfl, _, _, ⟨a, ha, ha'⟩, ⟨b, hb, hb'⟩⟩ := asks h hv
      refine evalF_more h f n _ ?_
      split <;> omega
    · rw [if_neg hv, if_neg hv]
theorem evalP_step {most : Int} {ns : List Nd} (h : Good most ns) (f : Int → Bool) {k : Int} (hv : (getN ns k).v < 1024) :
    evalP ns f k = evalP ns f (if f (getN ns k).v = true then (getN ns k).hi else (getN ns k).lo) := by
  unfold evalP
  obtain ⟨L, hL⟩ : ∃ L, ns.length = L + 1 := ⟨ns.length - 1, by have := h.len; omega⟩
  rw [hL, evalF_more h f L (if f (getN ns k).v = true then (getN ns k).hi else (getN ns k).lo)]
  · rw [evalF, if_pos hv]
  · obtain ⟨i, rfl, _, hi, ⟨a, ha, ha'⟩, ⟨b, hb, hb'⟩⟩ := asks h hv
    split <;> omega
theorem evalP_end {ns : List Nd} (f : Int → Bool) {k : Int} (hv : ¬ (getN ns k).v < 1024) : evalP ns f k = decide (k = 1) := by
  unfold evalP
  cases ns.length with
  | zero => rfl
  | succ n => rw [evalF, if_neg hv]

theorem catch_idle (w : World) :
    CallsD Try.prog 31 #[] .returning w fun e u' w' => e = .returned (.tuple #[]) ∧ u' = .returning ∧ w' = w := by
  refine callsD_of_wpS Try.func31 rfl fun c₀ cs hu => ?_
  apply wpS_region
  simp [wpOpsS, go_sem, recoverD, hu, Try.ntmps31]
  cases c₀
  simp_all [bodyPostS, results, Try.results31]

theorem func_is (F : FuncId) (caps : Array Value) (W : World) : Sem.run Try.prog (binOp BinOp.neq 56 (Value.func (Fn.func F) #[] caps) Value.nilFunc) W = .ok (.bool true) W := by kernel_rfl
theorem below_block {W W' : World} {b : Nat} {o : Obj} (h : Below W.heap.size W W') (hb : W.heap[b]? = some o) : W'.heap[b]? = some o := by
  rw [h.block b (Array.getElem?_eq_some_iff.1 hb).1]; exact hb
theorem Below.up {B : Nat} {w W W' : World} (h : Below B w W) (h' : Below W.heap.size W W') (hB : B ≤ w.heap.size) : Below B w W' := h.trans (h'.mono (Nat.le_trans hB h.size))
theorem boxed {w w3 w4 : World} {x y z : Int} (h : Below w.heap.size w w3) (hb : Below (w3.alloc (.cells #[.int .i64 x, .int .i64 y, .int .i64 z] 47)).heap.size (w3.alloc (.cells #[.int .i64 x, .int .i64 y, .int .i64 z] 47)) w4) (n : Nd) :
    w4.cell? ⟨w3.heap.size, 0, none⟩ = some (.int .i64 x) ∧ w4.cell? ⟨w3.heap.size, 1, none⟩ = some (.int .i64 y) ∧ w4.cell? ⟨w3.heap.size, 2, none⟩ = some (.int .i64 z) ∧
    w4.frozen? ⟨w3.heap.size, 0, none⟩ = false ∧ w4.frozen? ⟨w3.heap.size, 1, none⟩ = false ∧ w4.frozen? ⟨w3.heap.size, 2, none⟩ = false ∧
    (((w4.setCell ⟨w3.heap.size, 0, none⟩ (.int .i64 n.v)).setCell ⟨w3.heap.size, 1, none⟩ (.int .i64 n.lo)).setCell ⟨w3.heap.size, 2, none⟩ (.int .i64 n.hi)).heap[w3.heap.size]? = some (.cells #[.int .i64 n.v, .int .i64 n.lo, .int .i64 n.hi] 47 (0, 0)) ∧
    Below w.heap.size w (((w4.setCell ⟨w3.heap.size, 0, none⟩ (.int .i64 n.v)).setCell ⟨w3.heap.size, 1, none⟩ (.int .i64 n.lo)).setCell ⟨w3.heap.size, 2, none⟩ (.int .i64 n.hi)) := by
  have e := below_block hb (heap_new_at w3 (.cells #[.int .i64 x, .int .i64 y, .int .i64 z] 47) _ rfl)
  refine ⟨by simp [World.cell?, e], by simp [World.cell?, e], by simp [World.cell?, e], by simp [World.frozen?, e], by simp [World.frozen?, e], by simp [World.frozen?, e], ?_, ?_⟩
  · have e1 := heap_set_at (i := 2) (heap_set_at (i := 1) (heap_set_at (i := 0) e (.int .i64 n.v)) (.int .i64 n.lo)) (.int .i64 n.hi)
    simpa using e1
  · have := h.size
    exact (((Below.up (Below.up h ((Below.refl _ _).alloc (Nat.le_refl _) _) (Nat.le_refl _)) hb (Nat.le_refl _)).setCell this _).setCell this _).setCell this _
section
variable {w : World} {p g m cap : Nat} {most : Int} {ns : List Nd}

set_option maxHeartbeats 400000 in
set_option maxRecDepth 20000 in
theorem eval_in (h : ArenaAt 51 47 w p g m cap most ns) (k : Int) (F : FuncId) (caps : Array Value) (f : Int → Bool) (hent : ∀ args W, Sem.run Try.prog (callFunc F args) W = .ok (.enter F args) W)
    (hf : ∀ (x : Int) (W : World), 0 ≤ x → x < 1024 → Below w.heap.size w W → Calls Try.prog F (#[.int .i64 x] ++ caps) W fun e W' => e = .returned (.bool (f x)) ∧ Below W.heap.size W W') :
    Calls Try.prog 23 #[.pointer (some ⟨p, 0, none⟩), .int .i64 k, .func (.func F) #[] caps] w fun e w' => e = .returned (.bool (evalP ns f k)) ∧ Below w.heap.size w w' := by
  go_enter_defers Try.func23, Try.ntmps23
  go_wp2_with fail
  refine (get_any h k).mono ?_
  rintro e w1 ⟨rfl, hb1, hs1⟩
  unfold ndV
  go_wp2_with fail
  have hbA : Below w.heap.size w (w1.alloc (.cells #[.int .i64 (getN ns k).v, .int .i64 (getN ns k).lo, .int .i64 (getN ns k).hi] 47)) := hb1.alloc (by omega) _
  have hcA : (w1.alloc (.cells #[.int .i64 (getN ns k).v, .int .i64 (getN ns k).lo, .int .i64 (getN ns k).hi] 47)).heap[w.heap.size + 1]? = some (.cells #[.int .i64 (getN ns k).v, .int .i64 (getN ns k).lo, .int .i64 (getN ns k).hi] 47 (0, 0)) := heap_new_at _ _ _ hs1.symm
  generalize w1.alloc (.cells #[.int .i64 (getN ns k).v, .int .i64 (getN ns k).lo, .int .i64 (getN ns k).hi] 47) = w2 at hbA hcA ⊢
  clear hb1 hs1
  go_loopw [1, 7] (fun kv nv wr => ∃ (kk : Int) (b : Nat) (x y z : Int), kv = .int .i64 kk ∧ nv = .pointer (some ⟨b, 0, none⟩) ∧ wr.heap[b]? = some (.cells #[.int .i64 x, .int .i64 y, .int .i64 z] 47 (0, 0)) ∧ getN ns kk = ⟨x, y, z⟩ ∧ w.heap.size ≤ b ∧ Below w.heap.size w wr ∧ evalP ns f kk = evalP ns f k) (fun kv _ _ => (intOf kv).toNat)
  case atStart => exact ⟨k, _, _, _, _, rfl, rfl, hcA, rfl, by omega, hbA, rfl⟩
  case round =>
    obtain ⟨kk, b, x, y, z, rfl, rfl, hcell, hn, hbb, hbel, hev⟩ := hrel
    have HN : Hid (getN ns kk = ⟨x, y, z⟩) := hn
    have HE : Hid (evalP ns f kk = evalP ns f k) := hev
    clear hn hev hcA hbA
    rename World => wr
    have C0 : wr.cell? ⟨b, 0, none⟩ = some (.int .i64 x) := by simp [World.cell?, hcell]
    have C1 : wr.cell? ⟨b, 1, none⟩ = some (.int .i64 y) := by simp [World.cell?, hcell]
    have C2 : wr.cell? ⟨b, 2, none⟩ = some (.int .i64 z) := by simp [World.cell?, hcell]
    by_cases hx : x < 1024
    · have hx0 : 0 ≤ x := by
        have := asks_nonneg h.good (k := kk) (by rw [HN.out]; exact hx)
        rwa [HN.out] at this
      have hc := hf x wr hx0 hx hbel
      have hnf := func_is F caps
      go_wp2_with fail
      refine hc.mono ?_
      rintro e w3 ⟨rfl, hb3⟩
      clear hc hf hnf
      have hcell3 := below_block hb3 hcell
      have hbel3 := Below.up hbel hb3 (Nat.le_refl _)
      clear hcell hbel hb3 C0 C1 C2
      have C0 : w3.cell? ⟨b, 0, none⟩ = some (.int .i64 x) := by simp [World.cell?, hcell3]
      have C1 : w3.cell? ⟨b, 1, none⟩ = some (.int .i64 y) := by simp [World.cell?, hcell3]
      have C2 : w3.cell? ⟨b, 2, none⟩ = some (.int .i64 z) := by simp [World.cell?, hcell3]
      obtain ⟨kn, hkn⟩ : ∃ kn, kn = if f x = true then z else y := ⟨_, rfl⟩
      have hlow : kn.toNat < kk.toNat ∧ evalP ns f kn = evalP ns f kk := by
        have hv : (getN ns kk).v < 1024 := by rw [HN.out]; exact hx
        have e1 := evalP_step h.good f hv
        obtain ⟨i, hi, hi2, hi3, ⟨a, ha, ha'⟩, ⟨b, hb, hb'⟩⟩ := asks h.good hv
        rw [HN.out] at e1 ha hb
        simp only at e1 ha hb
        rw [e1, hkn]
        refine ⟨?_, rfl⟩
        split <;> omega
      have HK : Hid (evalP ns f kn = evalP ns f k) := hlow.2.trans HE.out
      have hlt := hlow.1
      have hg := get_any (h.below (Below.up hbel3 ((Below.refl _ _).alloc (Nat.le_refl _) (.cells #[.int .i64 x, .int .i64 y, .int .i64 z] 47)) (Nat.le_refl _))) kn
      clear hlow HE HN
      cases hfx : f x with
      | _ =>
        rw [hfx] at hkn
        simp only [Bool.false_eq_true, if_true, if_false] at hkn
        subst hkn
        go_wp2_with fail
        refine hg.mono ?_
        rintro e w4 ⟨rfl, hb4, hs4⟩
        obtain ⟨D0, D1, D2, D3, D4, D5, D6, D7⟩ := boxed hbel3 hb4 (getN ns kn)
        clear hg hb4 hs4 C0 C1 C2 hcell3
        have hb3' := hbel3.size
        obtain ⟨bx, hbx⟩ : ∃ bx, bx = w3.heap.size := ⟨_, rfl⟩
        rw [← hbx] at D0 D1 D2 D3 D4 D5 D6 D7 hb3' ⊢
        have HX : Hid (bx = w3.heap.size) := hbx
        clear hbx hbel3
        unfold ndV
        go_wp2_with fail
        go_roundw
        case rel => exact ⟨kn, bx, _, _, _, rfl, rfl, D6, rfl, hb3', D7, HK.out⟩
        case measure => simpa [intOf] using hlt
    · have hk : evalP ns f kk = decide (kk = 1) := evalP_end f (by rw [HN.out]; exact hx)
      have HK : Hid (decide (kk = 1) = evalP ns f k) := by rw [← hk]; exact HE.out
      clear hk
      go_wp2
      refine leaves_cons (f := 31) (args := #[]) (by simp) (by simp [go_sem]) ?_
      refine (catch_idle _).mono ?_
      rintro e u' w'' ⟨rfl, rfl, rfl⟩
      rw [← HK.out]
      simp [Leaves, settle, results, Try.results23, go_sem]
      exact ⟨by rw [Bool.eq_iff_iff]; simp, hbel⟩

theorem eval_any (h : ArenaAt 51 47 w p g m cap most ns) (k : Int) (F : FuncId) (caps : Array Value) (f : Int → Bool) (hent : ∀ args W, Sem.run Try.prog (callFunc F args) W = .ok (.enter F args) W)
    (hf : ∀ (x : Int) (W : World), Below w.heap.size w W → Calls Try.prog F (#[.int .i64 x] ++ caps) W fun e W' => e = .returned (.bool (f x)) ∧ Below W.heap.size W W') :
    Calls Try.prog 23 #[.pointer (some ⟨p, 0, none⟩), .int .i64 k, .func (.func F) #[] caps] w fun e w' => e = .returned (.bool (evalP ns f k)) ∧ Below w.heap.size w w' :=
  eval_in h k F caps f hent (fun x W _ _ hb => hf x W hb)
end
end Go.Proofs.Ytcbpklpehdojnaa
