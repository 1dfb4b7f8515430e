/- Two wires' edges made by two calls and stored in two variables: what holds between these operations, whichever comes up. -/
import Derived.Test.YtphhfjfdanlhiaaGM
import Derived.Test.YtphhfjfdanlhiaaR
namespace Go.Proofs.Ytphhfjfdanlhiaa
open Go.RowKit Go.Lib

theorem EdIs.keptT {B : Nat} {fr cost : Int} {ex im : List ClD} {W W' : World} {x : Value} (h : EdIs B fr cost ex im W x) (k : KeptT [27] [] W W') : EdIs B fr cost ex im W' x := by
  obtain ⟨ve, vi, h1, h2, h3⟩ := h
  exact ⟨ve, vi, h1, k.own h2 (by decide) (by simp), k.own h3 (by decide) (by simp)⟩
theorem EdIs.le {B B' : Nat} {fr cost : Int} {ex im : List ClD} {W : World} {x : Value} (h : EdIs B fr cost ex im W x) (hb : B' ≤ B) : EdIs B' fr cost ex im W x := by
  obtain ⟨ve, vi, h1, h2, h3⟩ := h
  exact ⟨ve, vi, h1, own_mono h2 hb, own_mono h3 hb⟩
theorem EdIs.form {B : Nat} {fr cost : Int} {ex im : List ClD} {W : World} {x : Value} (h : EdIs B fr cost ex im W x) : ∃ a p a2 p2, x = .agg #[.int .i64 fr, .int .i64 cost, .slice a ex.length p, .slice a2 im.length p2] := by
  obtain ⟨ve, vi, rfl, h2, h3⟩ := h
  obtain ⟨a, p, rfl⟩ := own_form h2
  obtain ⟨a2, p2, rfl⟩ := own_form h3
  exact ⟨_, _, _, _, rfl⟩
theorem EdIs.at {B : Nat} {fr cost : Int} {ex im : List RlD} {W : World} {ve vi : Value} (h : EdIs B fr cost (plainS ex) (plainS im) W (.agg #[.int .i64 fr, .int .i64 cost, ve, vi])) (ho : ∀ c ∈ ex, c.ok) (hi : ∀ c ∈ im, c.ok) : EdS W ve vi (plainS ex) (plainS im) := by
  obtain ⟨ve', vi', h1, h2, h3⟩ := h
  unfold edV at h1
  injection h1 with h1
  obtain ⟨rfl, rfl⟩ : ve = ve' ∧ vi = vi' := by simpa using h1
  have l1 := clausesS_len ex
  have l2 := clausesS_len im
  have k1 : (plainS ex).length ≤ (clausesS ex).length := for_len _ _ _
  have k2 : (plainS im).length ≤ (clausesS im).length := for_len _ _ _
  exact ⟨cls_of_own (by omega) h2, cls_of_own (by omega) h3, plainS_ok ho, plainS_ok hi⟩
theorem keptT_set {T b i : Nat} {w : World} {cs : Array Value} (hb : w.heap[b]? = some (.cells cs T (0, 0))) (x : Value) : KeptT [T] [] w (w.setCell ⟨b, i, none⟩ x) := by
  refine ⟨by simp [World.setCell], fun k cs' t fr hk ht _ => set_off hk (fun h => ht ?_) x⟩
  subst h
  rw [hb] at hk
  injection hk with hk
  injection hk with _ hk _
  rw [← hk]
  exact List.mem_singleton.2 rfl
/-- It stays where blocks of other types do. -/
def Stays (T : Nat) (R : World → Value → Prop) : Prop := ∀ W W' x, KeptT [T] [] W W' → R W x → R W' x
theorem EdIs.stays (B : Nat) (fr cost : Int) (ex im : List ClD) : Stays 27 (EdIs B fr cost ex im) := fun _ _ _ k h => h.keptT k
/-- What holds, by what has come up. -/
structure Two (R1 R2 : World → Value → Prop) (T : Nat) (V W : World) (l1 l3 l4 l5 l6 l7 : Bool) (x1 x2 : Value) (ba bb : Nat) : Prop where
  b : Below V.heap.size V W
  r1 : l1 = true → R1 W x1
  r2 : l3 = true → R2 W x2
  a : l4 = true → V.heap.size ≤ ba ∧ ∃ c0 c1 c2 c3, W.heap[ba]? = some (.cells #[c0, c1, c2, c3] T (0, 0)) ∧ (l6 = true → x1 = .agg #[c0, c1, c2, c3])
  c : l5 = true → V.heap.size ≤ bb ∧ ∃ c0 c1 c2 c3, W.heap[bb]? = some (.cells #[c0, c1, c2, c3] T (0, 0)) ∧ (l7 = true → x2 = .agg #[c0, c1, c2, c3])
  n : l4 = true → l5 = true → ba ≠ bb
  d1 : l6 = true → l1 = true
  d2 : l7 = true → l3 = true
  e1 : l6 = true → l4 = true
  e2 : l7 = true → l5 = true
section
variable {R1 R2 : World → Value → Prop} {T : Nat} {V W W' : World} {l1 l3 l4 l5 l6 l7 : Bool} {x1 x2 : Value} {ba bb : Nat}
theorem Two.start (q : Below V.heap.size V W) : Two R1 R2 T V W false false false false false false x1 x2 ba bb := ⟨q, by simp, by simp, by simp, by simp, by simp, by simp, by simp, by simp, by simp⟩
theorem Two.below (h1 : Stays T R1) (h2 : Stays T R2) (h : Two R1 R2 T V W l1 l3 l4 l5 l6 l7 x1 x2 ba bb) (q : Below W.heap.size W W') : Two R1 R2 T V W' l1 l3 l4 l5 l6 l7 x1 x2 ba bb := by
  refine ⟨bel_up h.b q h.b.size, fun e => h1 _ _ _ (KeptT.below q) (h.r1 e), fun e => h2 _ _ _ (KeptT.below q) (h.r2 e), fun e => ?_, fun e => ?_, h.n, h.d1, h.d2, h.e1, h.e2⟩
  · obtain ⟨k, c0, c1, c2, c3, k1, k2⟩ := h.a e
    exact ⟨k, c0, c1, c2, c3, pf_block q k1, k2⟩
  · obtain ⟨k, c0, c1, c2, c3, k1, k2⟩ := h.c e
    exact ⟨k, c0, c1, c2, c3, pf_block q k1, k2⟩
theorem Two.call1 (h1 : Stays T R1) (h2 : Stays T R2) (h : Two R1 R2 T V W false l3 l4 l5 l6 l7 x1 x2 ba bb) (q : Below W.heap.size W W') {y : Value} (hr : R1 W' y) :
    Two R1 R2 T V W' true l3 l4 l5 l6 l7 y x2 ba bb := by
  have h' := h.below h1 h2 q
  refine ⟨h'.b, fun _ => hr, h'.r2, fun e => ?_, h'.c, h'.n, fun _ => rfl, h'.d2, h'.e1, h'.e2⟩
  obtain ⟨k, c0, c1, c2, c3, k1, k2⟩ := h'.a e
  exact ⟨k, c0, c1, c2, c3, k1, fun e => by have := h'.d1 e; cases this⟩
theorem Two.call2 (h1 : Stays T R1) (h2 : Stays T R2) (h : Two R1 R2 T V W l1 false l4 l5 l6 l7 x1 x2 ba bb) (q : Below W.heap.size W W') {y : Value} (hr : R2 W' y) :
    Two R1 R2 T V W' l1 true l4 l5 l6 l7 x1 y ba bb := by
  have h' := h.below h1 h2 q
  refine ⟨h'.b, h'.r1, fun _ => hr, h'.a, fun e => ?_, h'.n, h'.d1, fun _ => rfl, h'.e1, h'.e2⟩
  obtain ⟨k, c0, c1, c2, c3, k1, k2⟩ := h'.c e
  exact ⟨k, c0, c1, c2, c3, k1, fun e => by have := h'.d2 e; cases this⟩
theorem Two.alloc1 (h1 : Stays T R1) (h2 : Stays T R2) (h : Two R1 R2 T V W l1 l3 false l5 l6 l7 x1 x2 ba bb) (z0 z1 z2 z3 : Value) :
    Two R1 R2 T V (W.alloc (.cells #[z0, z1, z2, z3] T (0, 0))) l1 l3 true l5 l6 l7 x1 x2 W.heap.size bb := by
  have h' := h.below h1 h2 (bel_alloc (Below.refl _ _) (.cells #[z0, z1, z2, z3] T (0, 0)))
  refine ⟨h'.b, h'.r1, h'.r2, fun _ => ⟨h.b.size, z0, z1, z2, z3, pf_new _ _ _ rfl, fun e => by have := h'.e1 e; cases this⟩, h'.c, fun _ e => ?_, h'.d1, h'.d2, fun _ => rfl, h'.e2⟩
  obtain ⟨_, _, _, _, _, k1, _⟩ := h.c e
  exact Nat.ne_of_gt (Array.getElem?_eq_some_iff.1 k1).1
theorem Two.alloc2 (h1 : Stays T R1) (h2 : Stays T R2) (h : Two R1 R2 T V W l1 l3 l4 false l6 l7 x1 x2 ba bb) (z0 z1 z2 z3 : Value) :
    Two R1 R2 T V (W.alloc (.cells #[z0, z1, z2, z3] T (0, 0))) l1 l3 l4 true l6 l7 x1 x2 ba W.heap.size := by
  have h' := h.below h1 h2 (bel_alloc (Below.refl _ _) (.cells #[z0, z1, z2, z3] T (0, 0)))
  refine ⟨h'.b, h'.r1, h'.r2, h'.a, fun _ => ⟨h.b.size, z0, z1, z2, z3, pf_new _ _ _ rfl, fun e => by have := h'.e2 e; cases this⟩, fun e _ => ?_, h'.d1, h'.d2, h'.e1, fun _ => rfl⟩
  obtain ⟨_, _, _, _, _, k1, _⟩ := h.a e
  exact Nat.ne_of_lt (Array.getElem?_eq_some_iff.1 k1).1
theorem set_4c {w : World} {b t : Nat} {c0 c1 c2 c3 : Value} (h : w.heap[b]? = some (.cells #[c0, c1, c2, c3] t (0, 0))) (u0 u1 u2 u3 : Value) : ((((w.setCell ⟨b, 0, none⟩ u0).setCell ⟨b, 1, none⟩ u1).setCell ⟨b, 2, none⟩ u2).setCell ⟨b, 3, none⟩ u3).heap[b]? = some (.cells #[u0, u1, u2, u3] t (0, 0)) := set_at (i := 3) (set_at (i := 2) (set_at (i := 1) (set_at (i := 0) h _) _) _) _
theorem keptT_set4 {w : World} {b t : Nat} {c0 c1 c2 c3 : Value} (h : w.heap[b]? = some (.cells #[c0, c1, c2, c3] t (0, 0))) (u0 u1 u2 u3 : Value) : KeptT [t] [] w ((((w.setCell ⟨b, 0, none⟩ u0).setCell ⟨b, 1, none⟩ u1).setCell ⟨b, 2, none⟩ u2).setCell ⟨b, 3, none⟩ u3) :=
  (((keptT_set (i := 0) h u0).trans (keptT_set (i := 1) (set_at (i := 0) h u0) u1)).trans (keptT_set (i := 2) (set_at (i := 1) (set_at (i := 0) h u0) u1) u2)).trans (keptT_set (i := 3) (set_at (i := 2) (set_at (i := 1) (set_at (i := 0) h u0) u1) u2) u3)
theorem Two.store1 (h1 : Stays T R1) (h2 : Stays T R2) {u0 u1 u2 u3 : Value} (h : Two R1 R2 T V W true l3 true l5 l6 l7 (.agg #[u0, u1, u2, u3]) x2 ba bb) :
    Two R1 R2 T V ((((W.setCell ⟨ba, 0, none⟩ u0).setCell ⟨ba, 1, none⟩ u1).setCell ⟨ba, 2, none⟩ u2).setCell ⟨ba, 3, none⟩ u3) true l3 true l5 true l7 (.agg #[u0, u1, u2, u3]) x2 ba bb := by
  obtain ⟨k, c0, c1, c2, c3, k1, _⟩ := h.a rfl
  have K := keptT_set4 k1 u0 u1 u2 u3
  refine ⟨(((h.b.setCell k _).setCell k _).setCell k _).setCell k _, fun e => h1 _ _ _ K (h.r1 e), fun e => h2 _ _ _ K (h.r2 e), fun _ => ⟨k, u0, u1, u2, u3, set_4c k1 _ _ _ _, fun _ => rfl⟩, fun e => ?_, h.n, fun _ => rfl, h.d2, fun _ => rfl, h.e2⟩
  obtain ⟨j, e0, e1, e2, e3, j1, j2⟩ := h.c e
  have hn := h.n rfl e
  have hm : bb ≠ ba := fun h => hn h.symm
  exact ⟨j, e0, e1, e2, e3, set_off (set_off (set_off (set_off j1 hm _) hm _) hm _) hm _, j2⟩
theorem Two.store2 (h1 : Stays T R1) (h2 : Stays T R2) {u0 u1 u2 u3 : Value} (h : Two R1 R2 T V W l1 true l4 true l6 l7 x1 (.agg #[u0, u1, u2, u3]) ba bb) :
    Two R1 R2 T V ((((W.setCell ⟨bb, 0, none⟩ u0).setCell ⟨bb, 1, none⟩ u1).setCell ⟨bb, 2, none⟩ u2).setCell ⟨bb, 3, none⟩ u3) l1 true l4 true l6 true x1 (.agg #[u0, u1, u2, u3]) ba bb := by
  obtain ⟨k, c0, c1, c2, c3, k1, _⟩ := h.c rfl
  have K := keptT_set4 k1 u0 u1 u2 u3
  refine ⟨(((h.b.setCell k _).setCell k _).setCell k _).setCell k _, fun e => h1 _ _ _ K (h.r1 e), fun e => h2 _ _ _ K (h.r2 e), fun e => ?_, fun _ => ⟨k, u0, u1, u2, u3, set_4c k1 _ _ _ _, fun _ => rfl⟩, h.n, h.d1, fun _ => rfl, h.e1, fun _ => rfl⟩
  obtain ⟨j, e0, e1, e2, e3, j1, j2⟩ := h.a e
  have hn := h.n e rfl
  exact ⟨j, e0, e1, e2, e3, set_off (set_off (set_off (set_off j1 hn _) hn _) hn _) hn _, j2⟩
end
/-- What the operations have yielded, by what has come up. -/
structure Gs (l0 l1 l2 l3 l4 l5 : Bool) (y0 y2 v9 v11 x1 x2 v10 v12 v5 v6 : Value) (ba bb : Nat) : Prop where
  g0 : l0 = true → v9 = y0
  g2 : l2 = true → v11 = y2
  g1 : l1 = true → v10 = x1
  g3 : l3 = true → v12 = x2
  g4 : l4 = true → v5 = .pointer (some ⟨ba, 0, none⟩)
  g5 : l5 = true → v6 = .pointer (some ⟨bb, 0, none⟩)
def TwoI (fr : Value → Value → Value → Value → Value → Value → Array Value) (R1 R2 : World → Value → Prop) (T : Nat) (V : World) (y0 y2 : Value) (l : Array Bool) (a : Act) (W : World) : Prop :=
  ∃ l0 l1 l2 l3 l4 l5 l6 l7 x1 x2 v9 v11 ba bb v5 v6 v10 v12, l = #[l0, l1, l2, l3, l4, l5, l6, l7] ∧ a = ⟨fr v5 v6 v9 v10 v11 v12, []⟩ ∧ Gs l0 l1 l2 l3 l4 l5 y0 y2 v9 v11 x1 x2 v10 v12 v5 v6 ba bb ∧ Two R1 R2 T V W l1 l3 l4 l5 l6 l7 x1 x2 ba bb
end Go.Proofs.Ytphhfjfdanlhiaa
