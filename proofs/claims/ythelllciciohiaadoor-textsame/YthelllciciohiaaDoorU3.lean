/- Two things that two calls make, stored in two variables: what holds between these operations, whichever comes up. -/
import Derived.Test.YthelllciciohiaaDoorU2
import Derived.Test.YthelllciciohiaaDoorR
namespace Go.Proofs.YthelllciciohiaaDoor
open Go.RowKit Go.Lib

/-- What a call made lies in blocks of its own. -/
def ConfIs (B : Nat) (c : CfD) (W : World) (x : Value) : Prop := ∃ mv rv lm lr, x = .agg #[mv, rv] ∧ ConfOwn B W mv rv lm lr ∧ lm.map (·.1) = c.maps ∧ lr.map (·.1) = c.ros
theorem ConfOwn.keptT {B : Nat} {W W' : World} {mv rv : Value} {lm : List MpV} {lr : List RoV} (h : ConfOwn B W mv rv lm lr) (k : KeptT [40] [] W W') : ConfOwn B W' mv rv lm lr :=
  ⟨k.own h.m (by decide) (by simp), fun p hp => (h.mc p hp).kept k (by decide) (by simp), k.own h.r (by decide) (by simp), fun p hp => (h.rc p hp).kept k (by decide) (by simp)⟩
theorem ConfIs.keptT {B : Nat} {c : CfD} {W W' : World} {x : Value} (h : ConfIs B c W x) (k : KeptT [40] [] W W') : ConfIs B c W' x := by
  obtain ⟨mv, rv, lm, lr, h1, h2, h3⟩ := h
  exact ⟨mv, rv, lm, lr, h1, h2.keptT k, h3⟩
theorem ConfIs.le {B B' : Nat} {c : CfD} {W : World} {x : Value} (h : ConfIs B c W x) (hb : B' ≤ B) : ConfIs B' c W x := by
  obtain ⟨mv, rv, lm, lr, h1, h2, h3⟩ := h
  exact ⟨mv, rv, lm, lr, h1, ⟨own_le h2.m hb, fun p hp => own_le (h2.mc p hp) hb, own_le h2.r hb, fun p hp => ⟨own_le (h2.rc p hp).1 hb, own_le (h2.rc p hp).2.1 hb, own_le (h2.rc p hp).2.2 hb⟩⟩, h3⟩
theorem ConfIs.at {s : ShD} {B : Nat} {W : World} {x : Value} (h : ConfIs B (confS s) W x) : CfAt W W.heap.size x (confS s) := by
  obtain ⟨mv, rv, lm, lr, rfl, h2, h3, h4⟩ := h
  exact h2.at h3 h4
theorem ConfIs.form {B : Nat} {c : CfD} {W : World} {x : Value} (h : ConfIs B c W x) : ∃ a n p a2 n2 p2, x = .agg #[.slice a n p, .slice a2 n2 p2] := by
  obtain ⟨mv, rv, lm, lr, rfl, h2, h3, h4⟩ := h
  obtain ⟨a, p, rfl⟩ := own_form h2.m
  obtain ⟨a2, p2, rfl⟩ := own_form h2.r
  exact ⟨_, _, _, _, _, _, rfl⟩
theorem keptT_set {T b i : Nat} {w : World} {cs : Array Value} (hb : w.heap[b]? = some (.cells cs T (0, 0))) (x : Value) : KeptT [T] [] w (w.setCell ⟨b, i, none⟩ x) := by
  refine ⟨by simp [World.setCell], fun k cs' t fr hk ht _ => set_off hk (fun h => ht ?_) x⟩
  subst h
  rw [hb] at hk
  injection hk with hk
  injection hk with _ hk _
  rw [← hk]
  exact List.mem_singleton.2 rfl
/-- It stays where blocks of other types do. -/
def Stays (T : Nat) (R : World → Value → Prop) : Prop := ∀ W W' x, KeptT [T] [] W W' → R W x → R W' x
theorem ConfIs.stays (B : Nat) (c : CfD) : Stays 40 (ConfIs B c) := fun _ _ _ k h => h.keptT k
/-- What holds, by what has come up. -/
structure Two (R1 R2 : World → Value → Prop) (T : Nat) (V W : World) (l1 l3 l4 l5 l6 l7 : Bool) (x1 x2 : Value) (ba bb : Nat) : Prop where
  b : Below V.heap.size V W
  r1 : l1 = true → R1 W x1
  r2 : l3 = true → R2 W x2
  a : l4 = true → V.heap.size ≤ ba ∧ ∃ c0 c1, W.heap[ba]? = some (.cells #[c0, c1] T (0, 0)) ∧ (l6 = true → x1 = .agg #[c0, c1])
  c : l5 = true → V.heap.size ≤ bb ∧ ∃ c0 c1, W.heap[bb]? = some (.cells #[c0, c1] T (0, 0)) ∧ (l7 = true → x2 = .agg #[c0, c1])
  n : l4 = true → l5 = true → ba ≠ bb
  d1 : l6 = true → l1 = true
  d2 : l7 = true → l3 = true
  e1 : l6 = true → l4 = true
  e2 : l7 = true → l5 = true
section
variable {R1 R2 : World → Value → Prop} {T : Nat} {V W W' : World} {l1 l3 l4 l5 l6 l7 : Bool} {x1 x2 : Value} {ba bb : Nat}
theorem Two.start (q : Below V.heap.size V W) : Two R1 R2 T V W false false false false false false x1 x2 ba bb := ⟨q, by simp, by simp, by simp, by simp, by simp, by simp, by simp, by simp, by simp⟩
theorem Two.below (h1 : Stays T R1) (h2 : Stays T R2) (h : Two R1 R2 T V W l1 l3 l4 l5 l6 l7 x1 x2 ba bb) (q : Below W.heap.size W W') : Two R1 R2 T V W' l1 l3 l4 l5 l6 l7 x1 x2 ba bb := by
  refine ⟨bel_up h.b q h.b.size, fun e => h1 _ _ _ (KeptT.below q) (h.r1 e), fun e => h2 _ _ _ (KeptT.below q) (h.r2 e), fun e => ?_, fun e => ?_, h.n, h.d1, h.d2, h.e1, h.e2⟩
  · obtain ⟨k, c0, c1, k1, k2⟩ := h.a e
    exact ⟨k, c0, c1, pf_block q k1, k2⟩
  · obtain ⟨k, c0, c1, k1, k2⟩ := h.c e
    exact ⟨k, c0, c1, pf_block q k1, k2⟩
theorem Two.call1 (h1 : Stays T R1) (h2 : Stays T R2) (h : Two R1 R2 T V W false l3 l4 l5 l6 l7 x1 x2 ba bb) (q : Below W.heap.size W W') {y : Value} (hr : R1 W' y) :
    Two R1 R2 T V W' true l3 l4 l5 l6 l7 y x2 ba bb := by
  have h' := h.below h1 h2 q
  refine ⟨h'.b, fun _ => hr, h'.r2, fun e => ?_, h'.c, h'.n, fun _ => rfl, h'.d2, h'.e1, h'.e2⟩
  obtain ⟨k, c0, c1, k1, k2⟩ := h'.a e
  exact ⟨k, c0, c1, k1, fun e => by have := h'.d1 e; cases this⟩
theorem Two.call2 (h1 : Stays T R1) (h2 : Stays T R2) (h : Two R1 R2 T V W l1 false l4 l5 l6 l7 x1 x2 ba bb) (q : Below W.heap.size W W') {y : Value} (hr : R2 W' y) :
    Two R1 R2 T V W' l1 true l4 l5 l6 l7 x1 y ba bb := by
  have h' := h.below h1 h2 q
  refine ⟨h'.b, h'.r1, fun _ => hr, h'.a, fun e => ?_, h'.n, h'.d1, fun _ => rfl, h'.e1, h'.e2⟩
  obtain ⟨k, c0, c1, k1, k2⟩ := h'.c e
  exact ⟨k, c0, c1, k1, fun e => by have := h'.d2 e; cases this⟩
theorem Two.alloc1 (h1 : Stays T R1) (h2 : Stays T R2) (h : Two R1 R2 T V W l1 l3 false l5 l6 l7 x1 x2 ba bb) (z0 z1 : Value) :
    Two R1 R2 T V (W.alloc (.cells #[z0, z1] T (0, 0))) l1 l3 true l5 l6 l7 x1 x2 W.heap.size bb := by
  have h' := h.below h1 h2 (bel_alloc (Below.refl _ _) (.cells #[z0, z1] T (0, 0)))
  refine ⟨h'.b, h'.r1, h'.r2, fun _ => ⟨h.b.size, z0, z1, pf_new _ _ _ rfl, fun e => by have := h'.e1 e; cases this⟩, h'.c, fun _ e => ?_, h'.d1, h'.d2, fun _ => rfl, h'.e2⟩
  obtain ⟨_, _, _, k1, _⟩ := h.c e
  exact Nat.ne_of_gt (Array.getElem?_eq_some_iff.1 k1).1
theorem Two.alloc2 (h1 : Stays T R1) (h2 : Stays T R2) (h : Two R1 R2 T V W l1 l3 l4 false l6 l7 x1 x2 ba bb) (z0 z1 : Value) :
    Two R1 R2 T V (W.alloc (.cells #[z0, z1] T (0, 0))) l1 l3 l4 true l6 l7 x1 x2 ba W.heap.size := by
  have h' := h.below h1 h2 (bel_alloc (Below.refl _ _) (.cells #[z0, z1] T (0, 0)))
  refine ⟨h'.b, h'.r1, h'.r2, h'.a, fun _ => ⟨h.b.size, z0, z1, pf_new _ _ _ rfl, fun e => by have := h'.e2 e; cases this⟩, fun e _ => ?_, h'.d1, h'.d2, h'.e1, fun _ => rfl⟩
  obtain ⟨_, _, _, k1, _⟩ := h.a e
  exact Nat.ne_of_lt (Array.getElem?_eq_some_iff.1 k1).1
theorem set_2c {w : World} {b t : Nat} {c0 c1 : Value} (h : w.heap[b]? = some (.cells #[c0, c1] t (0, 0))) (u0 u1 : Value) : ((w.setCell ⟨b, 0, none⟩ u0).setCell ⟨b, 1, none⟩ u1).heap[b]? = some (.cells #[u0, u1] t (0, 0)) := set_at (i := 1) (set_at (i := 0) h _) _
theorem Two.store1 (h1 : Stays T R1) (h2 : Stays T R2) {u0 u1 : Value} (h : Two R1 R2 T V W true l3 true l5 l6 l7 (.agg #[u0, u1]) x2 ba bb) :
    Two R1 R2 T V ((W.setCell ⟨ba, 0, none⟩ u0).setCell ⟨ba, 1, none⟩ u1) true l3 true l5 true l7 (.agg #[u0, u1]) x2 ba bb := by
  obtain ⟨k, c0, c1, k1, _⟩ := h.a rfl
  have K := (keptT_set (i := 0) k1 u0).trans (keptT_set (i := 1) (set_at (i := 0) k1 u0) u1)
  refine ⟨(h.b.setCell k _).setCell k _, fun e => h1 _ _ _ K (h.r1 e), fun e => h2 _ _ _ K (h.r2 e), fun _ => ⟨k, u0, u1, set_2c k1 _ _, fun _ => rfl⟩, fun e => ?_, h.n, fun _ => rfl, h.d2, fun _ => rfl, h.e2⟩
  obtain ⟨j, e0, e1, j1, j2⟩ := h.c e
  have hn := h.n rfl e
  exact ⟨j, e0, e1, set_off (set_off j1 (fun h => hn h.symm) _) (fun h => hn h.symm) _, j2⟩
theorem Two.store2 (h1 : Stays T R1) (h2 : Stays T R2) {u0 u1 : Value} (h : Two R1 R2 T V W l1 true l4 true l6 l7 x1 (.agg #[u0, u1]) ba bb) :
    Two R1 R2 T V ((W.setCell ⟨bb, 0, none⟩ u0).setCell ⟨bb, 1, none⟩ u1) l1 true l4 true l6 true x1 (.agg #[u0, u1]) ba bb := by
  obtain ⟨k, c0, c1, k1, _⟩ := h.c rfl
  have K := (keptT_set (i := 0) k1 u0).trans (keptT_set (i := 1) (set_at (i := 0) k1 u0) u1)
  refine ⟨(h.b.setCell k _).setCell k _, fun e => h1 _ _ _ K (h.r1 e), fun e => h2 _ _ _ K (h.r2 e), fun e => ?_, fun _ => ⟨k, u0, u1, set_2c k1 _ _, fun _ => rfl⟩, h.n, h.d1, fun _ => rfl, h.e1, fun _ => rfl⟩
  obtain ⟨j, e0, e1, j1, j2⟩ := h.a e
  have hn := h.n e rfl
  exact ⟨j, e0, e1, set_off (set_off j1 hn _) hn _, j2⟩
end
/-- What the operations have yielded, by what has come up. -/
structure Gs (l0 l1 l2 l3 l4 l5 : Bool) (y0 y2 v9 v11 x1 x2 v10 v12 v5 v6 : Value) (ba bb : Nat) : Prop where
  g0 : l0 = true → v9 = y0
  g2 : l2 = true → v11 = y2
  g1 : l1 = true → v10 = x1
  g3 : l3 = true → v12 = x2
  g4 : l4 = true → v5 = .pointer (some ⟨ba, 0, none⟩)
  g5 : l5 = true → v6 = .pointer (some ⟨bb, 0, none⟩)
def TwoI (fr : Value → Value → Value → Value → Value → Value → Array Value) (R1 R2 : World → Value → Prop) (T : Nat) (V : World) (y0 y2 : Value) (l : Array Bool) (a : Act) (W : World) : Prop :=
  ∃ l0 l1 l2 l3 l4 l5 l6 l7 x1 x2 v9 v11 ba bb v5 v6 v10 v12, l = #[l0, l1, l2, l3, l4, l5, l6, l7] ∧ a = ⟨fr v5 v6 v9 v10 v11 v12, []⟩ ∧ Gs l0 l1 l2 l3 l4 l5 y0 y2 v9 v11 x1 x2 v10 v12 v5 v6 ba bb ∧ Two R1 R2 T V W l1 l3 l4 l5 l6 l7 x1 x2 ba bb
def OwnSaid : Prop := ∀ (s : ShD), s.ok → ∀ (v : Value) (w : World), ShAt w w.heap.size v s → Calls Tryd.prog 13 #[v] w fun e w' => ∃ x, e = .returned x ∧ ConfIs w.heap.size (confS s) w' x ∧ Below w.heap.size w w'
end Go.Proofs.YthelllciciohiaaDoor
