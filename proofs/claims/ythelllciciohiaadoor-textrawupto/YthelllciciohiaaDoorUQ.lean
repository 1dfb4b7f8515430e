/- What is kept while a configuration is made of numbers. -/
import Derived.Test.YthelllciciohiaaDoorUP
namespace Go.Proofs.YthelllciciohiaaDoor
open Go.RowKit Go.Lib

/-- Blocks of other types than these, and but for these blocks, are as they were. -/
def KeptT (E L : List Nat) (w w' : World) : Prop := w.heap.size ≤ w'.heap.size ∧ ∀ k cs t fr, w.heap[k]? = some (.cells cs t fr) → t ∉ E → k ∉ L → w'.heap[k]? = some (.cells cs t fr)
theorem KeptT.refl (E L : List Nat) (w : World) : KeptT E L w w := ⟨Nat.le_refl _, fun _ _ _ _ h _ _ => h⟩
theorem KeptT.trans {E L : List Nat} {a b c : World} (h : KeptT E L a b) (k : KeptT E L b c) : KeptT E L a c := ⟨Nat.le_trans h.1 k.1, fun i cs t fr hi ht hl => k.2 i cs t fr (h.2 i cs t fr hi ht hl) ht hl⟩
theorem KeptT.below {E L : List Nat} {w w' : World} (q : Below w.heap.size w w') : KeptT E L w w' := ⟨q.size, fun _ _ _ _ h _ _ => pf_block q h⟩
theorem KeptT.grown {E L : List Nat} {w w' : World} {B e z n : Nat} {v : Value} {xs : List Value} (ho : w.ownsRow B e z v n xs) (hg : w.grownBy w' v.ownBlock) (he : e ∈ E) : KeptT E L w w' := by
  refine ⟨hg.size, fun k cs t fr hk ht _ => ?_⟩
  rw [hg.block k (Array.getElem?_eq_some_iff.1 hk).1 ?_]
  · exact hk
  · rcases ho.2 with ⟨h0, _⟩ | ⟨g, cap, cur, h1, _, h3, _⟩
    · rw [h0]; simp [Value.ownBlock]
    · rw [h1]
      simp only [Value.ownBlock, ne_eq, Option.some.injEq]
      intro hkg
      rw [hkg, h3] at hk
      injection hk with hk
      injection hk with _ hk _
      exact ht (hk ▸ he)
theorem KeptT.setCell {E L : List Nat} {w : World} {b i : Nat} (hb : b ∈ L) (x : Value) : KeptT E L w (w.setCell ⟨b, i, none⟩ x) :=
  ⟨by simp [World.setCell], fun k cs t fr hk _ hl => set_off hk (fun h => hl (h ▸ hb)) x⟩
theorem KeptT.own {E L : List Nat} {w w' : World} {B e z n : Nat} {v : Value} {xs : List Value} (h : KeptT E L w w') (ho : w.ownsRow B e z v n xs) (he : e ∉ E) (hl : ∀ g, v.ownBlock = some g → g ∉ L) : w'.ownsRow B e z v n xs := by
  refine ⟨ho.1, ?_⟩
  rcases ho.2 with h0 | ⟨g, cap, cur, h1, h2, h3, h4⟩
  · exact .inl h0
  · exact .inr ⟨g, cap, cur, h1, h2, h.2 g _ _ _ h3 he (hl g (by rw [h1]; rfl)), h4⟩
/-- A row is no block of another type, nor of none. -/
theorem own_off {w : World} {B e z n b t : Nat} {v : Value} {xs : List Value} {cs : Array Value} {fr : Nat × Nat} (ho : w.ownsRow B e z v n xs) (hb : w.heap[b]? = some (.cells cs t fr)) (ht : t ≠ e) : ∀ g, v.ownBlock = some g → g ∉ [b] := by
  intro g hg
  rcases ho.2 with ⟨h0, _⟩ | ⟨g', cap, cur, h1, _, h3, _⟩
  · rw [h0] at hg; simp [Value.ownBlock] at hg
  · rw [h1] at hg
    simp [Value.ownBlock] at hg
    subst hg
    rw [List.mem_singleton]
    intro h
    rw [h, hb] at h3
    injection h3 with h3
    injection h3 with _ h3 _
    exact ht h3
theorem own_le {w : World} {B B' e z n : Nat} {v : Value} {xs : List Value} (h : w.ownsRow B e z v n xs) (hb : B' ≤ B) : w.ownsRow B' e z v n xs :=
  ⟨h.1, h.2.elim Or.inl (fun ⟨g, cap, cur, hv, hg, r⟩ => Or.inr ⟨g, cap, cur, hv, Nat.le_trans hb hg, r⟩)⟩
theorem own_lt {w : World} {B e z n : Nat} {v : Value} {xs : List Value} (h : w.ownsRow B e z v n xs) : ∀ g, v.ownBlock = some g → g < w.heap.size := by
  intro g hg
  rcases h.2 with ⟨h0, _⟩ | ⟨g', cap, cur, h1, _, h3, _⟩
  · rw [h0] at hg; simp [Value.ownBlock] at hg
  · rw [h1] at hg
    simp [Value.ownBlock] at hg
    subst hg
    exact (Array.getElem?_eq_some_iff.1 h3).1
theorem own_one {w : World} {B e z n : Nat} {v : Value} {xs : List Value} (h : w.ownsRow B e z v n xs) : v.oneCell' = true := by
  rcases h.2 with ⟨rfl, _⟩ | ⟨g, cap, cur, rfl, _⟩ <;> rfl
theorem own_form {w : World} {B e z n : Nat} {v : Value} {xs : List Value} (h : w.ownsRow B e z v n xs) : ∃ ad cap, v = .slice ad n cap := by
  rcases h.2 with ⟨rfl, h0⟩ | ⟨g, cap, cur, rfl, _⟩
  · exact ⟨none, 0, by rw [h0]⟩
  · exact ⟨_, _, rfl⟩
abbrev MpV := MpD × Value
abbrev RoV := RoD × Value × Value × Value
def mpL (p : MpV) : List Value := [.string ⟨p.1.name.toArray⟩, p.2, .int .i64 p.1.pl]
def pfL (p : Nat × Int) : List Value := [.int .u32 p.1, .int .i64 p.2]
def lkL (l : LkD) : List Value := [.string ⟨l.peer.toArray⟩, .int .i64 l.cost, .string ⟨l.imp.toArray⟩, .string ⟨l.exp.toArray⟩, .int .i64 l.pl]
def stL (s : StD) : List Value := [.int .u32 s.a, .int .i64 s.b, .string ⟨s.via.toArray⟩, .int .i64 s.pl]
def roL (p : RoV) : List Value := [.string ⟨p.1.name.toArray⟩, p.2.1, p.2.2.1, p.2.2.2, .int .i64 p.1.pl]
/-- A router's rows. -/
def Rows3 (W : World) (B : Nat) (p : RoV) : Prop :=
  W.ownsRow B 24 2 p.2.1 p.1.nets.length (p.1.nets.flatMap pfL) ∧ W.ownsRow B 53 5 p.2.2.1 p.1.lks.length (p.1.lks.flatMap lkL) ∧ W.ownsRow B 69 4 p.2.2.2 p.1.sts.length (p.1.sts.flatMap stL)
def Row1 (W : World) (B : Nat) (p : MpV) : Prop := W.ownsRow B 26 10 p.2 p.1.cls.length (p.1.cls.flatMap clW)
/-- What lies while a configuration is made. -/
structure CS (w : World) (b1 b2 b3 : Nat) (bx : Array Value) (mv rv : Value) (lm : List MpV) (lr : List RoV) (W : World) : Prop where
  c : W.heap[b3]? = some (.cells #[mv, rv] 40 (0, 0))
  x : W.heap[b1]? = some (.cells bx 36 (0, 0))
  z : W.heap[b2]? = some (.cells #[.slice none 0 0, .slice none 0 0] 40 (0, 0))
  m : W.ownsRow w.heap.size 46 3 mv lm.length (lm.flatMap mpL)
  mc : ∀ p ∈ lm, Row1 W w.heap.size p
  r : W.ownsRow w.heap.size 51 5 rv lr.length (lr.flatMap roL)
  rc : ∀ p ∈ lr, Rows3 W w.heap.size p
  b : Below w.heap.size w W
section
variable {w W W' : World} {b1 b2 b3 : Nat} {bx : Array Value} {mv rv : Value} {lm : List MpV} {lr : List RoV}
theorem Row1.kept {B : Nat} {p : MpV} {E L : List Nat} (h : Row1 W B p) (k : KeptT E L W W') (he : 26 ∉ E) (hl : ∀ b ∈ L, ∃ cs t fr, W.heap[b]? = some (.cells cs t fr) ∧ t ≠ 26) : Row1 W' B p := by
  refine k.own h he fun g hg hgl => ?_
  obtain ⟨cs, t, fr, h1, h2⟩ := hl g hgl
  exact own_off h h1 h2 g hg (List.mem_singleton.2 rfl)
theorem Rows3.kept {B : Nat} {p : RoV} {E L : List Nat} (h : Rows3 W B p) (k : KeptT E L W W') (he : 24 ∉ E ∧ 53 ∉ E ∧ 69 ∉ E) (hl : ∀ b ∈ L, ∃ cs t fr, W.heap[b]? = some (.cells cs t fr) ∧ t ≠ 24 ∧ t ≠ 53 ∧ t ≠ 69) : Rows3 W' B p := by
  refine ⟨k.own h.1 he.1 fun g hg hgl => ?_, k.own h.2.1 he.2.1 fun g hg hgl => ?_, k.own h.2.2 he.2.2 fun g hg hgl => ?_⟩
  · obtain ⟨cs, t, fr, h1, h2, _, _⟩ := hl g hgl
    exact own_off h.1 h1 h2 g hg (List.mem_singleton.2 rfl)
  · obtain ⟨cs, t, fr, h1, _, h2, _⟩ := hl g hgl
    exact own_off h.2.1 h1 h2 g hg (List.mem_singleton.2 rfl)
  · obtain ⟨cs, t, fr, h1, _, _, h2⟩ := hl g hgl
    exact own_off h.2.2 h1 h2 g hg (List.mem_singleton.2 rfl)
theorem CS.below (h : CS w b1 b2 b3 bx mv rv lm lr W) (q : Below W.heap.size W W') : CS w b1 b2 b3 bx mv rv lm lr W' :=
  ⟨pf_block q h.c, pf_block q h.x, pf_block q h.z, own_bel h.m q, fun p hp => own_bel (h.mc p hp) q, own_bel h.r q, fun p hp => ⟨own_bel (h.rc p hp).1 q, own_bel (h.rc p hp).2.1 q, own_bel (h.rc p hp).2.2 q⟩, bel_up h.b q h.b.size⟩
end
theorem mpL_at {W : World} {B b o : Nat} {p : MpV} (hc : Row1 W B p) (hlen : p.1.cls.length ≤ 9223372036854775807) (h : ∀ j u, (mpL p)[j]? = some u → W.cell? ⟨b, o + j, none⟩ = some u) : MpAt W W.heap.size b o p.1 :=
  ⟨p.2, h 0 _ rfl, h 1 _ rfl, h 2 _ rfl, slice_of_own clW (fun _ => rfl) (fun _ _ _ _ h => clW_at h) hlen hc⟩
theorem pfL_at {W : World} {b o : Nat} {p : Nat × Int} (h : ∀ j u, (pfL p)[j]? = some u → W.cell? ⟨b, o + j, none⟩ = some u) : PfAt W b o p := ⟨h 0 _ rfl, h 1 _ rfl⟩
theorem lkL_at {W : World} {b o : Nat} {p : LkD} (h : ∀ j u, (lkL p)[j]? = some u → W.cell? ⟨b, o + j, none⟩ = some u) : LkAt W b o p := ⟨h 0 _ rfl, h 1 _ rfl, h 2 _ rfl, h 3 _ rfl, h 4 _ rfl⟩
theorem stL_at {W : World} {b o : Nat} {p : StD} (h : ∀ j u, (stL p)[j]? = some u → W.cell? ⟨b, o + j, none⟩ = some u) : StAt W b o p := ⟨h 0 _ rfl, h 1 _ rfl, h 2 _ rfl, h 3 _ rfl⟩
theorem roL_at {W : World} {B b o : Nat} {p : RoV} (hc : Rows3 W B p) (hlen : p.1.nets.length ≤ 9223372036854775807 ∧ p.1.lks.length ≤ 9223372036854775807 ∧ p.1.sts.length ≤ 9223372036854775807) (h : ∀ j u, (roL p)[j]? = some u → W.cell? ⟨b, o + j, none⟩ = some u) : RoAt W W.heap.size b o p.1 :=
  ⟨p.2.1, p.2.2.1, p.2.2.2, h 0 _ rfl, h 1 _ rfl, h 2 _ rfl, h 3 _ rfl, h 4 _ rfl, slice_of_own pfL (fun _ => rfl) (fun _ _ _ _ h => pfL_at h) hlen.1 hc.1, slice_of_own lkL (fun _ => rfl) (fun _ _ _ _ h => lkL_at h) hlen.2.1 hc.2.1, slice_of_own stL (fun _ => rfl) (fun _ _ _ _ h => stL_at h) hlen.2.2 hc.2.2⟩
/-- A list with what goes beside it, as the list alone. -/
theorem slice_fst {α β : Type} {B z : Nat} {el : Nat → Nat → α → Prop} {v : Value} {l : List (α × β)} (h : SliceAt B z (fun b o (p : α × β) => el b o p.1) v l) : SliceAt B z el v (l.map (·.1)) := by
  obtain ⟨ad, cap, h1, h2, h3⟩ := h
  refine ⟨ad, cap, by rw [List.length_map]; exact h1, by rw [List.length_map]; exact h2, fun i x hx => ?_⟩
  rw [List.getElem?_map] at hx
  cases hp : l[i]? with
  | none => rw [hp] at hx; cases hx
  | some p =>
    rw [hp] at hx
    obtain rfl := Option.some.inj hx
    exact h3 i p hp
/-- A row whose things are known one by one. -/
theorem slice_of_own2 {α : Type} {W : World} {B e z : Nat} (f : α → List Value) (hz : ∀ x, (f x).length = z) {el : Nat → Nat → α → Prop} {v : Value} {l : List α} (hel : ∀ b o x, x ∈ l → b < W.heap.size → (∀ j u, (f x)[j]? = some u → W.cell? ⟨b, o + j, none⟩ = some u) → el b o x)
    (hl : l.length ≤ 9223372036854775807) (h : W.ownsRow B e z v l.length (l.flatMap f)) : SliceAt W.heap.size z el v l := by
  obtain ⟨ad, cap, h1, h2, h3⟩ := slice_of_own f hz (el := fun b o x => ∀ j u, (f x)[j]? = some u → W.cell? ⟨b, o + j, none⟩ = some u) (fun _ _ _ _ h => h) hl h
  refine ⟨ad, cap, h1, h2, fun i x hx => ?_⟩
  obtain ⟨b, off, e1, e2, e3⟩ := h3 i x hx
  exact ⟨b, off, e1, e2, hel b _ x (List.mem_of_getElem? hx) e2 e3⟩
theorem CS.conf {w W : World} {b1 b2 b3 : Nat} {bx : Array Value} {mv rv : Value} {lm : List MpV} {lr : List RoV} (h : CS w b1 b2 b3 bx mv rv lm lr W) (h1 : lm.length ≤ 100 ∧ lr.length ≤ 100) (h2 : ∀ p ∈ lm, p.1.cls.length ≤ 100) (h3 : ∀ p ∈ lr, p.1.nets.length ≤ 100 ∧ p.1.lks.length ≤ 100 ∧ p.1.sts.length ≤ 100) :
    CfAt W W.heap.size (.agg #[mv, rv]) ⟨lm.map (·.1), lr.map (·.1)⟩ := by
  refine ⟨mv, rv, rfl, slice_fst (slice_of_own2 mpL (fun _ => rfl) (fun b o p hp _ hc => mpL_at (h.mc p hp) (by have := h2 p hp; omega) hc) (by omega) h.m), slice_fst (slice_of_own2 roL (fun _ => rfl) (fun b o p hp _ hc => roL_at (h.rc p hp) (by have := h3 p hp; omega) hc) (by omega) h.r)⟩
end Go.Proofs.YthelllciciohiaaDoor
