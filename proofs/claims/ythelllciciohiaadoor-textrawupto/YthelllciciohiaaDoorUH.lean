/- Configurations as they lie in memory. -/
import Derived.Test.YthelllciciohiaaDoorUE
import Derived.Test.YthelllciciohiaaDoorUB
namespace Go.Proofs.YthelllciciohiaaDoor
open Go.RowKit Go.Lib

/-- A list that lies as a slice, below B, each thing of z cells. -/
def SliceAt {α : Type} (B z : Nat) (el : Nat → Nat → α → Prop) (v : Value) (l : List α) : Prop :=
  ∃ ad cap, v = .slice ad l.length cap ∧ l.length ≤ 9223372036854775807 ∧ ∀ i x, l[i]? = some x → ∃ b off, ad = some ⟨b, off, none⟩ ∧ b < B ∧ el b (off + i * z) x
def ClAt (W : World) (b o : Nat) (c : ClD) : Prop :=
  W.cell? ⟨b, o, none⟩ = some (.bool c.any) ∧ W.cell? ⟨b, o + 1, none⟩ = some (.int .u32 c.a) ∧ W.cell? ⟨b, o + 2, none⟩ = some (.int .i64 c.b) ∧ W.cell? ⟨b, o + 3, none⟩ = some (.int .u8 c.wi) ∧ W.cell? ⟨b, o + 4, none⟩ = some (.int .u8 c.ou) ∧
  W.cell? ⟨b, o + 5, none⟩ = some (.bool c.drop) ∧ W.cell? ⟨b, o + 6, none⟩ = some (.int .u8 c.se) ∧ W.cell? ⟨b, o + 7, none⟩ = some (.int .u8 c.cl) ∧ W.cell? ⟨b, o + 8, none⟩ = some (.int .i64 c.more) ∧ W.cell? ⟨b, o + 9, none⟩ = some (.int .i64 c.pref)
def PfAt (W : World) (b o : Nat) (p : Nat × Int) : Prop := W.cell? ⟨b, o, none⟩ = some (.int .u32 p.1) ∧ W.cell? ⟨b, o + 1, none⟩ = some (.int .i64 p.2)
def LkAt (W : World) (b o : Nat) (l : LkD) : Prop :=
  W.cell? ⟨b, o, none⟩ = some (.string ⟨l.peer.toArray⟩) ∧ W.cell? ⟨b, o + 1, none⟩ = some (.int .i64 l.cost) ∧ W.cell? ⟨b, o + 2, none⟩ = some (.string ⟨l.imp.toArray⟩) ∧ W.cell? ⟨b, o + 3, none⟩ = some (.string ⟨l.exp.toArray⟩) ∧ W.cell? ⟨b, o + 4, none⟩ = some (.int .i64 l.pl)
def StAt (W : World) (b o : Nat) (s : StD) : Prop :=
  W.cell? ⟨b, o, none⟩ = some (.int .u32 s.a) ∧ W.cell? ⟨b, o + 1, none⟩ = some (.int .i64 s.b) ∧ W.cell? ⟨b, o + 2, none⟩ = some (.string ⟨s.via.toArray⟩) ∧ W.cell? ⟨b, o + 3, none⟩ = some (.int .i64 s.pl)
def MpAt (W : World) (B b o : Nat) (m : MpD) : Prop :=
  ∃ cv, W.cell? ⟨b, o, none⟩ = some (.string ⟨m.name.toArray⟩) ∧ W.cell? ⟨b, o + 1, none⟩ = some cv ∧ W.cell? ⟨b, o + 2, none⟩ = some (.int .i64 m.pl) ∧ SliceAt B 10 (ClAt W) cv m.cls
def RoAt (W : World) (B b o : Nat) (r : RoD) : Prop :=
  ∃ nv lv sv, W.cell? ⟨b, o, none⟩ = some (.string ⟨r.name.toArray⟩) ∧ W.cell? ⟨b, o + 1, none⟩ = some nv ∧ W.cell? ⟨b, o + 2, none⟩ = some lv ∧ W.cell? ⟨b, o + 3, none⟩ = some sv ∧ W.cell? ⟨b, o + 4, none⟩ = some (.int .i64 r.pl) ∧
    SliceAt B 2 (PfAt W) nv r.nets ∧ SliceAt B 5 (LkAt W) lv r.lks ∧ SliceAt B 4 (StAt W) sv r.sts
/-- A configuration as a value, its lists below B. -/
def CfAt (W : World) (B : Nat) (v : Value) (c : CfD) : Prop := ∃ mv rv, v = .agg #[mv, rv] ∧ SliceAt B 3 (MpAt W B) mv c.maps ∧ SliceAt B 5 (RoAt W B) rv c.ros
theorem SliceAt.mono {α : Type} {B B' z : Nat} {el el' : Nat → Nat → α → Prop} {v : Value} {l : List α} (hB : B ≤ B') (h : SliceAt B z el v l) (he : ∀ b o x, b < B → el b o x → el' b o x) : SliceAt B' z el' v l := by
  obtain ⟨ad, cap, h1, h2, h3⟩ := h
  refine ⟨ad, cap, h1, h2, fun i x hx => ?_⟩
  obtain ⟨b, off, e1, e2, e3⟩ := h3 i x hx
  exact ⟨b, off, e1, Nat.lt_of_lt_of_le e2 hB, he b _ x e2 e3⟩
/-- Cells below B are as they were. -/
def Cells (B : Nat) (W W' : World) : Prop := ∀ b i v, b < B → W.cell? ⟨b, i, none⟩ = some v → W'.cell? ⟨b, i, none⟩ = some v
theorem cells_below {B B' : Nat} {W W' : World} (h : Below B' W W') (hB : B ≤ B') : Cells B W W' := fun b i v hb hv => by
  rw [h.cell (p := ⟨b, i, none⟩) (Nat.lt_of_lt_of_le hb hB)]
  exact hv
section
variable {W W' : World} {B B' b o : Nat} {v : Value}
theorem ClAt.keep {c : ClD} (h : ClAt W b o c) (hb : b < B) (k : Cells B W W') : ClAt W' b o c :=
  ⟨k _ _ _ hb h.1, k _ _ _ hb h.2.1, k _ _ _ hb h.2.2.1, k _ _ _ hb h.2.2.2.1, k _ _ _ hb h.2.2.2.2.1, k _ _ _ hb h.2.2.2.2.2.1, k _ _ _ hb h.2.2.2.2.2.2.1, k _ _ _ hb h.2.2.2.2.2.2.2.1, k _ _ _ hb h.2.2.2.2.2.2.2.2.1, k _ _ _ hb h.2.2.2.2.2.2.2.2.2⟩
theorem PfAt.keep {p : Nat × Int} (h : PfAt W b o p) (hb : b < B) (k : Cells B W W') : PfAt W' b o p := ⟨k _ _ _ hb h.1, k _ _ _ hb h.2⟩
theorem LkAt.keep {l : LkD} (h : LkAt W b o l) (hb : b < B) (k : Cells B W W') : LkAt W' b o l :=
  ⟨k _ _ _ hb h.1, k _ _ _ hb h.2.1, k _ _ _ hb h.2.2.1, k _ _ _ hb h.2.2.2.1, k _ _ _ hb h.2.2.2.2⟩
theorem StAt.keep {s : StD} (h : StAt W b o s) (hb : b < B) (k : Cells B W W') : StAt W' b o s :=
  ⟨k _ _ _ hb h.1, k _ _ _ hb h.2.1, k _ _ _ hb h.2.2.1, k _ _ _ hb h.2.2.2⟩
theorem MpAt.keep {m : MpD} (h : MpAt W B b o m) (hb : b < B) (hB : B ≤ B') (k : Cells B W W') : MpAt W' B' b o m := by
  obtain ⟨cv, h1, h2, h3, h4⟩ := h
  exact ⟨cv, k _ _ _ hb h1, k _ _ _ hb h2, k _ _ _ hb h3, h4.mono hB fun _ _ _ hb h => h.keep hb k⟩
theorem RoAt.keep {r : RoD} (h : RoAt W B b o r) (hb : b < B) (hB : B ≤ B') (k : Cells B W W') : RoAt W' B' b o r := by
  obtain ⟨nv, lv, sv, h1, h2, h3, h4, h5, h6, h7, h8⟩ := h
  exact ⟨nv, lv, sv, k _ _ _ hb h1, k _ _ _ hb h2, k _ _ _ hb h3, k _ _ _ hb h4, k _ _ _ hb h5, h6.mono hB fun _ _ _ hb h => h.keep hb k, h7.mono hB fun _ _ _ hb h => h.keep hb k, h8.mono hB fun _ _ _ hb h => h.keep hb k⟩
theorem CfAt.keep {c : CfD} (h : CfAt W B v c) (hB : B ≤ B') (k : Cells B W W') : CfAt W' B' v c := by
  obtain ⟨mv, rv, h1, h2, h3⟩ := h
  exact ⟨mv, rv, h1, h2.mono hB fun _ _ _ hb h => h.keep hb hB k, h3.mono hB fun _ _ _ hb h => h.keep hb hB k⟩
end
/-- A builder at b2, what was written, and all else as it was. -/
structure Wr (b2 : Nat) (U : World) (l : Bs) (w : World) : Prop where
  bd : BdAt b2 b2 l w
  bel : Below b2 U w
  oth : Lib.OthersKept 5 (some b2) U w
theorem BdAt.below {B b : Nat} {l : Bs} {w w' : World} (h : BdAt B b l w) (q : Below w.heap.size w w') : BdAt B b l w' := by
  have key : ∀ p, Lib.BuilderAt 72 5 B b p (Lib.byteCells l) w → Lib.BuilderAt 72 5 B b p (Lib.byteCells l) w' := by
    rintro p ⟨h1, v, h2, h3, h4⟩
    refine ⟨h1, v, pf_block q h2, ⟨h3.1, ?_⟩, h4⟩
    rcases h3.2 with h0 | ⟨g, cap, cur, e1, e2, e3, e4⟩
    · exact .inl h0
    · exact .inr ⟨g, cap, cur, e1, e2, pf_block q e3, e4⟩
  rcases h with h | h
  · exact .inl (key _ h)
  · exact .inr (key _ h)
theorem oth_below {e : TypeId} {b : Option Nat} {w w' : World} (q : Below w.heap.size w w') : Lib.OthersKept e b w w' := fun _ _ h _ _ => pf_block q h
theorem Wr.below {b2 : Nat} {U : World} {l : Bs} {w w' : World} (h : Wr b2 U l w) (q : Below w.heap.size w w') (hb : b2 ≤ w.heap.size) : Wr b2 U l w' :=
  ⟨h.bd.below q, h.bel.trans (q.mono hb), h.oth.trans (oth_below q)⟩
theorem Wr.lt {b2 : Nat} {U : World} {l : Bs} {w : World} (h : Wr b2 U l w) : b2 ≤ w.heap.size := by
  rcases h.bd with h | h
  · exact Nat.le_of_lt h.lt
  · exact Nat.le_of_lt h.lt
theorem Wr.write {b2 : Nat} {U : World} {l : Bs} {w : World} (h : Wr b2 U l w) (m : Bs) (hlen : l.length + m.length ≤ 140737488355328) :
    Calls Tryd.prog 29 #[.pointer (some ⟨b2, 0, none⟩), .string ⟨m.toArray⟩] w fun e w' => e = .returned (.tuple #[.int .i64 m.length, .nilIface]) ∧ Wr b2 U (l ++ m) w' ∧ Lib.OthersKept 5 (some b2) w w' := by
  refine (write_text b2 b2 l m w h.bd hlen h.lt).mono ?_
  rintro e w' ⟨rfl, h1, h2, h3⟩
  exact ⟨rfl, ⟨h1, h.bel.trans h2, h.oth.trans h3⟩, h3⟩
/-- Another block than the builder's, of another type than bytes. -/
theorem oth_block {b2 b t : Nat} {w w' : World} {cs : Array Value} (h : Lib.OthersKept 5 (some b2) w w') (hb : w.heap[b]? = some (.cells cs t (0, 0))) (hne : b ≠ b2) (ht : t ≠ 5) : w'.heap[b]? = some (.cells cs t (0, 0)) :=
  h b _ hb (by simpa using hne) (by intro c fz e; injection e with _ e2 _; exact ht e2)
theorem wr_new (w : World) : Wr w.heap.size (w.alloc (.cells #[.pointer none, .slice none 0 0] 72)) [] (w.alloc (.cells #[.pointer none, .slice none 0 0] 72)) :=
  ⟨Lib.fresh_isBuilder 72 5 w, Below.refl _ _, Lib.OthersKept.refl _ _ _⟩
end Go.Proofs.YthelllciciohiaaDoor
