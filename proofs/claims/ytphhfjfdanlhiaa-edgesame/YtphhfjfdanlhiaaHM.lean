/- Configurations as they lie in memory; rows that a call made. No program. -/
import Derived.Test.YtphhfjfdanlhiaaUA
import Derived.Test.YtphhfjfdanlhiaaOW
import Derived.Test.YtphhfjfdanlhiaaChecked
import Derived.Test.YtphhfjfdanlhiaaSL
import Derived.Test.YtphhfjfdanlhiaaSC
import Derived.WalkKit
namespace Go.Proofs.Ytphhfjfdanlhiaa
open Go.RowKit Go.Lib

def PfAt (W : World) (b o : Nat) (p : Nat × Int) : Prop := W.cell? ⟨b, o, none⟩ = some (.int .u32 p.1) ∧ W.cell? ⟨b, o + 1, none⟩ = some (.int .i64 p.2)
def LkAt (W : World) (b o : Nat) (l : LkD) : Prop :=
  W.cell? ⟨b, o, none⟩ = some (.string ⟨l.peer.toArray⟩) ∧ W.cell? ⟨b, o + 1, none⟩ = some (.int .i64 l.cost) ∧ W.cell? ⟨b, o + 2, none⟩ = some (.string ⟨l.imp.toArray⟩) ∧ W.cell? ⟨b, o + 3, none⟩ = some (.string ⟨l.exp.toArray⟩) ∧ W.cell? ⟨b, o + 4, none⟩ = some (.int .i64 l.pl)
def StAt (W : World) (b o : Nat) (s : StD) : Prop :=
  W.cell? ⟨b, o, none⟩ = some (.int .u32 s.a) ∧ W.cell? ⟨b, o + 1, none⟩ = some (.int .i64 s.b) ∧ W.cell? ⟨b, o + 2, none⟩ = some (.string ⟨s.via.toArray⟩) ∧ W.cell? ⟨b, o + 3, none⟩ = some (.int .i64 s.pl)
def MpAt (W : World) (B b o : Nat) (m : MpD) : Prop :=
  ∃ cv, W.cell? ⟨b, o, none⟩ = some (.string ⟨m.name.toArray⟩) ∧ W.cell? ⟨b, o + 1, none⟩ = some cv ∧ W.cell? ⟨b, o + 2, none⟩ = some (.int .i64 m.pl) ∧ SliceAt B 10 (ClAt W) cv m.cls
def RoAt (W : World) (B b o : Nat) (r : RoD) : Prop :=
  ∃ nv lv sv, W.cell? ⟨b, o, none⟩ = some (.string ⟨r.name.toArray⟩) ∧ W.cell? ⟨b, o + 1, none⟩ = some nv ∧ W.cell? ⟨b, o + 2, none⟩ = some lv ∧ W.cell? ⟨b, o + 3, none⟩ = some sv ∧ W.cell? ⟨b, o + 4, none⟩ = some (.int .i64 r.pl) ∧
    SliceAt B 2 (PfAt W) nv r.nets ∧ SliceAt B 5 (LkAt W) lv r.lks ∧ SliceAt B 4 (StAt W) sv r.sts
/-- A configuration as a value, its lists below B. -/
def CfAt (W : World) (B : Nat) (v : Value) (c : CfD) : Prop := ∃ mv rv, v = .agg #[mv, rv] ∧ SliceAt B 3 (MpAt W B) mv c.maps ∧ SliceAt B 5 (RoAt W B) rv c.ros
section
variable {W W' : World} {B B' b o : Nat} {v : Value}
theorem PfAt.keep {p : Nat × Int} (h : PfAt W b o p) (hb : b < B) (k : Cells B W W') : PfAt W' b o p := ⟨k _ _ _ hb h.1, k _ _ _ hb h.2⟩
theorem LkAt.keep {l : LkD} (h : LkAt W b o l) (hb : b < B) (k : Cells B W W') : LkAt W' b o l :=
  ⟨k _ _ _ hb h.1, k _ _ _ hb h.2.1, k _ _ _ hb h.2.2.1, k _ _ _ hb h.2.2.2.1, k _ _ _ hb h.2.2.2.2⟩
theorem StAt.keep {s : StD} (h : StAt W b o s) (hb : b < B) (k : Cells B W W') : StAt W' b o s :=
  ⟨k _ _ _ hb h.1, k _ _ _ hb h.2.1, k _ _ _ hb h.2.2.1, k _ _ _ hb h.2.2.2⟩
theorem MpAt.keep {m : MpD} (h : MpAt W B b o m) (hb : b < B) (hB : B ≤ B') (k : Cells B W W') : MpAt W' B' b o m := by
  obtain ⟨cv, h1, h2, h3, h4⟩ := h
  exact ⟨cv, k _ _ _ hb h1, k _ _ _ hb h2, k _ _ _ hb h3, h4.mono hB fun _ _ _ hb h => h.keep hb k⟩
theorem RoAt.keep {r : RoD} (h : RoAt W B b o r) (hb : b < B) (hB : B ≤ B') (k : Cells B W W') : RoAt W' B' b o r := by
  obtain ⟨nv, lv, sv, h1, h2, h3, h4, h5, h6, h7, h8⟩ := h
  exact ⟨nv, lv, sv, k _ _ _ hb h1, k _ _ _ hb h2, k _ _ _ hb h3, k _ _ _ hb h4, k _ _ _ hb h5, h6.mono hB fun _ _ _ hb h => h.keep hb k, h7.mono hB fun _ _ _ hb h => h.keep hb k, h8.mono hB fun _ _ _ hb h => h.keep hb k⟩
theorem CfAt.keep {c : CfD} (h : CfAt W B v c) (hB : B ≤ B') (k : Cells B W W') : CfAt W' B' v c := by
  obtain ⟨mv, rv, h1, h2, h3⟩ := h
  exact ⟨mv, rv, h1, h2.mono hB fun _ _ _ hb h => h.keep hb hB k, h3.mono hB fun _ _ _ hb h => h.keep hb hB k⟩
end
/-- Blocks of other types than these, and but for these blocks, are as they were. -/
def KeptT (E L : List Nat) (w w' : World) : Prop := w.heap.size ≤ w'.heap.size ∧ ∀ k cs t fr, w.heap[k]? = some (.cells cs t fr) → t ∉ E → k ∉ L → w'.heap[k]? = some (.cells cs t fr)
theorem KeptT.refl (E L : List Nat) (w : World) : KeptT E L w w := ⟨Nat.le_refl _, fun _ _ _ _ h _ _ => h⟩
theorem KeptT.trans {E L : List Nat} {a b c : World} (h : KeptT E L a b) (k : KeptT E L b c) : KeptT E L a c := ⟨Nat.le_trans h.1 k.1, fun i cs t fr hi ht hl => k.2 i cs t fr (h.2 i cs t fr hi ht hl) ht hl⟩
theorem KeptT.below {E L : List Nat} {w w' : World} (q : Below w.heap.size w w') : KeptT E L w w' := ⟨q.size, fun _ _ _ _ h _ _ => pf_block q h⟩
theorem KeptT.grown {E L : List Nat} {w w' : World} {B e z n : Nat} {v : Value} {xs : List Value} (ho : w.ownsRow B e z v n xs) (hg : w.grownBy w' v.ownBlock) (he : e ∈ E) : KeptT E L w w' := by
  refine ⟨hg.size, fun k cs t fr hk ht _ => ?_⟩
  rw [hg.block k (Array.getElem?_eq_some_iff.1 hk).1 ?_]
  · exact hk
  · rcases ho.2 with ⟨h0, _⟩ | ⟨g, cap, cur, h1, _, h3, _⟩
    · rw [h0]; simp [Value.ownBlock]
    · rw [h1]
      simp only [Value.ownBlock, ne_eq, Option.some.injEq]
      intro hkg
      rw [hkg, h3] at hk
      injection hk with hk
      injection hk with _ hk _
      exact ht (hk ▸ he)
theorem KeptT.setCell {E L : List Nat} {w : World} {b i : Nat} (hb : b ∈ L) (x : Value) : KeptT E L w (w.setCell ⟨b, i, none⟩ x) :=
  ⟨by simp [World.setCell], fun k cs t fr hk _ hl => set_off hk (fun h => hl (h ▸ hb)) x⟩
theorem KeptT.own {E L : List Nat} {w w' : World} {B e z n : Nat} {v : Value} {xs : List Value} (h : KeptT E L w w') (ho : w.ownsRow B e z v n xs) (he : e ∉ E) (hl : ∀ g, v.ownBlock = some g → g ∉ L) : w'.ownsRow B e z v n xs := by
  refine ⟨ho.1, ?_⟩
  rcases ho.2 with h0 | ⟨g, cap, cur, h1, h2, h3, h4⟩
  · exact .inl h0
  · exact .inr ⟨g, cap, cur, h1, h2, h.2 g _ _ _ h3 he (hl g (by rw [h1]; rfl)), h4⟩
/-- A row is no block of another type, nor of none. -/
theorem own_off {w : World} {B e z n b t : Nat} {v : Value} {xs : List Value} {cs : Array Value} {fr : Nat × Nat} (ho : w.ownsRow B e z v n xs) (hb : w.heap[b]? = some (.cells cs t fr)) (ht : t ≠ e) : ∀ g, v.ownBlock = some g → g ∉ [b] := by
  intro g hg
  rcases ho.2 with ⟨h0, _⟩ | ⟨g', cap, cur, h1, _, h3, _⟩
  · rw [h0] at hg; simp [Value.ownBlock] at hg
  · rw [h1] at hg
    simp [Value.ownBlock] at hg
    subst hg
    rw [List.mem_singleton]
    intro h
    rw [h, hb] at h3
    injection h3 with h3
    injection h3 with _ h3 _
    exact ht h3
theorem own_le {w : World} {B B' e z n : Nat} {v : Value} {xs : List Value} (h : w.ownsRow B e z v n xs) (hb : B' ≤ B) : w.ownsRow B' e z v n xs :=
  ⟨h.1, h.2.elim Or.inl (fun ⟨g, cap, cur, hv, hg, r⟩ => Or.inr ⟨g, cap, cur, hv, Nat.le_trans hb hg, r⟩)⟩
theorem own_lt {w : World} {B e z n : Nat} {v : Value} {xs : List Value} (h : w.ownsRow B e z v n xs) : ∀ g, v.ownBlock = some g → g < w.heap.size := by
  intro g hg
  rcases h.2 with ⟨h0, _⟩ | ⟨g', cap, cur, h1, _, h3, _⟩
  · rw [h0] at hg; simp [Value.ownBlock] at hg
  · rw [h1] at hg
    simp [Value.ownBlock] at hg
    subst hg
    exact (Array.getElem?_eq_some_iff.1 h3).1
theorem own_one {w : World} {B e z n : Nat} {v : Value} {xs : List Value} (h : w.ownsRow B e z v n xs) : v.oneCell' = true := by
  rcases h.2 with ⟨rfl, _⟩ | ⟨g, cap, cur, rfl, _⟩ <;> rfl
theorem own_form {w : World} {B e z n : Nat} {v : Value} {xs : List Value} (h : w.ownsRow B e z v n xs) : ∃ ad cap, v = .slice ad n cap := by
  rcases h.2 with ⟨rfl, h0⟩ | ⟨g, cap, cur, rfl, _⟩
  · exact ⟨none, 0, by rw [h0]⟩
  · exact ⟨_, _, rfl⟩
abbrev MpV := MpD × Value
abbrev RoV := RoD × Value × Value × Value
def mpL (p : MpV) : List Value := [.string ⟨p.1.name.toArray⟩, p.2, .int .i64 p.1.pl]
def pfL (p : Nat × Int) : List Value := [.int .u32 p.1, .int .i64 p.2]
def lkL (l : LkD) : List Value := [.string ⟨l.peer.toArray⟩, .int .i64 l.cost, .string ⟨l.imp.toArray⟩, .string ⟨l.exp.toArray⟩, .int .i64 l.pl]
def stL (s : StD) : List Value := [.int .u32 s.a, .int .i64 s.b, .string ⟨s.via.toArray⟩, .int .i64 s.pl]
def roL (p : RoV) : List Value := [.string ⟨p.1.name.toArray⟩, p.2.1, p.2.2.1, p.2.2.2, .int .i64 p.1.pl]
def Row1 (W : World) (B : Nat) (p : MpV) : Prop := W.ownsRow B 53 10 p.2 p.1.cls.length (p.1.cls.flatMap clW)
section
variable {W W' : World}
theorem Row1.kept {B : Nat} {p : MpV} {E L : List Nat} (h : Row1 W B p) (k : KeptT E L W W') (he : 53 ∉ E) (hl : ∀ b ∈ L, ∃ cs t fr, W.heap[b]? = some (.cells cs t fr) ∧ t ≠ 53) : Row1 W' B p := by
  refine k.own h he fun g hg hgl => ?_
  obtain ⟨cs, t, fr, h1, h2⟩ := hl g hgl
  exact own_off h h1 h2 g hg (List.mem_singleton.2 rfl)
end
theorem mpL_at {W : World} {B b o : Nat} {p : MpV} (hc : Row1 W B p) (hlen : p.1.cls.length ≤ 9223372036854775807) (h : ∀ j u, (mpL p)[j]? = some u → W.cell? ⟨b, o + j, none⟩ = some u) : MpAt W W.heap.size b o p.1 :=
  ⟨p.2, h 0 _ rfl, h 1 _ rfl, h 2 _ rfl, slice_of_own clW (fun _ => rfl) (fun _ _ _ _ h => clW_at h) hlen hc⟩
theorem pfL_at {W : World} {b o : Nat} {p : Nat × Int} (h : ∀ j u, (pfL p)[j]? = some u → W.cell? ⟨b, o + j, none⟩ = some u) : PfAt W b o p := ⟨h 0 _ rfl, h 1 _ rfl⟩
theorem lkL_at {W : World} {b o : Nat} {p : LkD} (h : ∀ j u, (lkL p)[j]? = some u → W.cell? ⟨b, o + j, none⟩ = some u) : LkAt W b o p := ⟨h 0 _ rfl, h 1 _ rfl, h 2 _ rfl, h 3 _ rfl, h 4 _ rfl⟩
theorem stL_at {W : World} {b o : Nat} {p : StD} (h : ∀ j u, (stL p)[j]? = some u → W.cell? ⟨b, o + j, none⟩ = some u) : StAt W b o p := ⟨h 0 _ rfl, h 1 _ rfl, h 2 _ rfl, h 3 _ rfl⟩
/-- A list with what goes beside it, as the list alone. -/
theorem slice_fst {α β : Type} {B z : Nat} {el : Nat → Nat → α → Prop} {v : Value} {l : List (α × β)} (h : SliceAt B z (fun b o (p : α × β) => el b o p.1) v l) : SliceAt B z el v (l.map (·.1)) := by
  obtain ⟨ad, cap, h1, h2, h3⟩ := h
  refine ⟨ad, cap, by rw [List.length_map]; exact h1, by rw [List.length_map]; exact h2, fun i x hx => ?_⟩
  rw [List.getElem?_map] at hx
  cases hp : l[i]? with
  | none => rw [hp] at hx; cases hx
  | some p =>
    rw [hp] at hx
    obtain rfl := Option.some.inj hx
    exact h3 i p hp
/-- A row whose things are known one by one. -/
theorem slice_of_own2 {α : Type} {W : World} {B e z : Nat} (f : α → List Value) (hz : ∀ x, (f x).length = z) {el : Nat → Nat → α → Prop} {v : Value} {l : List α} (hel : ∀ b o x, x ∈ l → b < W.heap.size → (∀ j u, (f x)[j]? = some u → W.cell? ⟨b, o + j, none⟩ = some u) → el b o x)
    (hl : l.length ≤ 9223372036854775807) (h : W.ownsRow B e z v l.length (l.flatMap f)) : SliceAt W.heap.size z el v l := by
  obtain ⟨ad, cap, h1, h2, h3⟩ := slice_of_own f hz (el := fun b o x => ∀ j u, (f x)[j]? = some u → W.cell? ⟨b, o + j, none⟩ = some u) (fun _ _ _ _ h => h) hl h
  refine ⟨ad, cap, h1, h2, fun i x hx => ?_⟩
  obtain ⟨b, off, e1, e2, e3⟩ := h3 i x hx
  exact ⟨b, off, e1, e2, hel b _ x (List.mem_of_getElem? hx) e2 e3⟩
theorem KeptT.mono {E E' L L' : List Nat} {w w' : World} (h : KeptT E L w w') (hE : ∀ x ∈ E, x ∈ E') (hL : ∀ x ∈ L, x ∈ L') : KeptT E' L' w w' :=
  ⟨h.1, fun k cs t fr hk ht hl => h.2 k cs t fr hk (fun x => ht (hE t x)) (fun x => hl (hL k x))⟩
/-- A row is at no block of another type. -/
theorem own_no {w : World} {B e z n b t : Nat} {v : Value} {xs : List Value} {cs : Array Value} {fr : Nat × Nat} (ho : w.ownsRow B e z v n xs) (hb : w.heap[b]? = some (.cells cs t fr)) (ht : t ≠ e) {L : List Nat} (hL : L = [b]) : ∀ g, v.ownBlock = some g → g ∉ L := by
  subst hL
  exact own_off ho hb ht
theorem infoPf : (Try.prog.info? 50).map (fun i => (i.zero, i.size, i.bytes)) = some (some (.agg #[.int .u32 0, .int .i64 0]), 2, 16) := by kernel_rfl
end Go.Proofs.Ytphhfjfdanlhiaa
