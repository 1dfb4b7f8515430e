/- A configuration, a router that came in: its names may be keys, its rows have room. -/
import Derived.Test.YtcjdjifooaeomaaDoorUY
import Derived.Test.YtcjdjifooaeomaaDoorDI
namespace Go.Proofs.YtcjdjifooaeomaaDoor
open Go.ChangeShapes Go.WideShapes Go.RowKit Go.Lib

theorem slice_len {α : Type} {B z : Nat} {el : Nat → Nat → α → Prop} {ad : Option Addr} {n cap : Nat} {l : List α} (h : SliceAt B z el (.slice ad n cap) l) : n = l.length := by
  obtain ⟨_, _, e, _⟩ := h
  injection e
section
variable {H : Type} {enc : TypeId × Value → H} {w : World} {n : Nat} {cs : List Value} {x : DataW H × List MemPlace}
theorem rd_rowC {α : Type} {t e z : Nat} (ok : α → Prop) (R : List Value → α → Prop) {el : Nat → Nat → α → Prop} (ht : Tryd.prog.underlying t = some (.slice e)) (hz : Tryd.prog.cellsOf e = z) (hz0 : 0 < z)
    (rd : ∀ m cs y, DataW.trod enc Tryd.prog w 0 (fun _ => true) true m e cs = some y → ∃ a, ok a ∧ R cs a)
    (hel : ∀ b o cs a, b < w.heap.size → cs.length = z → R cs a → (∀ j u, cs[j]? = some u → w.cell? ⟨b, o + j, none⟩ = some u) → el b o a)
    (h : DataW.trod enc Tryd.prog w 0 (fun _ => true) true n t cs = some x) : ∃ v l, cs = [v] ∧ (∀ a ∈ l, ok a) ∧ SliceAt w.heap.size z el v l ∧ CapV v l.length := by
  obtain ⟨v, l, h1, h2, h3⟩ := rd_row ok R ht hz hz0 rd hel h
  refine ⟨v, l, h1, h2, h3, ?_⟩
  rcases DataW.trod_slice ht h with ⟨rfl, _⟩ | ⟨a, len, cap, elems, rest, m, _, rfl, _, _, hl, _⟩
  · injection h1 with h1 _
    subst h1
    rw [← slice_len h3]
    exact ⟨none, 0, rfl, Nat.le_refl _⟩
  · injection h1 with h1 _
    subst h1
    rw [← slice_len h3]
    exact ⟨_, cap, rfl, hl⟩
theorem rd_str2 {c : Value} {y : DataW H × List MemPlace} (h : DataW.trod enc Tryd.prog w 0 (fun _ => true) true n 9 [c] = some y) : ∃ l : Bs, c = .string ⟨l.toArray⟩ ∧ NmOk l := by
  obtain ⟨s, e, rfl, hs⟩ := DataW.trod_string Tryd.underlying9 h
  refine ⟨s.data.toList, by simpa using e, ?_⟩
  unfold maxLen at hs
  unfold NmOk
  have : s.data.toList.length = s.size := by rw [Array.length_toList]; rfl
  omega
theorem rd_pf2 (h : DataW.trod enc Tryd.prog w 0 (fun _ => true) true n 74 cs = some x) : ∃ p : Nat × Int, PfOk p ∧ cs = pfL p := by
  obtain ⟨xs, m, _, _, hl, hlen, hf⟩ := DataW.trod_struct Tryd.underlying74 h
  rw [cells_Pf] at hl
  obtain ⟨c0, c1, rfl⟩ := two_of hl
  obtain ⟨y0, y1, rfl⟩ := two_of hlen
  have h0 := hf 0 _ rfl
  have h1 := hf 1 _ rfl
  simp [cells_U32, cells_I] at h0 h1
  obtain ⟨a, rfl, ha⟩ := rd_u32 h0
  obtain ⟨b, rfl, hb⟩ := rd_i64 h1
  exact ⟨(a, b), ⟨ha, hb⟩, rfl⟩
theorem rd_lk2 (h : DataW.trod enc Tryd.prog w 0 (fun _ => true) true n 50 cs = some x) : ∃ l : LkD, l.fit ∧ cs = lkL l := by
  obtain ⟨xs, m, _, rfl, hl, hlen, hf⟩ := DataW.trod_struct Tryd.underlying50 h
  rw [cells_Lk] at hl
  obtain ⟨c0, c1, c2, c3, c4, rfl⟩ := five_of hl
  obtain ⟨y0, y1, y2, y3, y4, rfl⟩ := five_of hlen
  have h0 := hf 0 _ rfl
  have h1 := hf 1 _ rfl
  have h2 := hf 2 _ rfl
  have h3 := hf 3 _ rfl
  have h4 := hf 4 _ rfl
  simp [cells_Str, cells_I] at h0 h1 h2 h3 h4
  obtain ⟨peer, rfl, b0⟩ := rd_str2 h0
  obtain ⟨cost, rfl, _⟩ := rd_i64 h1
  obtain ⟨imp, rfl, b2⟩ := rd_str2 h2
  obtain ⟨ex, rfl, b3⟩ := rd_str2 h3
  obtain ⟨pl, rfl, _⟩ := rd_i64 h4
  exact ⟨⟨peer, cost, imp, ex, pl⟩, ⟨b0, b2, b3⟩, rfl⟩
theorem rd_st2 (h : DataW.trod enc Tryd.prog w 0 (fun _ => true) true n 77 cs = some x) : ∃ l : StD, l.fit ∧ cs = stL l := by
  obtain ⟨xs, m, _, rfl, hl, hlen, hf⟩ := DataW.trod_struct Tryd.underlying77 h
  rw [cells_St] at hl
  obtain ⟨c0, c1, c2, c3, rfl⟩ := four_of hl
  obtain ⟨y0, y1, y2, rfl⟩ := three_of hlen
  have h0 := hf 0 _ rfl
  have h1 := hf 1 _ rfl
  have h2 := hf 2 _ rfl
  simp [cells_Str, cells_I, cells_Pf] at h0 h1 h2
  obtain ⟨⟨a, b⟩, ha, e⟩ := rd_pf2 h0
  simp only [pfL, List.cons.injEq, and_true] at e
  obtain ⟨rfl, rfl⟩ := e
  obtain ⟨via, rfl, b1⟩ := rd_str2 h1
  obtain ⟨pl, rfl, _⟩ := rd_i64 h2
  exact ⟨⟨a, b, via, pl⟩, ⟨ha, b1⟩, rfl⟩
theorem rd_mp2 (h : DataW.trod enc Tryd.prog w 0 (fun _ => true) true n 57 cs = some x) : ∃ m : MpD, NmOk m.name ∧ mpR w cs m := by
  obtain ⟨xs, m, _, rfl, hl, hlen, hf⟩ := DataW.trod_struct Tryd.underlying57 h
  rw [cells_Mp] at hl
  obtain ⟨c0, c1, c2, rfl⟩ := three_of hl
  obtain ⟨y0, y1, y2, rfl⟩ := three_of hlen
  have h0 := hf 0 _ rfl
  have h1 := hf 1 _ rfl
  have h2 := hf 2 _ rfl
  simp [cells_Str, cells_I, cells_SCl] at h0 h1 h2
  obtain ⟨nm, rfl, b0⟩ := rd_str2 h0
  obtain ⟨v, l, e, ho, hs, hb⟩ := rd_cls h1
  simp only [List.cons.injEq, and_true] at e
  subst e
  obtain ⟨pl, rfl, _⟩ := rd_i64 h2
  exact ⟨⟨nm, l, pl⟩, b0, _, rfl, hs⟩
theorem rd_pfs2 (h : DataW.trod enc Tryd.prog w 0 (fun _ => true) true n 44 cs = some x) : ∃ v l, cs = [v] ∧ (∀ a ∈ l, PfOk a) ∧ SliceAt w.heap.size 2 (PfAt w) v l ∧ CapV v l.length :=
  rd_rowC PfOk (fun cs a => cs = pfL a) Tryd.underlying44 cells_Pf (by omega) (fun m cs y hh => rd_pf2 hh) (fun b o cs a _ _ hR hc => by subst hR; exact pfL_at hc) h
theorem rd_lks2 (h : DataW.trod enc Tryd.prog w 0 (fun _ => true) true n 45 cs = some x) : ∃ v l, cs = [v] ∧ (∀ a ∈ l, LkD.fit a) ∧ SliceAt w.heap.size 5 (LkAt w) v l ∧ CapV v l.length :=
  rd_rowC LkD.fit (fun cs a => cs = lkL a) Tryd.underlying45 cells_Lk (by omega) (fun m cs y hh => rd_lk2 hh) (fun b o cs a _ _ hR hc => by subst hR; exact lkL_at hc) h
theorem rd_sts2 (h : DataW.trod enc Tryd.prog w 0 (fun _ => true) true n 46 cs = some x) : ∃ v l, cs = [v] ∧ (∀ a ∈ l, StD.fit a) ∧ SliceAt w.heap.size 4 (StAt w) v l ∧ CapV v l.length :=
  rd_rowC StD.fit (fun cs a => cs = stL a) Tryd.underlying46 cells_St (by omega) (fun m cs y hh => rd_st2 hh) (fun b o cs a _ _ hR hc => by subst hR; exact stL_at hc) h
def roRC (w : World) (cs : List Value) (r : RoD) : Prop :=
  ∃ nv lv sv, cs = [.string ⟨r.name.toArray⟩, nv, lv, sv, .int .i64 r.pl] ∧ SliceAt w.heap.size 2 (PfAt w) nv r.nets ∧ SliceAt w.heap.size 5 (LkAt w) lv r.lks ∧ SliceAt w.heap.size 4 (StAt w) sv r.sts ∧ CapV nv r.nets.length ∧ CapV lv r.lks.length ∧ CapV sv r.sts.length
theorem rd_ro2 (h : DataW.trod enc Tryd.prog w 0 (fun _ => true) true n 48 cs = some x) : ∃ r : RoD, r.fit ∧ roRC w cs r := by
  obtain ⟨xs, m, _, rfl, hl, hlen, hf⟩ := DataW.trod_struct Tryd.underlying48 h
  rw [cells_Ro] at hl
  obtain ⟨c0, c1, c2, c3, c4, rfl⟩ := five_of hl
  obtain ⟨y0, y1, y2, y3, y4, rfl⟩ := five_of hlen
  have h0 := hf 0 _ rfl
  have h1 := hf 1 _ rfl
  have h2 := hf 2 _ rfl
  have h3 := hf 3 _ rfl
  have h4 := hf 4 _ rfl
  simp [cells_Str, cells_I, cells_SPf, cells_SLk, cells_SSt] at h0 h1 h2 h3 h4
  obtain ⟨nm, rfl, b0⟩ := rd_str2 h0
  obtain ⟨v1, l1, e1, o1, s1, k1⟩ := rd_pfs2 h1
  obtain ⟨v2, l2, e2, o2, s2, k2⟩ := rd_lks2 h2
  obtain ⟨v3, l3, e3, o3, s3, k3⟩ := rd_sts2 h3
  simp only [List.cons.injEq, and_true] at e1 e2 e3
  subst e1 e2 e3
  obtain ⟨pl, rfl, _⟩ := rd_i64 h4
  exact ⟨⟨nm, l1, l2, l3, pl⟩, ⟨b0, o1, o2, o3⟩, _, _, _, rfl, s1, s2, s3, k1, k2, k3⟩
theorem rd_mps2 (h : DataW.trod enc Tryd.prog w 0 (fun _ => true) true n 30 cs = some x) : ∃ v l, cs = [v] ∧ (∀ a ∈ l, NmOk (MpD.name a)) ∧ SliceAt w.heap.size 3 (MpAt w w.heap.size) v l ∧ CapV v l.length :=
  rd_rowC (fun a => NmOk (MpD.name a)) (mpR w) Tryd.underlying30 cells_Mp (by omega) (fun m cs y hh => rd_mp2 hh) (fun b o cs a _ _ hR hc => by
    obtain ⟨cv, rfl, hs⟩ := hR
    exact ⟨cv, hc 0 _ rfl, hc 1 _ rfl, hc 2 _ rfl, hs⟩) h
theorem rd_ros2 (h : DataW.trod enc Tryd.prog w 0 (fun _ => true) true n 31 cs = some x) : ∃ v l, cs = [v] ∧ (∀ a ∈ l, RoD.fit a) ∧ SliceAt w.heap.size 5 (RoC w w.heap.size) v l ∧ CapV v l.length :=
  rd_rowC RoD.fit (roRC w) Tryd.underlying31 cells_Ro (by omega) (fun m cs y hh => rd_ro2 hh) (fun b o cs a _ _ hR hc => by
    obtain ⟨nv, lv, sv, rfl, h1, h2, h3, h4⟩ := hR
    exact ⟨nv, lv, sv, hc 0 _ rfl, hc 1 _ rfl, hc 2 _ rfl, hc 3 _ rfl, hc 4 _ rfl, h1, h2, h3, h4⟩) h
set_option maxRecDepth 100000 in
/-- A configuration. -/
theorem open_cc {b0 : Nat} {r : Reach} {v : Value} {d : DataW H} {p : List MemPlace} (hv : Value.okWide Tryd.prog w r b0 33 v) (h : DataW.Trod enc Tryd.prog w 0 (fun _ => true) true 33 v d p) :
    ∃ c : CfD, c.fit ∧ CfC w w.heap.size v c := by
  obtain ⟨vs, rfl, _⟩ := okWide_struct Tryd.underlying33 hv
  obtain ⟨m, hm⟩ := h
  obtain ⟨xs, m', _, hx, hl, hlen, hf⟩ := DataW.trod_struct Tryd.underlying33 hm
  rw [cells_Cf] at hl
  simp only [Value.cells] at hl hf
  obtain ⟨c0, c1, hcs⟩ := two_of hl
  rw [hcs] at hf
  obtain ⟨y0, y1, rfl⟩ := two_of hlen
  have h0 := hf 0 _ rfl
  have h1 := hf 1 _ rfl
  simp [cells_SMp, cells_SRo] at h0 h1
  obtain ⟨v1, l1, e1, o1, s1, k1⟩ := rd_mps2 h0
  obtain ⟨v2, l2, e2, o2, s2, k2⟩ := rd_ros2 h1
  simp only [List.cons.injEq, and_true] at e1 e2
  subst e1 e2
  refine ⟨⟨l1, l2⟩, ⟨o1, o2⟩, c0, c1, ?_, s1, s2, k1, k2⟩
  rw [show vs = #[c0, c1] by apply Array.toList_inj.1; exact hcs]
set_option maxRecDepth 100000 in
/-- A router. -/
theorem open_ro {b0 : Nat} {r : Reach} {v : Value} {d : DataW H} {p : List MemPlace} (hv : Value.okWide Tryd.prog w r b0 48 v) (h : DataW.Trod enc Tryd.prog w 0 (fun _ => true) true 48 v d p) :
    ∃ c : RoD, c.fit ∧ RoVal w w.heap.size v c := by
  obtain ⟨vs, rfl, _⟩ := okWide_struct Tryd.underlying48 hv
  obtain ⟨m, hm⟩ := h
  obtain ⟨c, hc, nv, lv, sv, e, s1, s2, s3, _⟩ := rd_ro2 hm
  refine ⟨c, hc, nv, lv, sv, ?_, s1, s2, s3⟩
  have e' : vs.toList = [.string ⟨c.name.toArray⟩, nv, lv, sv, .int .i64 c.pl] := by simpa [Value.cells] using e
  rw [show vs = #[.string ⟨c.name.toArray⟩, nv, lv, sv, .int .i64 c.pl] by apply Array.toList_inj.1; exact e']
end
end Go.Proofs.YtcjdjifooaeomaaDoor
