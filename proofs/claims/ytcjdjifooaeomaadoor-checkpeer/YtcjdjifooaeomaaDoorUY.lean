/- A configuration that came in, and how great it is. -/
import Derived.Test.YtcjdjifooaeomaaDoorUW
import Derived.Test.YtcjdjifooaeomaaDoorUQ
import Derived.Test.YtcjdjifooaeomaaDoorRows
namespace Go.Proofs.YtcjdjifooaeomaaDoor
open Go.ChangeShapes Go.WideShapes Go.RowKit Go.Lib

theorem bulk_one {H : Type} (d : DataW H) : 1 ≤ Rows.uptoBulk d := by
  cases d with
  | lit l => cases l <;> simp [Rows.uptoBulk]
  | nil => simp [Rows.uptoBulk]
  | ptr d => simp [Rows.uptoBulk]
  | slice elems spare => simp [Rows.uptoBulk]
  | agg parts => simp [Rows.uptoBulk]
  | iface t d => simp [Rows.uptoBulk]
  | map entries => simp [Rows.uptoBulk]
  | held h => simp [Rows.uptoBulk]
theorem sum_pt {α H β : Type} (g : α → Nat) : ∀ (l : List α) (es : List (DataW H × β)), l.length = es.length → (∀ (i : Nat) (a : α) (y : DataW H × β), l[i]? = some a → es[i]? = some y → g a ≤ Rows.uptoBulk y.1) → (l.map g).sum ≤ Rows.uptoBulkAll (es.map (·.1))
  | [], _, _, _ => Nat.zero_le _
  | a :: l, [], h, _ => by cases h
  | a :: l, y :: es, h, hp => by
    have h1 := hp 0 a y rfl rfl
    have h2 := sum_pt g l es (by simpa using h) fun i a y hi hj => hp (i + 1) a y (by simpa using hi) (by simpa using hj)
    simp only [List.map_cons, List.sum_cons, Rows.uptoBulkAll]
    omega
theorem cells_Str : Tryd.prog.cellsOf 9 = 1 := by kernel_rfl
theorem cells_Mp : Tryd.prog.cellsOf 57 = 3 := by kernel_rfl
theorem cells_Ro : Tryd.prog.cellsOf 48 = 5 := by kernel_rfl
theorem cells_Lk : Tryd.prog.cellsOf 50 = 5 := by kernel_rfl
theorem cells_St : Tryd.prog.cellsOf 77 = 4 := by kernel_rfl
theorem cells_Cf : Tryd.prog.cellsOf 33 = 2 := by kernel_rfl
theorem cells_SCl : Tryd.prog.cellsOf 55 = 1 := by kernel_rfl
theorem cells_SPf : Tryd.prog.cellsOf 44 = 1 := by kernel_rfl
theorem cells_SLk : Tryd.prog.cellsOf 45 = 1 := by kernel_rfl
theorem cells_SSt : Tryd.prog.cellsOf 46 = 1 := by kernel_rfl
theorem cells_SMp : Tryd.prog.cellsOf 30 = 1 := by kernel_rfl
theorem cells_SRo : Tryd.prog.cellsOf 31 = 1 := by kernel_rfl
section
variable {H : Type} {enc : TypeId × Value → H} {w : World} {n : Nat} {cs : List Value} {x : DataW H × List MemPlace}
theorem rd_rowB {α : Type} {t e z : Nat} (ok : α → Prop) (g : α → Nat) (R : List Value → α → Prop) {el : Nat → Nat → α → Prop} (ht : Tryd.prog.underlying t = some (.slice e)) (hz : Tryd.prog.cellsOf e = z) (hz0 : 0 < z)
    (rd : ∀ m cs y, DataW.trod enc Tryd.prog w 0 (fun _ => true) true m e cs = some y → ∃ a, ok a ∧ R cs a ∧ g a ≤ Rows.uptoBulk y.1)
    (hel : ∀ b o cs a, b < w.heap.size → cs.length = z → R cs a → (∀ j u, cs[j]? = some u → w.cell? ⟨b, o + j, none⟩ = some u) → el b o a)
    (h : DataW.trod enc Tryd.prog w 0 (fun _ => true) true n t cs = some x) : ∃ v l, cs = [v] ∧ (∀ a ∈ l, ok a) ∧ SliceAt w.heap.size z el v l ∧ (l.map g).sum < Rows.uptoBulk x.1 := by
  rcases DataW.trod_slice ht h with ⟨rfl, rfl⟩ | ⟨a, len, cap, elems, rest, m, _, rfl, rfl, hb, hl, hm, hlen, hi, _, _⟩
  · exact ⟨_, [], rfl, by simp, slice_nil _ _ _, bulk_one _⟩
  · rw [hz] at hi
    have key : ∀ i, i < len → ∃ cs y, w.cells? 0 (a.add (i * z)) z = some cs ∧ DataW.trod enc Tryd.prog w 0 (fun _ => true) true m e cs = some y ∧ elems[i]? = some y := by
      intro i hlt
      have h1 := hi i hlt
      rw [List.getElem?_eq_getElem (by omega)] at h1
      obtain ⟨c, h2, h3⟩ := Option.bind_eq_some_iff.1 h1
      exact ⟨c, _, h2, h3, List.getElem?_eq_getElem _⟩
    have hsp : 0 < len → a.spot = none := by
      intro h0
      obtain ⟨c, y, h1, _⟩ := key 0 h0
      obtain ⟨_, h2, h3⟩ := World.cells?_some h1
      have h4 := h3 0 hz0
      rw [List.getElem?_eq_getElem (by omega)] at h4
      have := World.cell?_spot h4
      simpa [Addr.add] using this
    obtain ⟨l, hll, hp⟩ := list_of (P := fun i x => ok x ∧ (∃ b off, some a = some ⟨b, off, none⟩ ∧ b < w.heap.size ∧ el b (off + i * z) x) ∧ ∀ y, elems[i]? = some y → g x ≤ Rows.uptoBulk y.1) len fun i hlt => by
      obtain ⟨c, y, h1, h2, he⟩ := key i hlt
      obtain ⟨v, hv, hR, hgv⟩ := rd m c y h2
      obtain ⟨b, off, spot⟩ := a
      obtain rfl : spot = none := hsp (by omega)
      have hbl := World.cells?_block h1 hz0
      obtain ⟨_, h3, h4⟩ := World.cells?_some h1
      rw [WideShapes.add_plain] at hbl h4
      refine ⟨v, hv, ⟨b, off, rfl, hbl, hel b _ c v hbl h3 hR fun j u hj => ?_⟩, fun y' hy' => ?_⟩
      · have hjl := (List.getElem?_eq_some_iff.1 hj).1
        have := h4 j (by omega)
        rw [WideShapes.add_plain, hj] at this
        exact this
      · rw [he] at hy'
        obtain rfl := Option.some.inj hy'
        exact hgv
    refine ⟨_, l, rfl, fun v hv => ?_, ⟨some a, cap, by rw [hll], by unfold maxLen at hm; omega, fun i v hv => (hp i v hv).2.1⟩, ?_⟩
    · obtain ⟨i, hi2⟩ := List.getElem?_of_mem hv
      exact (hp i v hi2).1
    · have := sum_pt g l elems (by omega) fun i a y ha hy => (hp i a ha).2.2 y hy
      simp only [Rows.uptoBulk]
      omega
theorem rd_str {c : Value} {y : DataW H × List MemPlace} (h : DataW.trod enc Tryd.prog w 0 (fun _ => true) true n 9 [c] = some y) : ∃ l : Bs, c = .string ⟨l.toArray⟩ ∧ Rows.uptoBulk y.1 = l.length + 1 := by
  obtain ⟨s, e, rfl, _⟩ := DataW.trod_string Tryd.underlying9 h
  exact ⟨s.data.toList, by simpa using e, by simp [Rows.uptoBulk]⟩
theorem rd_lk (h : DataW.trod enc Tryd.prog w 0 (fun _ => true) true n 50 cs = some x) : ∃ l : LkD, l.ok ∧ cs = lkL l ∧ l.bulk ≤ Rows.uptoBulk x.1 := by
  obtain ⟨xs, m, _, rfl, hl, hlen, hf⟩ := DataW.trod_struct Tryd.underlying50 h
  rw [cells_Lk] at hl
  obtain ⟨c0, c1, c2, c3, c4, rfl⟩ := five_of hl
  obtain ⟨y0, y1, y2, y3, y4, rfl⟩ := five_of hlen
  have h0 := hf 0 _ rfl
  have h1 := hf 1 _ rfl
  have h2 := hf 2 _ rfl
  have h3 := hf 3 _ rfl
  have h4 := hf 4 _ rfl
  simp [cells_Str, cells_I] at h0 h1 h2 h3 h4
  obtain ⟨peer, rfl, b0⟩ := rd_str h0
  obtain ⟨cost, rfl, k0, k1⟩ := rd_i64 h1
  obtain ⟨imp, rfl, b2⟩ := rd_str h2
  obtain ⟨ex, rfl, b3⟩ := rd_str h3
  obtain ⟨pl, rfl, _⟩ := rd_i64 h4
  refine ⟨⟨peer, cost, imp, ex, pl⟩, ⟨k0, k1⟩, rfl, ?_⟩
  simp only [List.map_cons, List.map_nil, Rows.uptoBulk, Rows.uptoBulkAll, b0, b2, b3, LkD.bulk]
  omega
theorem rd_st (h : DataW.trod enc Tryd.prog w 0 (fun _ => true) true n 77 cs = some x) : ∃ l : StD, l.a < 4294967296 ∧ cs = stL l ∧ l.bulk ≤ Rows.uptoBulk x.1 := by
  obtain ⟨xs, m, _, rfl, hl, hlen, hf⟩ := DataW.trod_struct Tryd.underlying77 h
  rw [cells_St] at hl
  obtain ⟨c0, c1, c2, c3, rfl⟩ := four_of hl
  obtain ⟨y0, y1, y2, rfl⟩ := three_of hlen
  have h0 := hf 0 _ rfl
  have h1 := hf 1 _ rfl
  have h2 := hf 2 _ rfl
  simp [cells_Str, cells_I, cells_Pf] at h0 h1 h2
  obtain ⟨a, b, ha, e⟩ := rd_pf h0
  simp only [List.cons.injEq, and_true] at e
  obtain ⟨rfl, rfl⟩ := e
  obtain ⟨via, rfl, b1⟩ := rd_str h1
  obtain ⟨pl, rfl, _⟩ := rd_i64 h2
  refine ⟨⟨a, b, via, pl⟩, ha, rfl, ?_⟩
  simp only [List.map_cons, List.map_nil, Rows.uptoBulk, Rows.uptoBulkAll, b1, StD.bulk]
  omega
theorem rd_cls (h : DataW.trod enc Tryd.prog w 0 (fun _ => true) true n 55 cs = some x) : ∃ v l, cs = [v] ∧ (∀ a ∈ l, ClD.ok a) ∧ SliceAt w.heap.size 10 (ClAt w) v l ∧ l.length < Rows.uptoBulk x.1 := by
  obtain ⟨v, l, h1, h2, h3, h4⟩ := rd_rowB ClD.ok (fun _ => 1) (fun cs a => cs = clL a) (el := ClAt w) Tryd.underlying55 cells_Cl (by omega) (fun m cs y hh => by obtain ⟨c, hc, e⟩ := rd_cl hh; exact ⟨c, hc, e, bulk_one _⟩) (fun b o cs a _ _ hR hc => by
    subst hR
    exact ⟨hc 0 _ rfl, hc 1 _ rfl, hc 2 _ rfl, hc 3 _ rfl, hc 4 _ rfl, hc 5 _ rfl, hc 6 _ rfl, hc 7 _ rfl, hc 8 _ rfl, hc 9 _ rfl⟩) h
  exact ⟨v, l, h1, h2, h3, by rw [sum_one] at h4; exact h4⟩
theorem rd_pfs (h : DataW.trod enc Tryd.prog w 0 (fun _ => true) true n 44 cs = some x) : ∃ v l, cs = [v] ∧ (∀ a ∈ l, a.1 < 4294967296) ∧ SliceAt w.heap.size 2 (PfAt w) v l ∧ l.length < Rows.uptoBulk x.1 := by
  obtain ⟨v, l, h1, h2, h3, h4⟩ := rd_rowB (fun a : Nat × Int => a.1 < 4294967296) (fun _ => 1) (fun cs a => cs = pfL a) (el := PfAt w) Tryd.underlying44 cells_Pf (by omega) (fun m cs y hh => by obtain ⟨a, b, ha, e⟩ := rd_pf hh; exact ⟨(a, b), ha, e, bulk_one _⟩) (fun b o cs a _ _ hR hc => by
    subst hR
    exact ⟨hc 0 _ rfl, hc 1 _ rfl⟩) h
  exact ⟨v, l, h1, h2, h3, by rw [sum_one] at h4; exact h4⟩
theorem rd_lks (h : DataW.trod enc Tryd.prog w 0 (fun _ => true) true n 45 cs = some x) : ∃ v l, cs = [v] ∧ (∀ a ∈ l, LkD.ok a) ∧ SliceAt w.heap.size 5 (LkAt w) v l ∧ (l.map LkD.bulk).sum < Rows.uptoBulk x.1 :=
  rd_rowB LkD.ok LkD.bulk (fun cs a => cs = lkL a) Tryd.underlying45 cells_Lk (by omega) (fun m cs y hh => rd_lk hh) (fun b o cs a _ _ hR hc => by subst hR; exact lkL_at hc) h
theorem rd_sts (h : DataW.trod enc Tryd.prog w 0 (fun _ => true) true n 46 cs = some x) : ∃ v l, cs = [v] ∧ (∀ a ∈ l, a.a < 4294967296) ∧ SliceAt w.heap.size 4 (StAt w) v l ∧ (l.map StD.bulk).sum < Rows.uptoBulk x.1 :=
  rd_rowB (fun a : StD => a.a < 4294967296) StD.bulk (fun cs a => cs = stL a) Tryd.underlying46 cells_St (by omega) (fun m cs y hh => rd_st hh) (fun b o cs a _ _ hR hc => by subst hR; exact stL_at hc) h
def mpR (w : World) (cs : List Value) (m : MpD) : Prop := ∃ cv, cs = [.string ⟨m.name.toArray⟩, cv, .int .i64 m.pl] ∧ SliceAt w.heap.size 10 (ClAt w) cv m.cls
theorem rd_mp (h : DataW.trod enc Tryd.prog w 0 (fun _ => true) true n 57 cs = some x) : ∃ m : MpD, m.ok ∧ mpR w cs m ∧ m.bulk ≤ Rows.uptoBulk x.1 := by
  obtain ⟨xs, m, _, rfl, hl, hlen, hf⟩ := DataW.trod_struct Tryd.underlying57 h
  rw [cells_Mp] at hl
  obtain ⟨c0, c1, c2, rfl⟩ := three_of hl
  obtain ⟨y0, y1, y2, rfl⟩ := three_of hlen
  have h0 := hf 0 _ rfl
  have h1 := hf 1 _ rfl
  have h2 := hf 2 _ rfl
  simp [cells_Str, cells_I, cells_SCl] at h0 h1 h2
  obtain ⟨nm, rfl, b0⟩ := rd_str h0
  obtain ⟨v, l, e, ho, hs, hb⟩ := rd_cls h1
  simp only [List.cons.injEq, and_true] at e
  subst e
  obtain ⟨pl, rfl, _⟩ := rd_i64 h2
  refine ⟨⟨nm, l, pl⟩, ⟨ho⟩, ⟨_, rfl, hs⟩, ?_⟩
  simp only [List.map_cons, List.map_nil, Rows.uptoBulk, Rows.uptoBulkAll, b0, MpD.bulk]
  omega
def roR (w : World) (cs : List Value) (r : RoD) : Prop :=
  ∃ nv lv sv, cs = [.string ⟨r.name.toArray⟩, nv, lv, sv, .int .i64 r.pl] ∧ SliceAt w.heap.size 2 (PfAt w) nv r.nets ∧ SliceAt w.heap.size 5 (LkAt w) lv r.lks ∧ SliceAt w.heap.size 4 (StAt w) sv r.sts
theorem rd_ro (h : DataW.trod enc Tryd.prog w 0 (fun _ => true) true n 48 cs = some x) : ∃ r : RoD, r.ok ∧ roR w cs r ∧ r.bulk ≤ Rows.uptoBulk x.1 := by
  obtain ⟨xs, m, _, rfl, hl, hlen, hf⟩ := DataW.trod_struct Tryd.underlying48 h
  rw [cells_Ro] at hl
  obtain ⟨c0, c1, c2, c3, c4, rfl⟩ := five_of hl
  obtain ⟨y0, y1, y2, y3, y4, rfl⟩ := five_of hlen
  have h0 := hf 0 _ rfl
  have h1 := hf 1 _ rfl
  have h2 := hf 2 _ rfl
  have h3 := hf 3 _ rfl
  have h4 := hf 4 _ rfl
  simp [cells_Str, cells_I, cells_SPf, cells_SLk, cells_SSt] at h0 h1 h2 h3 h4
  obtain ⟨nm, rfl, b0⟩ := rd_str h0
  obtain ⟨v1, l1, e1, o1, s1, b1⟩ := rd_pfs h1
  obtain ⟨v2, l2, e2, o2, s2, b2⟩ := rd_lks h2
  obtain ⟨v3, l3, e3, o3, s3, b3⟩ := rd_sts h3
  simp only [List.cons.injEq, and_true] at e1 e2 e3
  subst e1 e2 e3
  obtain ⟨pl, rfl, _⟩ := rd_i64 h4
  refine ⟨⟨nm, l1, l2, l3, pl⟩, ⟨o1, o2, o3⟩, ⟨_, _, _, rfl, s1, s2, s3⟩, ?_⟩
  simp only [List.map_cons, List.map_nil, Rows.uptoBulk, Rows.uptoBulkAll, b0, RoD.bulk]
  omega
theorem rd_mps (h : DataW.trod enc Tryd.prog w 0 (fun _ => true) true n 30 cs = some x) : ∃ v l, cs = [v] ∧ (∀ a ∈ l, MpD.ok a) ∧ SliceAt w.heap.size 3 (MpAt w w.heap.size) v l ∧ (l.map MpD.bulk).sum < Rows.uptoBulk x.1 :=
  rd_rowB MpD.ok MpD.bulk (mpR w) Tryd.underlying30 cells_Mp (by omega) (fun m cs y hh => rd_mp hh) (fun b o cs a _ _ hR hc => by
    obtain ⟨cv, rfl, hs⟩ := hR
    exact ⟨cv, hc 0 _ rfl, hc 1 _ rfl, hc 2 _ rfl, hs⟩) h
theorem rd_ros (h : DataW.trod enc Tryd.prog w 0 (fun _ => true) true n 31 cs = some x) : ∃ v l, cs = [v] ∧ (∀ a ∈ l, RoD.ok a) ∧ SliceAt w.heap.size 5 (RoAt w w.heap.size) v l ∧ (l.map RoD.bulk).sum < Rows.uptoBulk x.1 :=
  rd_rowB RoD.ok RoD.bulk (roR w) Tryd.underlying31 cells_Ro (by omega) (fun m cs y hh => rd_ro hh) (fun b o cs a _ _ hR hc => by
    obtain ⟨nv, lv, sv, rfl, h1, h2, h3⟩ := hR
    exact ⟨nv, lv, sv, hc 0 _ rfl, hc 1 _ rfl, hc 2 _ rfl, hc 3 _ rfl, hc 4 _ rfl, h1, h2, h3⟩) h
set_option maxRecDepth 100000 in
/-- A configuration. -/
theorem open_cf {b0 : Nat} {r : Reach} {v : Value} {d : DataW H} {p : List MemPlace} (hv : Value.okWide Tryd.prog w r b0 33 v) (h : DataW.Trod enc Tryd.prog w 0 (fun _ => true) true 33 v d p) :
    ∃ c : CfD, c.ok ∧ CfAt w w.heap.size v c ∧ c.bulk ≤ Rows.uptoBulk d := by
  obtain ⟨vs, rfl, _⟩ := okWide_struct Tryd.underlying33 hv
  obtain ⟨m, hm⟩ := h
  obtain ⟨xs, m', _, hx, hl, hlen, hf⟩ := DataW.trod_struct Tryd.underlying33 hm
  rw [cells_Cf] at hl
  simp only [Value.cells] at hl hf
  obtain ⟨c0, c1, hcs⟩ := two_of hl
  rw [hcs] at hf
  obtain ⟨y0, y1, rfl⟩ := two_of hlen
  have h0 := hf 0 _ rfl
  have h1 := hf 1 _ rfl
  simp [cells_SMp, cells_SRo] at h0 h1
  obtain ⟨v1, l1, e1, o1, s1, b1⟩ := rd_mps h0
  obtain ⟨v2, l2, e2, o2, s2, b2⟩ := rd_ros h1
  simp only [List.cons.injEq, and_true] at e1 e2
  subst e1 e2
  injection hx with hx _
  subst hx
  refine ⟨⟨l1, l2⟩, ⟨o1, o2⟩, ⟨c0, c1, ?_, s1, s2⟩, ?_⟩
  · rw [show vs = #[c0, c1] by apply Array.toList_inj.1; exact hcs]
  · simp only [List.map_cons, List.map_nil, Rows.uptoBulk, Rows.uptoBulkAll, CfD.bulk]
    omega
end
end Go.Proofs.YtcjdjifooaeomaaDoor
