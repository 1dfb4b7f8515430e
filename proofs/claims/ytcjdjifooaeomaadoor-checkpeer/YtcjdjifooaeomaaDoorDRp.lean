/- A router that came in, whose links' names are no longer than what memory holds. -/
import Derived.Test.YtcjdjifooaeomaaDoorUY
import Derived.Test.YtcjdjifooaeomaaDoorDG
import Derived.SizedLaws
namespace Go.Proofs.YtcjdjifooaeomaaDoor
open Go.ChangeShapes Go.WideShapes Go.RowKit Go.Lib

/-- A row's room is no less than its length. -/
def CapV (v : Value) (n : Nat) : Prop := ∃ ad cap, v = .slice ad n cap ∧ n ≤ cap
theorem slice_len {α : Type} {B z : Nat} {el : Nat → Nat → α → Prop} {ad : Option Addr} {n cap : Nat} {l : List α} (h : SliceAt B z el (.slice ad n cap) l) : n = l.length := by
  obtain ⟨_, _, e, _⟩ := h
  injection e
section
variable {H : Type} {enc : TypeId × Value → H} {w : World} {n : Nat} {cs : List Value} {x : DataW H × List MemPlace}
theorem rd_rowC {α : Type} {t e z : Nat} (ok : α → Prop) (R : List Value → α → Prop) {el : Nat → Nat → α → Prop} (ht : Tryd.prog.underlying t = some (.slice e)) (hz : Tryd.prog.cellsOf e = z) (hz0 : 0 < z)
    (rd : ∀ m cs y, DataW.trod enc Tryd.prog w 0 (fun _ => true) true m e cs = some y → ∃ a, ok a ∧ R cs a)
    (hel : ∀ b o cs a, b < w.heap.size → cs.length = z → R cs a → (∀ j u, cs[j]? = some u → w.cell? ⟨b, o + j, none⟩ = some u) → el b o a)
    (h : DataW.trod enc Tryd.prog w 0 (fun _ => true) true n t cs = some x) : ∃ v l, cs = [v] ∧ (∀ a ∈ l, ok a) ∧ SliceAt w.heap.size z el v l ∧ CapV v l.length := by
  obtain ⟨v, l, h1, h2, h3⟩ := rd_row ok R ht hz hz0 rd hel h
  refine ⟨v, l, h1, h2, h3, ?_⟩
  rcases DataW.trod_slice ht h with ⟨rfl, _⟩ | ⟨a, len, cap, elems, rest, m, _, rfl, _, _, hl, _⟩
  · injection h1 with h1 _
    subst h1
    rw [← slice_len h3]
    exact ⟨none, 0, rfl, Nat.le_refl _⟩
  · injection h1 with h1 _
    subst h1
    rw [← slice_len h3]
    exact ⟨_, cap, rfl, hl⟩
theorem rd_str2 {c : Value} {y : DataW H × List MemPlace} (h : DataW.trod enc Tryd.prog w 0 (fun _ => true) true n 9 [c] = some y) : ∃ l : Bs, c = .string ⟨l.toArray⟩ ∧ NmOk l := by
  obtain ⟨s, e, rfl, hs⟩ := DataW.trod_string Tryd.underlying9 h
  refine ⟨s.data.toList, by simpa using e, ?_⟩
  unfold maxLen at hs
  unfold NmOk
  have : s.data.toList.length = s.size := by rw [Array.length_toList]; rfl
  omega
theorem rd_pf2 (h : DataW.trod enc Tryd.prog w 0 (fun _ => true) true n 74 cs = some x) : ∃ p : Nat × Int, PfOk p ∧ cs = pfL p := by
  obtain ⟨xs, m, _, _, hl, hlen, hf⟩ := DataW.trod_struct Tryd.underlying74 h
  rw [cells_Pf] at hl
  obtain ⟨c0, c1, rfl⟩ := two_of hl
  obtain ⟨y0, y1, rfl⟩ := two_of hlen
  have h0 := hf 0 _ rfl
  have h1 := hf 1 _ rfl
  simp [cells_U32, cells_I] at h0 h1
  obtain ⟨a, rfl, ha⟩ := rd_u32 h0
  obtain ⟨b, rfl, hb⟩ := rd_i64 h1
  exact ⟨(a, b), ⟨ha, hb⟩, rfl⟩
theorem rd_pfs2 (h : DataW.trod enc Tryd.prog w 0 (fun _ => true) true n 44 cs = some x) : ∃ v l, cs = [v] ∧ (∀ a ∈ l, PfOk a) ∧ SliceAt w.heap.size 2 (PfAt w) v l ∧ CapV v l.length :=
  rd_rowC PfOk (fun cs a => cs = pfL a) Tryd.underlying44 cells_Pf (by omega) (fun m cs y hh => rd_pf2 hh) (fun b o cs a _ _ hR hc => by subst hR; exact pfL_at hc) h
theorem rd_st2 (h : DataW.trod enc Tryd.prog w 0 (fun _ => true) true n 77 cs = some x) : ∃ l : StD, l.fit ∧ cs = stL l := by
  obtain ⟨xs, m, _, rfl, hl, hlen, hf⟩ := DataW.trod_struct Tryd.underlying77 h
  rw [cells_St] at hl
  obtain ⟨c0, c1, c2, c3, rfl⟩ := four_of hl
  obtain ⟨y0, y1, y2, rfl⟩ := three_of hlen
  have h0 := hf 0 _ rfl
  have h1 := hf 1 _ rfl
  have h2 := hf 2 _ rfl
  simp [cells_Str, cells_I, cells_Pf] at h0 h1 h2
  obtain ⟨⟨a, b⟩, ha, e⟩ := rd_pf2 h0
  simp only [pfL, List.cons.injEq, and_true] at e
  obtain ⟨rfl, rfl⟩ := e
  obtain ⟨via, rfl, b1⟩ := rd_str2 h1
  obtain ⟨pl, rfl, _⟩ := rd_i64 h2
  exact ⟨⟨a, b, via, pl⟩, ⟨ha, b1⟩, rfl⟩
theorem rd_sts2 (h : DataW.trod enc Tryd.prog w 0 (fun _ => true) true n 46 cs = some x) : ∃ v l, cs = [v] ∧ (∀ a ∈ l, StD.fit a) ∧ SliceAt w.heap.size 4 (StAt w) v l ∧ CapV v l.length :=
  rd_rowC StD.fit (fun cs a => cs = stL a) Tryd.underlying46 cells_St (by omega) (fun m cs y hh => rd_st2 hh) (fun b o cs a _ _ hR hc => by subst hR; exact stL_at hc) h
theorem all_mem {P : Program} {e : TypeId} : ∀ {l : List (DataW H)} {d : DataW H}, d ∈ l → ∀ n ∈ d.weights P e, n ∈ DataW.weightsAll P e l
  | d' :: r, d, hd, n, hn => by
    simp only [DataW.weightsAll, List.mem_append]
    rcases List.mem_cons.1 hd with rfl | h
    · exact Or.inl hn
    · exact Or.inr (all_mem h n hn)
/-- Names that memory holds. -/
structure LkD.held (l : LkD) : Prop where
  p : l.peer.length ≤ 281474976710656
  i : l.imp.length ≤ 281474976710656
  e : l.exp.length ≤ 281474976710656
theorem rd_rowW {α : Type} {t e z : Nat} (ok : α → Prop) (R : List Value → α → Prop) {el : Nat → Nat → α → Prop} (ht : Tryd.prog.underlying t = some (.slice e)) (hz : Tryd.prog.cellsOf e = z) (hz0 : 0 < z)
    (rd : ∀ m cs y, DataW.trod enc Tryd.prog w 0 (fun _ => true) true m e cs = some y → (∀ k ∈ y.1.weights Tryd.prog e, k ≤ reachBytes) → ∃ a, ok a ∧ R cs a)
    (hel : ∀ b o cs a, b < w.heap.size → cs.length = z → R cs a → (∀ j u, cs[j]? = some u → w.cell? ⟨b, o + j, none⟩ = some u) → el b o a)
    (h : DataW.trod enc Tryd.prog w 0 (fun _ => true) true n t cs = some x) (hw : ∀ k ∈ x.1.weights Tryd.prog t, k ≤ reachBytes) : ∃ v l, cs = [v] ∧ (∀ a ∈ l, ok a) ∧ SliceAt w.heap.size z el v l := by
  rcases DataW.trod_slice ht h with ⟨rfl, _⟩ | ⟨a, len, cap, elems, rest, m, _, rfl, rfl, hb, hl, hm, hlen, hi, _, _⟩
  · exact ⟨_, [], rfl, by simp, slice_nil _ _ _⟩
  · rw [hz] at hi
    have key : ∀ i, i < len → ∃ cs y, w.cells? 0 (a.add (i * z)) z = some cs ∧ DataW.trod enc Tryd.prog w 0 (fun _ => true) true m e cs = some y ∧ elems[i]? = some y := by
      intro i hlt
      have h1 := hi i hlt
      rw [List.getElem?_eq_getElem (by omega)] at h1
      obtain ⟨c, h2, h3⟩ := Option.bind_eq_some_iff.1 h1
      exact ⟨c, _, h2, h3, List.getElem?_eq_getElem _⟩
    have hsp : 0 < len → a.spot = none := by
      intro h0
      obtain ⟨c, y, h1, _⟩ := key 0 h0
      obtain ⟨_, h2, h3⟩ := World.cells?_some h1
      have h4 := h3 0 hz0
      rw [List.getElem?_eq_getElem (by omega)] at h4
      have := World.cell?_spot h4
      simpa [Addr.add] using this
    obtain ⟨l, hll, hp⟩ := list_of (P := fun i x => ok x ∧ ∃ b off, some a = some ⟨b, off, none⟩ ∧ b < w.heap.size ∧ el b (off + i * z) x) len fun i hlt => by
      obtain ⟨c, y, h1, h2, he⟩ := key i hlt
      obtain ⟨v, hv, hR⟩ := rd m c y h2 fun k hk => hw k (by
        simp only [DataW.weights, ht, List.mem_cons, List.mem_append]
        exact .inr (.inl (all_mem (List.mem_map_of_mem (List.mem_of_getElem? he)) k hk)))
      obtain ⟨b, off, spot⟩ := a
      obtain rfl : spot = none := hsp (by omega)
      have hbl := World.cells?_block h1 hz0
      obtain ⟨_, h3, h4⟩ := World.cells?_some h1
      rw [WideShapes.add_plain] at hbl h4
      refine ⟨v, hv, b, off, rfl, hbl, hel b _ c v hbl h3 hR fun j u hj => ?_⟩
      have hjl := (List.getElem?_eq_some_iff.1 hj).1
      have := h4 j (by omega)
      rw [WideShapes.add_plain, hj] at this
      exact this
    refine ⟨_, l, rfl, fun v hv => ?_, ⟨some a, cap, by rw [hll], by unfold maxLen at hm; omega, fun i v hv => (hp i v hv).2⟩⟩
    obtain ⟨i, hi2⟩ := List.getElem?_of_mem hv
    exact (hp i v hi2).1
theorem rd_str3 {c : Value} {y : DataW H × List MemPlace} (h : DataW.trod enc Tryd.prog w 0 (fun _ => true) true n 9 [c] = some y) (hw : ∀ k ∈ y.1.weights Tryd.prog 9, k ≤ reachBytes) : ∃ l : Bs, c = .string ⟨l.toArray⟩ ∧ l.length ≤ 281474976710656 := by
  obtain ⟨s, e, rfl, hs⟩ := DataW.trod_string Tryd.underlying9 h
  refine ⟨s.data.toList, by simpa using e, ?_⟩
  have h1 := hw s.data.toList.length (by simp [DataW.weights])
  have h2 := reachBytes_lt
  omega
theorem rd_lk3 (h : DataW.trod enc Tryd.prog w 0 (fun _ => true) true n 50 cs = some x) (hw : ∀ k ∈ x.1.weights Tryd.prog 50, k ≤ reachBytes) : ∃ l : LkD, l.held ∧ cs = lkL l := by
  obtain ⟨xs, m, _, rfl, hl, hlen, hf⟩ := DataW.trod_struct Tryd.underlying50 h
  rw [cells_Lk] at hl
  obtain ⟨c0, c1, c2, c3, c4, rfl⟩ := five_of hl
  obtain ⟨y0, y1, y2, y3, y4, rfl⟩ := five_of hlen
  have h0 := hf 0 _ rfl
  have h1 := hf 1 _ rfl
  have h2 := hf 2 _ rfl
  have h3 := hf 3 _ rfl
  have h4 := hf 4 _ rfl
  simp [cells_Str, cells_I] at h0 h1 h2 h3 h4
  simp [DataW.weights, DataW.weightsEach, Tryd.underlying50] at hw
  obtain ⟨peer, rfl, b0⟩ := rd_str3 h0 fun k hk => hw k (by simp [hk])
  obtain ⟨cost, rfl, _⟩ := rd_i64 h1
  obtain ⟨imp, rfl, b2⟩ := rd_str3 h2 fun k hk => hw k (by simp [hk])
  obtain ⟨ex, rfl, b3⟩ := rd_str3 h3 fun k hk => hw k (by simp [hk])
  obtain ⟨pl, rfl, _⟩ := rd_i64 h4
  exact ⟨⟨peer, cost, imp, ex, pl⟩, ⟨b0, b2, b3⟩, rfl⟩
theorem rd_lks3 (h : DataW.trod enc Tryd.prog w 0 (fun _ => true) true n 45 cs = some x) (hw : ∀ k ∈ x.1.weights Tryd.prog 45, k ≤ reachBytes) : ∃ v l, cs = [v] ∧ (∀ a ∈ l, LkD.held a) ∧ SliceAt w.heap.size 5 (LkAt w) v l :=
  rd_rowW LkD.held (fun cs a => cs = lkL a) Tryd.underlying45 cells_Lk (by omega) (fun m cs y hh hk => rd_lk3 hh hk) (fun b o cs a _ _ hR hc => by subst hR; exact lkL_at hc) h hw
theorem rd_ro3 (h : DataW.trod enc Tryd.prog w 0 (fun _ => true) true n 48 cs = some x) (hw : ∀ k ∈ x.1.weights Tryd.prog 48, k ≤ reachBytes) : ∃ r : RoD, (∀ l ∈ r.lks, l.held) ∧ roR w cs r := by
  obtain ⟨xs, m, _, rfl, hl, hlen, hf⟩ := DataW.trod_struct Tryd.underlying48 h
  rw [cells_Ro] at hl
  obtain ⟨c0, c1, c2, c3, c4, rfl⟩ := five_of hl
  obtain ⟨y0, y1, y2, y3, y4, rfl⟩ := five_of hlen
  have h0 := hf 0 _ rfl
  have h1 := hf 1 _ rfl
  have h2 := hf 2 _ rfl
  have h3 := hf 3 _ rfl
  have h4 := hf 4 _ rfl
  simp [cells_Str, cells_I, cells_SPf, cells_SLk, cells_SSt] at h0 h1 h2 h3 h4
  simp [DataW.weights, DataW.weightsEach, Tryd.underlying48] at hw
  obtain ⟨nm, rfl, b0⟩ := rd_str2 h0
  obtain ⟨v1, l1, e1, o1, s1, _⟩ := rd_pfs2 h1
  obtain ⟨v2, l2, e2, o2, s2⟩ := rd_lks3 h2 fun k hk => hw k (by simp [hk])
  obtain ⟨v3, l3, e3, o3, s3, _⟩ := rd_sts2 h3
  simp only [List.cons.injEq, and_true] at e1 e2 e3
  subst e1 e2 e3
  obtain ⟨pl, rfl, _⟩ := rd_i64 h4
  exact ⟨⟨nm, l1, l2, l3, pl⟩, o2, _, _, _, rfl, s1, s2, s3⟩
set_option maxRecDepth 100000 in
/-- A router. -/
theorem open_ro {b0 : Nat} {r : Reach} {v : Value} {d : DataW H} {p : List MemPlace} (hv : Value.okWide Tryd.prog w r b0 48 v) (h : DataW.Trod enc Tryd.prog w 0 (fun _ => true) true 48 v d p) (hw : ∀ k ∈ d.weights Tryd.prog 48, k ≤ reachBytes) :
    ∃ c : RoD, (∀ l ∈ c.lks, l.held) ∧ RoVal w w.heap.size v c := by
  obtain ⟨vs, rfl, _⟩ := okWide_struct Tryd.underlying48 hv
  obtain ⟨m, hm⟩ := h
  obtain ⟨c, hc, nv, lv, sv, e, s1, s2, s3⟩ := rd_ro3 hm hw
  refine ⟨c, hc, nv, lv, sv, ?_, s1, s2, s3⟩
  have e' : vs.toList = [.string ⟨c.name.toArray⟩, nv, lv, sv, .int .i64 c.pl] := by simpa [Value.cells] using e
  rw [show vs = #[.string ⟨c.name.toArray⟩, nv, lv, sv, .int .i64 c.pl] by apply Array.toList_inj.1; exact e']
end
end Go.Proofs.YtcjdjifooaeomaaDoor
