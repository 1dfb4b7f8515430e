/- Appending whatever lies, or nothing. No program. How a spoilt configuration is made: plain data, and what lies. No program. One router of those that were made is spoilt: what lies then. No program. -/
import Derived.Test.YtcjdjifooaeomaaDoorHM
import Derived.Test.YtcjdjifooaeomaaDoorUS
import Derived.Laws.AppendOwnNone
import Derived.Test.YtcjdjifooaeomaaDoorDI
import Derived.Test.YtcjdjifooaeomaaDoorCD
import Derived.Test.YtcjdjifooaeomaaDoorUV
import Derived.Test.YtcjdjifooaeomaaDoorUW
namespace Go.Proofs.YtcjdjifooaeomaaDoor
open Go.RowKit Go.Lib

theorem run_append_void {P : Program} {w : World} (base : Nat) (t ty e : TypeId) (i : TypeInfo) (size : Nat) (ht : P.underlying t = some (.slice e)) (hi : P.info? e = some i)
    (v : Value) (n : Nat) (xs : List Value) (hown : w.ownsRow base e size v n xs) (ad : Option Addr) (c : Nat) :
    (Builtin.append_ #[t, t] ty #[v, .slice ad 0 c]).run P w = .ok v w := by
  rcases hown.2 with ⟨rfl, rfl⟩ | ⟨g, cap, cur, rfl, _, _, hnc, _⟩
  · cases ad <;> simp [Builtin.append_, run_underlying ht, sizeOf, typeInfo, hi, Builtin.lenOf, Builtin.firstCells, loadCells, loadCellsFrom, Result.andThen]
  · cases ad <;> simp [Builtin.append_, run_underlying ht, sizeOf, typeInfo, hi, Builtin.lenOf, Builtin.firstCells, hnc, storeCells, loadCells, loadCellsFrom, Result.andThen]
theorem grown_refl (w : World) (b : Option Nat) : w.grownBy w b := ⟨rfl, rfl, rfl, Nat.le_refl _, fun _ _ _ => rfl⟩
/-- append(v, x...), x a slice that lies, of any length. -/
theorem wpList_append_sl {P : Program} {w : World} {ops : Array Oper} {rest : List Oper} {o : Oper} {a : Act} {Q : Exit → Act → World → Prop} (hgd : o.guard = none) (s x : Operand) (t : TypeId)
    (ho : o.op = .call { callee := .builtin .append, args := #[s, x], argTypes := #[t, t] })
    (base : Nat) (e : TypeId) (i : TypeInfo) (z : Value) (size bytes : Nat) (ht : P.underlying t = some (.slice e)) (hi : P.info? e = some i) (hz : i.zero = some z)
    (hsize : i.size = size) (hby : i.bytes = bytes) (hzs : z.cells.size = size) (hsz : 0 < size)
    (v : Value) (n : Nat) (xs : List Value) (hs : a.eval s = v) (hown : w.ownsRow base e size v n xs)
    (ad : Option Addr) (m c : Nat) (news : List Value) (hx : a.eval x = .slice ad m c) (hl : news.length = m * size) (hnews : ∀ j u, news[j]? = some u → ∃ b off, ad = some ⟨b, off, none⟩ ∧ w.cell? ⟨b, off + j, none⟩ = some u) (h1 : ∀ u ∈ news, u.oneCell' = true)
    (h63 : n + m ≤ maxLen) (hbytes : (n + m) * bytes ≤ 140737488355328) (hbase : base ≤ w.heap.size)
    (h : ∀ v' w', w'.ownsRow base e size v' (n + m) (xs ++ news) → w.grownBy w' v.ownBlock → (v'.ownBlock = v.ownBlock ∨ v'.ownBlock = some w.heap.size) → wpList P ops Q rest (a.put o.dst v') w') : wpList P ops Q (o :: rest) a w := by
  by_cases hm : m = 0
  · subst hm
    have hn0 : news = [] := List.eq_nil_of_length_eq_zero (by rw [hl, Nat.zero_mul])
    subst hn0
    refine wpList_plain hgd fun K hK => ?_
    have hrun := run_append_void (P := P) (w := w) base t o.type e i size ht hi v n xs hown ad c
    unfold Oper.wp
    simp [execOp, ho, resolve, invoke, builtin, hs, hx, hrun, Result.andThen]
    exact hK _ _ (h v w (by rw [List.append_nil]; exact hown) (grown_refl _ _) (.inl rfl))
  · obtain ⟨u, hu⟩ : ∃ u, news[0]? = some u := ⟨news[0]'(by rw [hl]; exact Nat.mul_pos (by omega) hsz), List.getElem?_eq_getElem _⟩
    obtain ⟨b, off, rfl, _⟩ := hnews 0 u hu
    refine wpList_append_lies _ hgd s x t ho base e i z size bytes ht hi hz hsize hby hzs hsz v n xs hs hown ⟨b, off, none⟩ m c news hx hl (fun j u hu => ?_) h1 (by omega) h63 hbytes hbase w.heap.size rfl fun g cap w' h2 h3 h4 _ => h _ w' h2 h3 ?_
    · obtain ⟨b', off', e', h'⟩ := hnews j u hu
      injection e' with e'
      injection e' with e1 e2 _
      subst e1 e2
      have hadd : (⟨b, off, none⟩ : Addr).add j = ⟨b, off + j, none⟩ := by unfold Addr.add; split <;> simp_all
      rw [hadd]
      exact h'
    · rcases h4 with h4 | h4
      · exact .inl h4.symm
      · exact .inr (by rw [h4]; rfl)
end Go.Proofs.YtcjdjifooaeomaaDoor
namespace Go.Proofs.YtcjdjifooaeomaaDoor
open Go.RowKit Go.Lib

/-- No list is longer than this. -/
structure CfD.le (c : CfD) (N : Nat) : Prop where
  m : c.maps.length ≤ N
  r : c.ros.length ≤ N
  n : ∀ r ∈ c.ros, r.nets.length ≤ N ∧ r.lks.length ≤ N ∧ r.sts.length ≤ N
theorem placeR_mem : ∀ {l : List RoD} {k : Nat} {x : RoD}, x ∈ placeR k l → ∃ r ∈ l, ∃ i, x = ⟨r.name, r.nets, placeL i 0 r.lks, r.sts, ((100 + i : Nat) : Int)⟩
  | [], _, _, h => by cases h
  | r :: rs, k, x, h => by
    rw [placeR] at h
    rcases List.mem_cons.1 h with rfl | h
    · exact ⟨r, List.mem_cons_self .., k, rfl⟩
    · obtain ⟨r', hr, i, e⟩ := placeR_mem h
      exact ⟨r', List.mem_cons_of_mem _ hr, i, e⟩
theorem placeL_mem (k : Nat) : ∀ {l : List LkD} {i : Nat} {x : LkD}, x ∈ placeL k i l → ∃ y ∈ l, ∃ p, x = ⟨y.peer, y.cost, y.imp, y.exp, p⟩
  | [], _, _, h => by cases h
  | a :: r, i, x, h => by
    rw [placeL] at h
    rcases List.mem_cons.1 h with rfl | h
    · exact ⟨a, List.mem_cons_self .., _, rfl⟩
    · obtain ⟨y, hy, p, e⟩ := placeL_mem k h
      exact ⟨y, List.mem_cons_of_mem _ hy, p, e⟩
theorem mem_modify {α : Type} {l : List α} {i : Nat} {f : α → α} {x : α} (h : x ∈ l.modify i f) : x ∈ l ∨ ∃ y ∈ l, x = f y := by
  obtain ⟨j, hj⟩ := List.getElem?_of_mem h
  rw [List.getElem?_modify] at hj
  split at hj
  · obtain ⟨y, hy, rfl⟩ := Option.map_eq_some_iff.1 hj
    exact .inr ⟨y, List.mem_of_getElem? hy, rfl⟩
  · obtain ⟨y, hy, rfl⟩ := Option.map_eq_some_iff.1 hj
    exact .inl (List.mem_of_getElem? hy)
theorem place_fit {r : RoD} (h : r.fit) (i : Nat) (p : Int) : (⟨r.name, r.nets, placeL i 0 r.lks, r.sts, p⟩ : RoD).fit :=
  ⟨h.n, h.p, fun l hl => by
    obtain ⟨y, hy, q, rfl⟩ := placeL_mem i hl
    exact ⟨(h.l y hy).p, (h.l y hy).i, (h.l y hy).e⟩, h.s⟩
theorem nm_small {l : Bs} (h : l.length ≤ 10) : NmOk l := by unfold NmOk; omega
theorem spoilR_fit {f : Bs} (hf : NmOk f) {r : RoD} (h : r.fit) (how which : Nat) : (spoilR f how which r).fit := by
  unfold spoilR
  split
  · exact ⟨hf, h.p, h.l, h.s⟩
  split
  · exact ⟨h.n, h.p, fun l hl => h.l l (List.mem_of_mem_drop hl), h.s⟩
  split
  · refine ⟨h.n, h.p, fun l hl => ?_, h.s⟩
    rcases List.mem_append.1 hl with hl | hl
    · exact h.l l hl
    · rw [List.mem_singleton.1 hl]
      exact ⟨h.n, nm_small (by simp), nm_small (by simp)⟩
  split
  · refine ⟨h.n, h.p, fun l hl => ?_, h.s⟩
    dsimp only at hl
    split at hl
    · cases hl
    · rename_i a ls he
      have ha : a ∈ r.lks := by rw [he]; exact List.mem_cons_self ..
      rcases List.mem_cons.1 hl with rfl | hl
      · exact ⟨(h.l a ha).p, nm_small (by simp), (h.l a ha).e⟩
      · exact h.l l (by rw [he]; exact List.mem_cons_of_mem _ hl)
  split
  · exact ⟨h.n, fun p hp => (List.mem_append.1 hp).elim (h.p p) (h.p p), h.l, h.s⟩
  split
  · refine ⟨h.n, h.p, h.l, fun s hs => ?_⟩
    rcases List.mem_append.1 hs with hs | hs
    · exact h.s s hs
    · rw [List.mem_singleton.1 hs]
      exact ⟨⟨by simp, by simp, by simp⟩, nm_small (by unfold nameS; simp)⟩
  split
  · exact ⟨h.n, h.p, h.l, fun s hs => (List.mem_append.1 hs).elim (h.s s) (h.s s)⟩
  · exact ⟨h.n, h.p, fun l hl => (List.mem_append.1 hl).elim (h.l l) (h.l l), h.s⟩
theorem spoil_fit {c : CfD} (h : c.fit) (how which : Nat) : (spoilC c how which).fit := by
  unfold spoilC
  have key : ∀ x ∈ placeR 0 c.ros, x.fit := fun x hx => by
    obtain ⟨r, hr, i, rfl⟩ := placeR_mem hx
    exact place_fit (h.r r hr) i _
  dsimp only
  split
  · exact ⟨h.m, fun r hr => by cases hr⟩
  · rename_i f hf
    refine ⟨h.m, fun r hr => ?_⟩
    rcases mem_modify hr with hr | ⟨y, hy, rfl⟩
    · exact key r hr
    · exact spoilR_fit (key f (List.mem_of_mem_head? (by rw [hf]; rfl))).n (key y hy) how which
theorem spoilR_le {f : Bs} {r : RoD} {N : Nat} (h : r.nets.length ≤ N ∧ r.lks.length ≤ N ∧ r.sts.length ≤ N) (how which : Nat) : (spoilR f how which r).nets.length ≤ 2 * N + 1 ∧ (spoilR f how which r).lks.length ≤ 2 * N + 1 ∧ (spoilR f how which r).sts.length ≤ 2 * N + 1 := by
  obtain ⟨h1, h2, h3⟩ := h
  have h4 : (match r.lks with | [] => [] | l :: ls => (⟨l.peer, l.cost, [120], l.exp, l.pl⟩ : LkD) :: ls).length = r.lks.length := by
    cases r.lks <;> rfl
  unfold spoilR
  repeat' split
  all_goals dsimp only
  all_goals (try rw [h4])
  all_goals (try (rename_i he; rw [he] at h2; simp only [List.length_cons] at h2))
  all_goals (try simp only [List.length_append, List.length_drop, List.length_cons, List.length_nil])
  all_goals omega
theorem spoil_le {c : CfD} {N : Nat} (h : c.le N) (how which : Nat) : (spoilC c how which).le (2 * N + 1) := by
  have key : ∀ x ∈ placeR 0 c.ros, x.nets.length ≤ N ∧ x.lks.length ≤ N ∧ x.sts.length ≤ N := fun x hx => by
    obtain ⟨r, hr, i, rfl⟩ := placeR_mem hx
    have := h.n r hr
    dsimp only
    rw [placeL_len]
    exact this
  have h1 := h.m
  have h2 := h.r
  unfold spoilC
  dsimp only
  split
  · exact ⟨by dsimp only; omega, by simp, fun r hr => by cases hr⟩
  · refine ⟨by dsimp only; omega, ?_, fun r hr => ?_⟩
    · dsimp only
      rw [List.length_modify, placeR_len]
      omega
    · rcases mem_modify hr with hr | ⟨y, hy, rfl⟩
      · have := key r hr
        omega
      · exact spoilR_le (key y hy) how which
/-- Links, some of them with their places. -/
def mixL (k j : Nat) (l : List LkD) : List LkD := (placeL k 0 l).take j ++ l.drop j
theorem mixL_zero (k : Nat) (l : List LkD) : mixL k 0 l = l := by simp [mixL]
theorem mixL_all (k : Nat) (l : List LkD) : mixL k l.length l = placeL k 0 l := by
  unfold mixL
  rw [List.drop_length, List.append_nil, List.take_of_length_le (by rw [placeL_len]; exact Nat.le_refl _)]
theorem mixL_len (k j : Nat) (l : List LkD) : (mixL k j l).length = l.length := by
  unfold mixL
  rw [List.length_append, List.length_take, List.length_drop, placeL_len]
  omega
theorem flatL_len (l : List LkD) : (l.flatMap lkL).length = l.length * 5 := by
  induction l with
  | nil => rfl
  | cons a r ih => rw [List.flatMap_cons, List.length_append, ih, List.length_cons]; simp [lkL]; omega
theorem mixL_set (k : Nat) {j : Nat} {l : List LkD} (hj : j < l.length) : ((mixL k j l).flatMap lkL).set (j * 5 + 4) (.int .i64 ((200 + 10 * k + j : Nat) : Int)) = (mixL k (j + 1) l).flatMap lkL := by
  have hx : l[j]? = some l[j] := List.getElem?_eq_getElem hj
  have hp := placeL_at k l 0 j _ hx
  rw [Nat.zero_add] at hp
  have e1 : mixL k j l = (placeL k 0 l).take j ++ (l[j] :: l.drop (j + 1)) := by unfold mixL; rw [List.drop_eq_getElem_cons hj]
  have e2 : mixL k (j + 1) l = (placeL k 0 l).take j ++ (⟨l[j].peer, l[j].cost, l[j].imp, l[j].exp, ((200 + 10 * k + j : Nat) : Int)⟩ :: l.drop (j + 1)) := by
    unfold mixL
    rw [List.take_add_one, hp, List.append_assoc]
    rfl
  have hl : (((placeL k 0 l).take j).flatMap lkL).length = j * 5 := by
    rw [flatL_len, List.length_take, placeL_len]
    congr 1
    omega
  rw [e1, e2, List.flatMap_append, List.flatMap_append, List.set_append_right _ _ (by rw [hl]; omega), hl, List.flatMap_cons, List.flatMap_cons, show j * 5 + 4 - j * 5 = 4 by omega]
  rfl
/-- What a flat list holds at a place. -/
theorem flat_split {α : Type} (f : α → List Value) (z : Nat) (hz : ∀ x, (f x).length = z) : ∀ (l : List α) (j : Nat) (u : Value), (l.flatMap f)[j]? = some u → ∃ i x r, l[i]? = some x ∧ (f x)[r]? = some u ∧ j = i * z + r
  | [], j, u, h => by simp at h
  | a :: l, j, u, h => by
    rw [List.flatMap_cons] at h
    by_cases hj : j < z
    · rw [List.getElem?_append_left (by rw [hz]; exact hj)] at h
      exact ⟨0, a, j, rfl, h, by omega⟩
    · rw [List.getElem?_append_right (by rw [hz]; omega), hz] at h
      obtain ⟨i, x, r, h1, h2, h3⟩ := flat_split f z hz l (j - z) u h
      exact ⟨i + 1, x, r, h1, h2, by rw [Nat.add_mul, Nat.one_mul]; omega⟩
theorem flat_mem {α : Type} {f : α → List Value} {P : Value → Prop} (h : ∀ x, ∀ u ∈ f x, P u) (l : List α) : ∀ u ∈ l.flatMap f, P u := by
  intro u hu
  obtain ⟨x, _, hx⟩ := List.mem_flatMap.1 hu
  exact h x u hx
theorem flat_length {α : Type} (f : α → List Value) (z : Nat) (hz : ∀ x, (f x).length = z) : ∀ l : List α, (l.flatMap f).length = l.length * z
  | [] => by simp
  | a :: l => by rw [List.flatMap_cons, List.length_append, hz, flat_length f z hz l, List.length_cons, Nat.add_mul, Nat.one_mul]; omega
/-- A list that lies, cell by cell. -/
def RowAt {α : Type} (W : World) (f : α → List Value) (b o : Nat) (x : α) : Prop := ∀ j u, (f x)[j]? = some u → W.cell? ⟨b, o + j, none⟩ = some u
theorem news_of {α : Type} {W : World} {B z : Nat} {f : α → List Value} (hz : ∀ x, (f x).length = z) {ad : Option Addr} {n cap : Nat} {l : List α} (h : SliceAt B z (RowAt W f) (.slice ad n cap) l) :
    ∀ j u, (l.flatMap f)[j]? = some u → ∃ b off, ad = some ⟨b, off, none⟩ ∧ W.cell? ⟨b, off + j, none⟩ = some u := by
  intro j u hu
  obtain ⟨ad', cap', e, _, h3⟩ := h
  injection e with e1 _ _
  subst e1
  obtain ⟨i, x, r, h4, h5, rfl⟩ := flat_split f z hz l j u hu
  obtain ⟨b, off, e, _, hr⟩ := h3 i x h4
  exact ⟨b, off, e, by rw [← Nat.add_assoc]; exact hr r u h5⟩
theorem pf_row {W : World} {b o : Nat} {p : Nat × Int} (h : PfAt W b o p) : RowAt W pfL b o p := by
  intro j u hu
  match j, hu with
  | 0, hu => obtain rfl := Option.some.inj hu; exact h.1
  | 1, hu => obtain rfl := Option.some.inj hu; exact h.2
theorem lk_row {W : World} {b o : Nat} {p : LkD} (h : LkAt W b o p) : RowAt W lkL b o p := by
  intro j u hu
  match j, hu with
  | 0, hu => obtain rfl := Option.some.inj hu; exact h.1
  | 1, hu => obtain rfl := Option.some.inj hu; exact h.2.1
  | 2, hu => obtain rfl := Option.some.inj hu; exact h.2.2.1
  | 3, hu => obtain rfl := Option.some.inj hu; exact h.2.2.2.1
  | 4, hu => obtain rfl := Option.some.inj hu; exact h.2.2.2.2
theorem st_row {W : World} {b o : Nat} {p : StD} (h : StAt W b o p) : RowAt W stL b o p := by
  intro j u hu
  match j, hu with
  | 0, hu => obtain rfl := Option.some.inj hu; exact h.1
  | 1, hu => obtain rfl := Option.some.inj hu; exact h.2.1
  | 2, hu => obtain rfl := Option.some.inj hu; exact h.2.2.1
  | 3, hu => obtain rfl := Option.some.inj hu; exact h.2.2.2
theorem SliceAt.len {α : Type} {B z : Nat} {el : Nat → Nat → α → Prop} {ad : Option Addr} {n cap : Nat} {l : List α} (h : SliceAt B z el (.slice ad n cap) l) : n = l.length := by
  obtain ⟨_, _, e, _⟩ := h
  injection e
theorem maps_of {w : World} {B : Nat} {v : Value} {ms : List MpD} (h : SliceAt B 3 (MpAt w B) v ms) : ∃ lm : List MpV, lm.map (·.1) = ms ∧ (∀ p ∈ lm, SliceAt B 10 (ClAt w) p.2 p.1.cls) ∧ SliceAt B 3 (RowAt w mpL) v lm := by
  obtain ⟨ad, cap, rfl, h1, h2⟩ := h
  obtain ⟨lm, hl, hp⟩ := list_of (P := fun i (p : MpV) => ms[i]? = some p.1 ∧ (∃ b off, ad = some ⟨b, off, none⟩ ∧ b < B ∧ RowAt w mpL b (off + i * 3) p) ∧ SliceAt B 10 (ClAt w) p.2 p.1.cls) ms.length fun i hi => by
    obtain ⟨b, off, e, hb, cv, c0, c1, c2, hc⟩ := h2 i _ (List.getElem?_eq_getElem hi)
    refine ⟨(ms[i], cv), List.getElem?_eq_getElem hi, ⟨b, off, e, hb, fun j u hu => ?_⟩, hc⟩
    match j, hu with
    | 0, hu => obtain rfl := Option.some.inj hu; exact c0
    | 1, hu => obtain rfl := Option.some.inj hu; exact c1
    | 2, hu => obtain rfl := Option.some.inj hu; exact c2
  refine ⟨lm, ?_, fun p hp' => ?_, ad, cap, by rw [hl], by rw [hl]; exact h1, fun i p hi => (hp i p hi).2.1⟩
  · apply List.ext_getElem?
    intro i
    rw [List.getElem?_map]
    cases h : lm[i]? with
    | none =>
      rw [List.getElem?_eq_none_iff, hl] at h
      rw [List.getElem?_eq_none_iff.2 h]
      rfl
    | some p => exact (hp i p h).1.symm
  · obtain ⟨i, hi⟩ := List.getElem?_of_mem hp'
    exact (hp i p hi).2.2
theorem mpL_one (p : MpV) (h : p.2.oneCell' = true) : ∀ u ∈ mpL p, u.oneCell' = true := by
  intro u hu
  simp [mpL] at hu
  rcases hu with rfl | rfl | rfl
  · rfl
  · exact h
  · rfl
theorem pfL_one (p : Nat × Int) : ∀ u ∈ pfL p, u.oneCell' = true := by
  intro u hu
  simp [pfL] at hu
  rcases hu with rfl | rfl <;> rfl
theorem lkL_one (p : LkD) : ∀ u ∈ lkL p, u.oneCell' = true := by
  intro u hu
  simp [lkL] at hu
  rcases hu with rfl | rfl | rfl | rfl | rfl <;> rfl
theorem stL_one (p : StD) : ∀ u ∈ stL p, u.oneCell' = true := by
  intro u hu
  simp [stL] at hu
  rcases hu with rfl | rfl | rfl | rfl <;> rfl
/-- What lies while a spoilt configuration is made. -/
structure TS (w : World) (b3 b6 b7 : Nat) (cmv crv mv rv : Value) (lm : List MpV) (lr : List RoV) (W : World) : Prop where
  c : W.heap[b7]? = some (.cells #[mv, rv] 33 (0, 0))
  x : W.heap[b3]? = some (.cells #[cmv, crv] 33 (0, 0))
  z : W.heap[b6]? = some (.cells #[.slice none 0 0, .slice none 0 0] 33 (0, 0))
  m : W.ownsRow w.heap.size 57 3 mv lm.length (lm.flatMap mpL)
  r : W.ownsRow w.heap.size 48 5 rv lr.length (lr.flatMap roL)
  rc : ∀ p ∈ lr, Rows3 W w.heap.size p
  d : lr.Pairwise fun p q => (∀ g, p.2.2.1.ownBlock = some g → q.2.2.1.ownBlock ≠ some g) ∧ ∀ g, p.2.2.2.ownBlock = some g → q.2.2.2.ownBlock ≠ some g
  b : Below w.heap.size w W
  o : w.heap.size ≤ b3 ∧ w.heap.size ≤ b6 ∧ w.heap.size ≤ b7 ∧ b3 ≠ b7 ∧ b6 ≠ b7 ∧ b3 ≠ b6
section
variable {w W W' : World} {b3 b6 b7 : Nat} {cmv crv mv rv : Value} {lm : List MpV} {lr : List RoV}
theorem TS.below (h : TS w b3 b6 b7 cmv crv mv rv lm lr W) (q : Below W.heap.size W W') : TS w b3 b6 b7 cmv crv mv rv lm lr W' :=
  ⟨pf_block q h.c, pf_block q h.x, pf_block q h.z, own_bel h.m q, own_bel h.r q, fun p hp => ⟨own_bel (h.rc p hp).1 q, own_bel (h.rc p hp).2.1 q, own_bel (h.rc p hp).2.2 q⟩, h.d, bel_up h.b q h.b.size, h.o⟩
/-- A router more. -/
theorem TS.addRo {rv' : Value} {p : RoV} (h : TS w b3 b6 b7 cmv crv mv rv lm lr W) (hp : Rows3 W w.heap.size p) (hd : ∀ q ∈ lr, (∀ g, q.2.2.1.ownBlock = some g → p.2.2.1.ownBlock ≠ some g) ∧ ∀ g, q.2.2.2.ownBlock = some g → p.2.2.2.ownBlock ≠ some g) (hg : W.grownBy W' rv.ownBlock)
    (ho : W'.ownsRow w.heap.size 48 5 rv' (lr.length + 1) (lr.flatMap roL ++ roL p)) : TS w b3 b6 b7 cmv crv mv rv' lm (lr ++ [p]) (W'.setCell ⟨b7, 1, none⟩ rv') := by
  have k1 : KeptT [48] [] W W' := KeptT.grown h.r hg (List.mem_singleton.2 rfl)
  have c1 : W'.heap[b7]? = some (.cells #[mv, rv] 33 (0, 0)) := k1.2 _ _ _ _ h.c (by decide) (by simp)
  have k2 : KeptT [48] [b7] W (W'.setCell ⟨b7, 1, none⟩ rv') := (k1.mono (fun _ h => h) (by simp)).trans ((KeptT.setCell (E := []) (List.mem_singleton.2 rfl) rv').mono (by simp) (fun _ h => h))
  have hl : ∀ b ∈ [b7], ∃ cs t fr, W.heap[b]? = some (.cells cs t fr) ∧ t ≠ 74 ∧ t ≠ 50 ∧ t ≠ 77 := by
    intro b hb
    rw [List.mem_singleton] at hb
    subst hb
    exact ⟨_, _, _, h.c, by decide, by decide, by decide⟩
  refine ⟨set_at (i := 1) c1 _, k2.2 _ _ _ _ h.x (by decide) (by simpa using h.o.2.2.2.1), k2.2 _ _ _ _ h.z (by decide) (by simpa using h.o.2.2.2.2.1), k2.own h.m (by decide) (own_off h.m h.c (by decide)), ?_, ?_, ?_, ?_, h.o⟩
  · rw [List.length_append, List.flatMap_append, List.flatMap_singleton]
    exact (KeptT.setCell (E := []) (List.mem_singleton.2 rfl) rv').own ho (by simp) (own_off ho c1 (by decide))
  · intro q hq
    rcases List.mem_append.1 hq with hq | hq
    · exact (h.rc q hq).kept k2 (by decide) hl
    · rw [List.mem_singleton] at hq
      subst hq
      exact hp.kept k2 (by decide) hl
  · rw [List.pairwise_append]
    refine ⟨h.d, List.pairwise_singleton .., fun q hq r hr => ?_⟩
    rw [List.mem_singleton] at hr
    subst hr
    exact hd q hq
  · exact (own_up h.r hg h.b).setCell h.o.2.2.1 _
/-- The maps. -/
theorem TS.addMaps {mv' : Value} (h : TS w b3 b6 b7 cmv crv (.slice none 0 0) rv [] lr W) (hg : W.grownBy W' none)
    (ho : W'.ownsRow w.heap.size 57 3 mv' (0 + lm.length) ([] ++ lm.flatMap mpL)) : TS w b3 b6 b7 cmv crv mv' rv lm lr (W'.setCell ⟨b7, 0, none⟩ mv') := by
  have q : Below W.heap.size W W' := ⟨hg.os, hg.tape, hg.output, hg.size, fun k hk => hg.block k hk (by simp)⟩
  have h' := h.below q
  have k2 : KeptT [] [b7] W' (W'.setCell ⟨b7, 0, none⟩ mv') := KeptT.setCell (List.mem_singleton.2 rfl) mv'
  have hl : ∀ b ∈ [b7], ∃ cs t fr, W'.heap[b]? = some (.cells cs t fr) ∧ t ≠ 74 ∧ t ≠ 50 ∧ t ≠ 77 := by
    intro b hb
    rw [List.mem_singleton] at hb
    subst hb
    exact ⟨_, _, _, h'.c, by decide, by decide, by decide⟩
  rw [Nat.zero_add, List.nil_append] at ho
  exact ⟨set_at (i := 0) h'.c _, k2.2 _ _ _ _ h'.x (by simp) (by simpa using h.o.2.2.2.1), k2.2 _ _ _ _ h'.z (by simp) (by simpa using h.o.2.2.2.2.1), k2.own ho (by simp) (own_off ho h'.c (by decide)), k2.own h'.r (by simp) (own_off h'.r h'.c (by decide)), fun p hp => (h'.rc p hp).kept k2 (by simp) hl, h.d, h'.b.setCell h.o.2.2.1 _, h.o⟩
end
/-- A row stays where another thing's cell is written. -/
theorem own_put {W W' : World} {B e z n b9 t i : Nat} {v x : Value} {xs : List Value} {cs : Array Value} (h : W.ownsRow B e z v n xs) (q : Below W.heap.size W W') (hb : W.heap[b9]? = some (.cells cs t (0, 0))) (ht : t ≠ e) : (W'.setCell ⟨b9, i, none⟩ x).ownsRow B e z v n xs := by
  have h' := own_bel h q
  exact (KeptT.setCell (E := []) (List.mem_singleton.2 rfl) x).own h' (by simp) (own_off h' (pf_block q hb) ht)
/-- The router that is made, in its box. -/
structure QS (V : World) (b9 : Nat) (nm : ByteArray) (nv lv sv : Value) (pl : Int) (W : World) : Prop where
  c : W.heap[b9]? = some (.cells #[.string nm, nv, lv, sv, .int .i64 pl] 48 (0, 0))
  b : Below V.heap.size V W
  o : V.heap.size ≤ b9
theorem grown_bel {W W' : World} (h : W.grownBy W' none) : Below W.heap.size W W' := ⟨h.os, h.tape, h.output, h.size, fun k hk => h.block k hk (by simp)⟩
section
variable {V W W' : World} {b9 : Nat} {nm : ByteArray} {nv lv sv x : Value} {pl : Int}
theorem QS.below (h : QS V b9 nm nv lv sv pl W) (q : Below W.heap.size W W') : QS V b9 nm nv lv sv pl W' := ⟨pf_block q h.c, bel_up h.b q h.b.size, h.o⟩
theorem QS.setN (h : QS V b9 nm nv lv sv pl W) : QS V b9 nm x lv sv pl (W.setCell ⟨b9, 1, none⟩ x) := ⟨set_at (i := 1) h.c _, h.b.setCell h.o _, h.o⟩
theorem QS.setL (h : QS V b9 nm nv lv sv pl W) : QS V b9 nm nv x sv pl (W.setCell ⟨b9, 2, none⟩ x) := ⟨set_at (i := 2) h.c _, h.b.setCell h.o _, h.o⟩
theorem QS.setS (h : QS V b9 nm nv lv sv pl W) : QS V b9 nm nv lv x pl (W.setCell ⟨b9, 3, none⟩ x) := ⟨set_at (i := 3) h.c _, h.b.setCell h.o _, h.o⟩
theorem QS.setP {p' : Int} (h : QS V b9 nm nv lv sv pl W) : QS V b9 nm nv lv sv p' (W.setCell ⟨b9, 4, none⟩ (.int .i64 p')) := ⟨set_at (i := 4) h.c _, h.b.setCell h.o _, h.o⟩
/-- A cell of the links' row is written. -/
theorem QS.row {g j e z n cap : Nat} {xs : List Value} (h : QS V b9 nm nv lv sv pl W) (ho : W.ownsRow V.heap.size e z (.slice (some ⟨g, 0, none⟩) n cap) n xs) (he : 48 ≠ e) : QS V b9 nm nv lv sv pl (W.setCell ⟨g, j, none⟩ x) := by
  obtain ⟨cur, hg, hge⟩ : ∃ cur, W.heap[g]? = some (.cells cur e (0, 0)) ∧ V.heap.size ≤ g := by
    rcases ho.2 with ⟨h0, _⟩ | ⟨g', cap', cur, h1, h2, h3, _⟩
    · cases h0
    · injection h1 with h1 _ _
      injection h1 with h1
      injection h1 with h1 _ _
      subst h1
      exact ⟨cur, h3, h2⟩
  refine ⟨set_off h.c (fun e1 => ?_) _, h.b.setCell hge _, h.o⟩
  have := h.c
  rw [e1, hg] at this
  injection this with this
  injection this with _ this _
  exact he this.symm
end
/-- What routers hold, in rows with room. -/
def RoOk (W : World) (p : RoV) : Prop :=
  SliceAt W.heap.size 2 (PfAt W) p.2.1 p.1.nets ∧ SliceAt W.heap.size 5 (LkAt W) p.2.2.1 p.1.lks ∧ SliceAt W.heap.size 4 (StAt W) p.2.2.2 p.1.sts ∧ CapV p.2.1 p.1.nets.length ∧ CapV p.2.2.1 p.1.lks.length ∧ CapV p.2.2.2 p.1.sts.length
theorem own_capV {W : World} {B e z n : Nat} {v : Value} {xs : List Value} (h : W.ownsRow B e z v n xs) : CapV v n := by
  rcases h.2 with ⟨rfl, rfl⟩ | ⟨g, cap, cur, rfl, _, _, h4, _⟩
  · exact ⟨none, 0, rfl, Nat.le_refl _⟩
  · exact ⟨_, cap, rfl, h4⟩
theorem Rows3.ok {W : World} {B : Nat} {p : RoV} (h : Rows3 W B p) (hl : p.1.nets.length ≤ 9223372036854775807 ∧ p.1.lks.length ≤ 9223372036854775807 ∧ p.1.sts.length ≤ 9223372036854775807) : RoOk W p :=
  ⟨slice_of_own pfL (fun _ => rfl) (fun _ _ _ _ h => pfL_at h) hl.1 h.1, slice_of_own lkL (fun _ => rfl) (fun _ _ _ _ h => lkL_at h) hl.2.1 h.2.1, slice_of_own stL (fun _ => rfl) (fun _ _ _ _ h => stL_at h) hl.2.2 h.2.2, own_capV h.1, own_capV h.2.1, own_capV h.2.2⟩
theorem roC_of {W : World} {b o : Nat} {p : RoV} (h : RoOk W p) (hc : ∀ j u, (roL p)[j]? = some u → W.cell? ⟨b, o + j, none⟩ = some u) : RoC W W.heap.size b o p.1 :=
  ⟨p.2.1, p.2.2.1, p.2.2.2, hc 0 _ rfl, hc 1 _ rfl, hc 2 _ rfl, hc 3 _ rfl, hc 4 _ rfl, h.1, h.2.1, h.2.2.1, h.2.2.2⟩
/-- A configuration whose rows a call made. -/
theorem cfC_of {w W : World} {mv rv : Value} {lm : List MpV} {lr : List RoV} (hm : W.ownsRow w.heap.size 57 3 mv lm.length (lm.flatMap mpL)) (hc : ∀ p ∈ lm, SliceAt w.heap.size 10 (ClAt w) p.2 p.1.cls) (q : Below w.heap.size w W)
    (hr : W.ownsRow w.heap.size 48 5 rv lr.length (lr.flatMap roL)) (hrc : ∀ p ∈ lr, RoOk W p) (hl : lm.length ≤ 9223372036854775807 ∧ lr.length ≤ 9223372036854775807) :
    CfC W W.heap.size (.agg #[mv, rv]) ⟨lm.map (·.1), lr.map (·.1)⟩ := by
  refine ⟨mv, rv, rfl, slice_fst (slice_of_own2 mpL (fun _ => rfl) (fun b o p hp _ hcl => ?_) hl.1 hm), slice_fst (slice_of_own2 roL (fun _ => rfl) (fun b o p hp _ hcl => roC_of (hrc p hp) hcl) hl.2 hr), ?_, ?_⟩
  · exact ⟨p.2, hcl 0 _ rfl, hcl 1 _ rfl, hcl 2 _ rfl, (hc p hp).mono q.size fun _ _ _ hb h => h.keep hb (cells_below q (Nat.le_refl _))⟩
  · dsimp only
    rw [List.length_map]
    exact own_capV hm
  · dsimp only
    rw [List.length_map]
    exact own_capV hr
end Go.Proofs.YtcjdjifooaeomaaDoor
namespace Go.Proofs.YtcjdjifooaeomaaDoor
open Go.RowKit Go.Lib

/-- Links that are the call's own, from the first or from the second on. -/
def OwnL (W : World) (B : Nat) (v : Value) (l : List LkD) : Prop :=
  W.ownsRow B 50 5 v l.length (l.flatMap lkL) ∨ (l = [] ∧ ∃ ad cap, v = .slice ad 0 cap) ∨ ∃ g cap a, v = .slice (some ⟨g, 5, none⟩) l.length (cap - 1) ∧ W.ownsRow B 50 5 (.slice (some ⟨g, 0, none⟩) (l.length + 1) cap) (l.length + 1) ((a :: l).flatMap lkL)
theorem OwnL.kept {W W' : World} {B : Nat} {v : Value} {l : List LkD} {E L : List Nat} (h : OwnL W B v l) (k : KeptT E L W W') (he : 50 ∉ E) (hl : ∀ b ∈ L, ∃ cs t fr, W.heap[b]? = some (.cells cs t fr) ∧ t ≠ 50) : OwnL W' B v l := by
  rcases h with h | h | ⟨g, cap, a, e, h⟩
  · refine .inl (k.own h he fun g hg hgl => ?_)
    obtain ⟨cs, t, fr, h1, h2⟩ := hl g hgl
    exact own_off h h1 h2 g hg (List.mem_singleton.2 rfl)
  · exact .inr (.inl h)
  · refine .inr (.inr ⟨g, cap, a, e, k.own h he fun g hg hgl => ?_⟩)
    obtain ⟨cs, t, fr, h1, h2⟩ := hl g hgl
    exact own_off h h1 h2 g hg (List.mem_singleton.2 rfl)
theorem OwnL.at {W : World} {B : Nat} {v : Value} {l : List LkD} (h : OwnL W B v l) (hl : l.length ≤ 1000000) : SliceAt W.heap.size 5 (LkAt W) v l ∧ CapV v l.length := by
  rcases h with h | ⟨rfl, ad, cap, rfl⟩ | ⟨g, cap, a, rfl, h⟩
  rotate_left
  · exact ⟨⟨ad, cap, rfl, by simp, fun i x hx => by simp at hx⟩, ⟨ad, cap, rfl, by simp⟩⟩
  rotate_left
  · exact ⟨slice_of_own lkL (fun _ => rfl) (fun _ _ _ _ h => lkL_at h) (by omega) h, own_capV h⟩
  · obtain ⟨ad, cp, e, _, hs⟩ := slice_of_own (l := a :: l) lkL (fun _ => rfl) (el := LkAt W) (fun _ _ _ _ h => lkL_at h) (by rw [List.length_cons]; omega) (by rw [List.length_cons]; exact h)
    have hc : l.length + 1 ≤ cap := by
      obtain ⟨a', c', e', h'⟩ := own_capV h
      injection e' with _ _ e'
      omega
    refine ⟨⟨_, _, rfl, by omega, fun i x hx => ?_⟩, ⟨_, _, rfl, by omega⟩⟩
    obtain ⟨b, off, e1, hb, hx'⟩ := hs (i + 1) x (by simpa using hx)
    injection e with e _ _
    rw [← e] at e1
    injection e1 with e1
    injection e1 with e2 e3 _
    subst e2 e3
    exact ⟨g, 5, rfl, hb, by rw [show 5 + i * 5 = 0 + (i + 1) * 5 by omega]; exact hx'⟩
/-- A router's rows behind all. -/
def RowsF (W : World) (B : Nat) (p : RoV) : Prop :=
  W.ownsRow B 74 2 p.2.1 p.1.nets.length (p.1.nets.flatMap pfL) ∧ OwnL W B p.2.2.1 p.1.lks ∧ W.ownsRow B 77 4 p.2.2.2 p.1.sts.length (p.1.sts.flatMap stL)
theorem Rows3.f {W : World} {B : Nat} {p : RoV} (h : Rows3 W B p) : RowsF W B p := ⟨h.1, .inl h.2.1, h.2.2⟩
theorem RowsF.kept {W W' : World} {B : Nat} {p : RoV} {E L : List Nat} (h : RowsF W B p) (k : KeptT E L W W') (he : 74 ∉ E ∧ 50 ∉ E ∧ 77 ∉ E) (hl : ∀ b ∈ L, ∃ cs t fr, W.heap[b]? = some (.cells cs t fr) ∧ t ≠ 74 ∧ t ≠ 50 ∧ t ≠ 77) : RowsF W' B p := by
  refine ⟨k.own h.1 he.1 fun g hg hgl => ?_, h.2.1.kept k he.2.1 fun b hb => ?_, k.own h.2.2 he.2.2 fun g hg hgl => ?_⟩
  · obtain ⟨cs, t, fr, h1, h2, _⟩ := hl g hgl
    exact own_off h.1 h1 h2 g hg (List.mem_singleton.2 rfl)
  · obtain ⟨cs, t, fr, h1, _, h2, _⟩ := hl b hb
    exact ⟨cs, t, fr, h1, h2⟩
  · obtain ⟨cs, t, fr, h1, _, _, h2⟩ := hl g hgl
    exact own_off h.2.2 h1 h2 g hg (List.mem_singleton.2 rfl)
theorem RowsF.ok {W : World} {B : Nat} {p : RoV} (h : RowsF W B p) (hl : p.1.nets.length ≤ 1000000 ∧ p.1.lks.length ≤ 1000000 ∧ p.1.sts.length ≤ 1000000) : RoOk W p :=
  ⟨slice_of_own pfL (fun _ => rfl) (fun _ _ _ _ h => pfL_at h) (by omega) h.1, (h.2.1.at hl.2.1).1, slice_of_own stL (fun _ => rfl) (fun _ _ _ _ h => stL_at h) (by omega) h.2.2, own_capV h.1, (h.2.1.at hl.2.1).2, own_capV h.2.2⟩
/-- What lies behind all. -/
structure EndS (w : World) (b6 b7 : Nat) (mv rv : Value) (lm : List MpV) (lr : List RoV) (W : World) : Prop where
  c : W.heap[b7]? = some (.cells #[mv, rv] 33 (0, 0))
  z : W.heap[b6]? = some (.cells #[.slice none 0 0, .slice none 0 0] 33 (0, 0))
  m : W.ownsRow w.heap.size 57 3 mv lm.length (lm.flatMap mpL)
  r : W.ownsRow w.heap.size 48 5 rv lr.length (lr.flatMap roL)
  rc : ∀ p ∈ lr, RowsF W w.heap.size p
  b : Below w.heap.size w W
  o : w.heap.size ≤ b6
theorem TS.f {w W : World} {b3 b6 b7 : Nat} {cmv crv mv rv : Value} {lm : List MpV} {lr : List RoV} (h : TS w b3 b6 b7 cmv crv mv rv lm lr W) : EndS w b6 b7 mv rv lm lr W :=
  ⟨h.c, h.z, h.m, h.r, fun p hp => (h.rc p hp).f, h.b, h.o.2.1⟩
theorem TS.drewN {w W : World} {b3 b6 b7 : Nat} {cmv crv mv rv : Value} {lm : List MpV} {lr : List RoV} (h : TS w b3 b6 b7 cmv crv mv rv lm lr W) (n : Nat) : TS w b3 b6 b7 cmv crv mv rv lm lr (W.drewN n) := ⟨h.c, h.x, h.z, h.m, h.r, h.rc, h.d, bel_drewN h.b n, h.o⟩
theorem EndS.drewN {w W : World} {b6 b7 : Nat} {mv rv : Value} {lm : List MpV} {lr : List RoV} (h : EndS w b6 b7 mv rv lm lr W) (n : Nat) : EndS w b6 b7 mv rv lm lr (W.drewN n) := ⟨h.c, h.z, h.m, h.r, h.rc, bel_drewN h.b n, h.o⟩
/-- What is handed back. -/
theorem EndS.done {w W : World} {b6 b7 : Nat} {mv rv : Value} {lm : List MpV} {lr : List RoV} (h : EndS w b6 b7 mv rv lm lr W) (hc : ∀ p ∈ lm, SliceAt w.heap.size 10 (ClAt w) p.2 p.1.cls)
    (hl : lm.length ≤ 1000000 ∧ lr.length ≤ 1000000 ∧ ∀ p ∈ lr, p.1.nets.length ≤ 1000000 ∧ p.1.lks.length ≤ 1000000 ∧ p.1.sts.length ≤ 1000000) {X : World} (hX : X = (W.setCell ⟨b6, 0, none⟩ mv).setCell ⟨b6, 1, none⟩ rv) :
    CfC X X.heap.size (.agg #[mv, rv]) ⟨lm.map (·.1), lr.map (·.1)⟩ ∧ Below w.heap.size w X ∧ X.cell? ⟨b6, 0, none⟩ = some mv ∧ X.cell? ⟨b6, 1, none⟩ = some rv := by
  have e1 := set_at (i := 0) h.z mv
  have e2 : X.heap[b6]? = some (.cells #[mv, rv] 33 (0, 0)) := by rw [hX]; exact set_at (i := 1) e1 rv
  have k : KeptT [] [b6] W X := by rw [hX]; exact (KeptT.setCell (List.mem_singleton.2 rfl) mv).trans (KeptT.setCell (List.mem_singleton.2 rfl) rv)
  have q : Below w.heap.size w X := by rw [hX]; exact (h.b.setCell h.o _).setCell h.o _
  have hbk : ∀ b ∈ [b6], ∃ cs t fr, W.heap[b]? = some (.cells cs t fr) ∧ t ≠ 74 ∧ t ≠ 50 ∧ t ≠ 77 := by
    intro b hb
    rw [List.mem_singleton] at hb
    subst hb
    exact ⟨_, _, _, h.z, by decide, by decide, by decide⟩
  obtain ⟨c0, c1⟩ := cells_two e2
  refine ⟨cfC_of (k.own h.m (by simp) (own_off h.m h.z (by decide))) hc q (k.own h.r (by simp) (own_off h.r h.z (by decide))) (fun p hp => ((h.rc p hp).kept k (by simp) hbk).ok (hl.2.2 p hp)) (by omega), q, c0, c1⟩
theorem roL_len (p : RoV) : (roL p).length = 5 := rfl
/-- One thing of a flat row is turned. -/
theorem flat_set {α : Type} (f : α → List Value) (z : Nat) (hz : ∀ x, (f x).length = z) : ∀ (l : List α) (i j : Nat) (x x' : α) (u : Value), l[i]? = some x → j < z → f x' = (f x).set j u → (l.flatMap f).set (i * z + j) u = (l.set i x').flatMap f
  | [], i, j, x, x', u, h, _, _ => by simp at h
  | a :: l, 0, j, x, x', u, h, hj, hf => by
    obtain rfl : a = x := by simpa using h
    rw [List.set_cons_zero, List.flatMap_cons, List.flatMap_cons, Nat.zero_mul, Nat.zero_add, List.set_append_left _ _ (by rw [hz]; exact hj), hf]
  | a :: l, i + 1, j, x, x', u, h, hj, hf => by
    rw [List.set_cons_succ, List.flatMap_cons, List.flatMap_cons, List.set_append_right _ _ (by rw [hz, Nat.add_mul]; omega), hz]
    rw [show (i + 1) * z + j - z = i * z + j by rw [Nat.add_mul]; omega, flat_set f z hz l i j x x' u (by simpa using h) hj hf]
theorem row_block {W : World} {B e z n : Nat} {g cap : Nat} {xs : List Value} (h : W.ownsRow B e z (.slice (some ⟨g, 0, none⟩) n cap) n xs) : ∃ cur, W.heap[g]? = some (.cells cur e (0, 0)) ∧ B ≤ g := by
  rcases h.2 with ⟨h0, _⟩ | ⟨g', cap', cur, h1, h2, h3, _⟩
  · cases h0
  · injection h1 with h1 _ _
    injection h1 with h1
    injection h1 with h1 _ _
    subst h1
    exact ⟨cur, h3, h2⟩
theorem mem_set' {α : Type} {l : List α} {i : Nat} {a x : α} (h : x ∈ l.set i a) : x = a ∨ ∃ j, j ≠ i ∧ l[j]? = some x := by
  obtain ⟨j, hj⟩ := List.getElem?_of_mem h
  rw [List.getElem?_set] at hj
  split at hj
  · split at hj
    · exact .inl (Option.some.inj hj).symm
    · cases hj
  · rename_i hne
    exact .inr ⟨j, fun e => hne e.symm, hj⟩
section
variable {w W W1 : World} {b3 b6 b7 : Nat} {cmv crv mv : Value} {lm : List MpV} {lr : List RoV} {gr n cap : Nat}
/-- A router's cell is turned. -/
theorem TS.fin (h : TS w b3 b6 b7 cmv crv mv (.slice (some ⟨gr, 0, none⟩) n cap) lm lr W) (hn : n = lr.length) {i : Nat} {p : RoV} (hi : lr[i]? = some p) {E : List Nat} (K : KeptT E [] W W1) (hE : 33 ∉ E ∧ 57 ∉ E ∧ 48 ∉ E) (hb : Below w.heap.size w W1)
    (ho : ∀ l q, l ≠ i → lr[l]? = some q → Rows3 W1 w.heap.size q) {p' : RoV} {j : Nat} {x : Value} (hj : j < 5) (hp : roL p' = (roL p).set j x) (hp' : RowsF W1 w.heap.size p') :
    EndS w b6 b7 mv (.slice (some ⟨gr, 0, none⟩) n cap) lm (lr.set i p') (W1.setCell ⟨gr, i * 5 + j, none⟩ x) := by
  have hr := h.r
  rw [← hn] at hr
  have hr1 := K.own hr hE.2.2 (by simp)
  obtain ⟨cur, hg, hge⟩ := row_block hr1
  have K2 : KeptT [] [gr] W1 (W1.setCell ⟨gr, i * 5 + j, none⟩ x) := KeptT.setCell (List.mem_singleton.2 rfl) _
  have hcf : ∀ (b : Nat) (cs : Array Value), W.heap[b]? = some (.cells cs 33 (0, 0)) → (W1.setCell ⟨gr, i * 5 + j, none⟩ x).heap[b]? = some (.cells cs 33 (0, 0)) := fun b cs hb0 => by
    have h1 := K.2 _ _ _ _ hb0 hE.1 (by simp)
    refine K2.2 _ _ _ _ h1 (by simp) fun hm => ?_
    rw [List.mem_singleton] at hm
    rw [hm, hg] at h1
    injection h1 with h1
    injection h1 with _ h1 _
    exact absurd h1 (by decide)
  have hbk : ∀ b ∈ [gr], ∃ cs t fr, W1.heap[b]? = some (.cells cs t fr) ∧ t ≠ 74 ∧ t ≠ 50 ∧ t ≠ 77 := by
    intro b hb
    rw [List.mem_singleton] at hb
    subst hb
    exact ⟨_, _, _, hg, by decide, by decide, by decide⟩
  have hm1 := K.own h.m hE.2.1 (by simp)
  refine ⟨hcf _ _ h.c, hcf _ _ h.z, K2.own hm1 (by simp) (own_off hm1 hg (by decide)), ?_, fun q hq => ?_, hb.setCell hge _, h.o.2.1⟩
  · obtain ⟨hs, _⟩ := hr1.stored (i * 5 + j) x
    rw [flat_set roL 5 roL_len lr i j p p' x hi hj hp] at hs
    rw [List.length_set, ← hn]
    exact hs
  · rcases mem_set' hq with rfl | ⟨l, hl, hl2⟩
    · exact hp'.kept K2 (by simp) hbk
    · exact (ho l q hl hl2).f.kept K2 (by simp) hbk
/-- No cell of the routers' row is turned. -/
theorem TS.fin0 (h : TS w b3 b6 b7 cmv crv mv (.slice (some ⟨gr, 0, none⟩) n cap) lm lr W) {i : Nat} {p : RoV} (hi : lr[i]? = some p) {g j : Nat} {x : Value} {cur : Array Value} (hg : W.heap[g]? = some (.cells cur 50 (0, 0))) (hge : w.heap.size ≤ g)
    (ho : ∀ l q, l ≠ i → lr[l]? = some q → Rows3 (W.setCell ⟨g, j, none⟩ x) w.heap.size q) {p' : RoV} (hp : roL p' = roL p) (hp' : RowsF (W.setCell ⟨g, j, none⟩ x) w.heap.size p') :
    EndS w b6 b7 mv (.slice (some ⟨gr, 0, none⟩) n cap) lm (lr.set i p') (W.setCell ⟨g, j, none⟩ x) := by
  have K2 : KeptT [] [g] W (W.setCell ⟨g, j, none⟩ x) := KeptT.setCell (List.mem_singleton.2 rfl) _
  have hcf : ∀ (b : Nat) (cs : Array Value), W.heap[b]? = some (.cells cs 33 (0, 0)) → (W.setCell ⟨g, j, none⟩ x).heap[b]? = some (.cells cs 33 (0, 0)) := fun b cs h1 => by
    refine K2.2 _ _ _ _ h1 (by simp) fun hm => ?_
    rw [List.mem_singleton] at hm
    rw [hm, hg] at h1
    injection h1 with h1
    injection h1 with _ h1 _
    exact absurd h1 (by decide)
  refine ⟨hcf _ _ h.c, hcf _ _ h.z, K2.own h.m (by simp) (own_off h.m hg (by decide)), ?_, fun q hq => ?_, h.b.setCell hge _, h.o.2.1⟩
  · have hr := K2.own h.r (by simp) (own_off h.r hg (by decide))
    have e : (lr.set i p').flatMap roL = lr.flatMap roL := by
      have := flat_set roL 5 roL_len lr i 0 p p' (.string ⟨p.1.name.toArray⟩) hi (by omega) (by rw [hp]; rfl)
      rw [← this]
      refine List.ext_getElem? fun k => ?_
      rw [List.getElem?_set]
      split
      · rename_i hk
        subst hk
        have := flat_at roL 5 roL_len lr i 0 p hi (by omega)
        split
        · rw [this]; rfl
        · rename_i hlt
          rw [List.getElem?_eq_none_iff.2 (by omega)]
      · rfl
    rw [e, List.length_set]
    exact hr
  · rcases mem_set' hq with rfl | ⟨l, hl, hl2⟩
    · exact hp'
    · exact (ho l q hl hl2).f
end
theorem spoil_eq {c : CfD} {lm : List MpV} {lr : List RoV} {i how which : Nat} {p p' f : RoV} (hm : lm.map (·.1) = c.maps) (hl : lr.map (·.1) = placeR 0 c.ros) (hp : lr[i]? = some p) (hi : i = which % lr.length) (h0 : lr[0]? = some f) (he : p'.1 = spoilR f.1.name how which p.1) :
    (⟨lm.map (·.1), (lr.set i p').map (·.1)⟩ : CfD) = spoilC c how which := by
  have hd : (placeR 0 c.ros).head? = some f.1 := by
    rw [← hl, List.head?_map, List.head?_eq_getElem?, h0]
    rfl
  have hlen : (placeR 0 c.ros).length = lr.length := by rw [← hl, List.length_map]
  unfold spoilC
  dsimp only
  rw [hd]
  dsimp only
  rw [hm, hlen, ← hi, ← hl, List.map_set, he]
  congr 1
  refine List.ext_getElem? fun j => ?_
  rw [List.getElem?_modify, List.getElem?_set, List.getElem?_map, List.length_map]
  have hlt := (List.getElem?_eq_some_iff.1 hp).1
  by_cases hj : i = j
  · subst hj
    rw [if_pos rfl, if_pos hlt, hp]
    simp
  · rw [if_neg hj]
    cases lr[j]? <;> simp [hj]
theorem spoil_none {c : CfD} {lm : List MpV} {how which : Nat} (hm : lm.map (·.1) = c.maps) (h : c.ros = []) : (⟨lm.map (·.1), []⟩ : CfD) = spoilC c how which := by
  unfold spoilC
  rw [h, hm]
  rfl
theorem len_of {c : CfD} {N : Nat} (hN : N ≤ 100000) (hle : c.le N) {lm : List MpV} {lr : List RoV} {how which : Nat} (h : (⟨lm.map (·.1), lr.map (·.1)⟩ : CfD) = spoilC c how which) :
    lm.length ≤ 1000000 ∧ lr.length ≤ 1000000 ∧ ∀ p ∈ lr, p.1.nets.length ≤ 1000000 ∧ p.1.lks.length ≤ 1000000 ∧ p.1.sts.length ≤ 1000000 := by
  have h1 := spoil_le hle how which
  rw [← h] at h1
  have h2 := h1.m
  have h3 := h1.r
  rw [List.length_map] at h2 h3
  refine ⟨by omega, by omega, fun p hp => ?_⟩
  have := h1.n p.1 (List.mem_map_of_mem hp)
  omega
end Go.Proofs.YtcjdjifooaeomaaDoor
