/- Sets: maps whose keys are names, pairs of names, prefixes. -/
import Derived.Test.YtcjdjifooaeomaaDoorA
import Derived.Test.YtcjdjifooaeomaaDoorVB
import Derived.Test.YtcjdjifooaeomaaDoorHM
import Derived.Test.YtcjdjifooaeomaaDoorCA
import Derived.StringKeys
namespace Go.Proofs.YtcjdjifooaeomaaDoor
open Go.RowKit Go.Maps Go.Lib Go.WideMaps

theorem laidOutD : laidOutB Tryd.prog = true := by kernel_rfl
theorem wideDP : (match Tryd.prog.underlying 91 with | some (.array _ _) | some (.struct _) => true | _ => false) = true := by kernel_rfl
theorem rowDP : (91 : TypeId) < Tryd.prog.types.size := of_decide_eq_true (by kernel_rfl)
set_option maxRecDepth 100000 in
theorem lawDP : Keyed Tryd.prog 91 := Keyed.of_law (deep_law_laid laidOutD (m := 2) (by omega) rowDP (by kernel_rfl) wideDP)
theorem keyTypeDP : Tryd.prog.keyType 91 = true := by kernel_rfl
theorem cellsDP : Tryd.prog.cellsOf 91 = 2 := by kernel_rfl
theorem wideDF : (match Tryd.prog.underlying 74 with | some (.array _ _) | some (.struct _) => true | _ => false) = true := by kernel_rfl
theorem rowDF : (74 : TypeId) < Tryd.prog.types.size := of_decide_eq_true (by kernel_rfl)
set_option maxRecDepth 100000 in
theorem lawDF : Keyed Tryd.prog 74 := Keyed.of_law (deep_law_laid laidOutD (m := 2) (by omega) rowDF (by kernel_rfl) wideDF)
theorem keyTypeDF : Tryd.prog.keyType 74 = true := by kernel_rfl
theorem cellsDF : Tryd.prog.cellsOf 74 = 2 := by kernel_rfl
theorem lawDS : Keyed Tryd.prog 9 := string_keyed Tryd.underlying9
theorem cellsDS : Tryd.prog.cellsOf 9 = 1 := by kernel_rfl
theorem cellsDU : Tryd.prog.cellsOf 72 = 1 := by kernel_rfl
theorem cellsDI : Tryd.prog.cellsOf 3 = 1 := by kernel_rfl

def nmKey (l : Bs) : Value := .string ⟨l.toArray⟩
def prKey (p : Bs × Bs) : Value := .agg #[.string ⟨p.1.toArray⟩, .string ⟨p.2.toArray⟩]
def pxKey (p : Nat × Int) : Value := .agg #[.int .u32 p.1, .int .i64 p.2]
def NmOk (l : Bs) : Prop := l.length ≤ 9223372036854775807
def PfOk (p : Nat × Int) : Prop := p.1 < 4294967296 ∧ -9223372036854775808 ≤ p.2 ∧ p.2 ≤ 9223372036854775807
theorem nmKey_inj {a b : Bs} (h : nmKey a = nmKey b) : a = b := by
  unfold nmKey at h
  injection h with h
  injection h with h
  injection h
theorem prKey_inj {a b : Bs × Bs} (h : prKey a = prKey b) : a = b := by
  unfold prKey at h
  simp at h
  exact Prod.ext h.1 h.2
theorem pxKey_inj {a b : Nat × Int} (h : pxKey a = pxKey b) : a = b := by
  unfold pxKey at h
  simp at h
  exact Prod.ext (by omega) h.2
theorem keyDS {l : Bs} (h : NmOk l) : ∃ k, keyOf Tryd.prog 9 (nmKey l) = some k :=
  ⟨_, keyOf_string_mk Tryd.underlying9 (s := ⟨l.toArray⟩) (by unfold maxLen; unfold NmOk at h; show l.toArray.size ≤ _; rw [List.size_toArray]; omega)⟩
theorem typesD : ∃ k, Tryd.prog.types.size = k + 1 := ⟨Tryd.prog.types.size - 1, by have : (0 : Nat) < Tryd.prog.types.size := Nat.lt_of_le_of_lt (Nat.zero_le _) rowDP; omega⟩
theorem keyDP {p : Bs × Bs} (h1 : NmOk p.1) (h2 : NmOk p.2) : ∃ k, keyOf Tryd.prog 91 (prKey p) = some k := by
  obtain ⟨a, b⟩ := p
  have hf : (prKey (a, b)).formed Tryd.prog 91 = true := by simp [prKey, Value.formed, Tryd.underlying91, cellsDP]
  have s1 : (⟨a.toArray⟩ : ByteArray).size ≤ maxLen := by unfold maxLen; unfold NmOk at h1; show a.toArray.size ≤ _; rw [List.size_toArray]; dsimp only at h1; omega
  have s2 : (⟨b.toArray⟩ : ByteArray).size ≤ maxLen := by unfold maxLen; unfold NmOk at h2; show b.toArray.size ≤ _; rw [List.size_toArray]; dsimp only at h2; omega
  obtain ⟨k, hk⟩ := typesD
  refine ⟨.string (keyBytes [.string a, .string b]), ?_⟩
  simp [keyOf, Tryd.underlying91, keyTypeDP, hf, hk]
  unfold Program.keyLits
  simp [Tryd.underlying91, cellsDP, prKey, Value.cells, cellsDS]
  unfold Program.keyLits
  simp [Tryd.underlying9, s1, s2]
theorem keyDF {p : Nat × Int} (h : PfOk p) : ∃ k, keyOf Tryd.prog 74 (pxKey p) = some k := by
  obtain ⟨a, b⟩ := p
  obtain ⟨h1, h2, h3⟩ := h
  dsimp only at h1 h2 h3
  have hf : (pxKey (a, b)).formed Tryd.prog 74 = true := by simp [pxKey, Value.formed, Tryd.underlying74, cellsDF]
  have w1 : (Lit.int .u32 (a : Int)).wf = true := by
    have e1 : IntKind.u32.min = 0 := rfl
    have e2 : IntKind.u32.max = 4294967295 := rfl
    simp [Lit.wf, e1, e2]
    omega
  have w2 : (Lit.int .i64 b).wf = true := by
    have e1 : IntKind.i64.min = -9223372036854775808 := rfl
    have e2 : IntKind.i64.max = 9223372036854775807 := rfl
    simp [Lit.wf, e1, e2]
    omega
  obtain ⟨k, hk⟩ := typesD
  refine ⟨.string (keyBytes [.int .u32 a, .int .i64 b]), ?_⟩
  simp [keyOf, Tryd.underlying74, keyTypeDF, hf, hk]
  unfold Program.keyLits
  simp [Tryd.underlying74, cellsDF, pxKey, Value.cells, cellsDU, cellsDI]
  unfold Program.keyLits
  simp [Tryd.underlying72, Tryd.underlying3, w1, w2]

/-- Block m is a map whose keys are just these. -/
def SetIs {α : Type} (f : α → Value) (ok : α → Prop) (w : World) (m : Nat) (S : α → Prop) : Prop :=
  ∃ L : List α, mapIs w m (L.map fun a => (f a, .agg #[])) ∧ (∀ a, a ∈ L ↔ S a) ∧ ∀ a ∈ L, ok a
section
variable {α : Type} {f : α → Value} {ok : α → Prop} {w w' : World} {m : Nat} {S : α → Prop}
theorem SetIs.lt (h : SetIs f ok w m S) : m < w.heap.size := by
  obtain ⟨L, ⟨es, c, hm, _⟩, _⟩ := h
  exact (Array.getElem?_eq_some_iff.1 hm).1
theorem SetIs.same (h : SetIs f ok w m S) (e : w'.heap[m]? = w.heap[m]?) : SetIs f ok w' m S := by
  obtain ⟨L, ⟨es, c, k1, k2⟩, h2⟩ := h
  exact ⟨L, ⟨es, c, e.trans k1, k2⟩, h2⟩
theorem SetIs.below (h : SetIs f ok w m S) (q : Below w.heap.size w w') : SetIs f ok w' m S := h.same (q.block m h.lt)
theorem SetIs.iff {S' : α → Prop} (h : SetIs f ok w m S) (e : ∀ a, S a ↔ S' a) : SetIs f ok w m S' := by
  obtain ⟨L, h1, h2, h3⟩ := h
  exact ⟨L, h1, fun a => (h2 a).trans (e a), h3⟩
theorem set_new (w : World) : SetIs f ok (w.alloc (.map #[] 0)) w.heap.size (fun _ => False) :=
  ⟨[], ⟨#[], 0, (MapKept.heap_alloc w _).1, rfl⟩, fun _ => by simp, fun _ h => by cases h⟩
theorem SetIs.look {P : Program} {k e t : TypeId} (K : Keyed P k) (ht : P.underlying t = some (.map k e)) {z : Value} (hz : (zeroValue e).run P w = .ok z w) (hf : ∀ a b, f a = f b → a = b) (hk : ∀ a, ok a → ∃ l, keyOf P k (f a) = some l)
    (h : SetIs f ok w m S) (hzu : z = .agg #[]) {a : α} (ha : ok a) {b : Bool} (hb : b = true ↔ S a) : (Instr.lookup t (.map (some m)) (f a) true).run P w = .ok (.tuple #[.agg #[], .bool b]) w := by
  obtain ⟨L, h1, h2, h3⟩ := h
  subst hzu
  obtain ⟨kl, hkl⟩ := hk a ha
  have hks : ∀ x ∈ L.map (fun a => (f a, Value.agg #[])), ∃ l, keyOf P k x.1 = some l := by
    intro x hx
    obtain ⟨y, hy, rfl⟩ := List.mem_map.1 hx
    exact hk y (h3 y hy)
  rcases h1.look K ht hz hks hkl with ⟨e1, e2⟩ | ⟨x, hx, e1, e2⟩
  · have : b = false := by
      cases b with
      | false => rfl
      | true => exact absurd rfl (e2 _ (List.mem_map.2 ⟨a, (h2 a).2 (hb.1 rfl), rfl⟩))
    rw [this]
    exact e1
  · obtain ⟨y, hy, rfl⟩ := List.mem_map.1 hx
    have hya := hf y a e1
    subst hya
    rw [hb.2 ((h2 y).1 hy)]
    exact e2
theorem SetIs.put {P : Program} {k e t : TypeId} (K : Keyed P k) (ht : P.underlying t = some (.map k e)) (hf : ∀ a b, f a = f b → a = b) (hk : ∀ a, ok a → ∃ l, keyOf P k (f a) = some l)
    (h : SetIs f ok w m S) {a : α} (ha : ok a) (hn : ¬ S a) : ∃ w', (Instr.mapUpdate t (.map (some m)) (f a) (.agg #[])).run P w = .ok () w' ∧ SetIs f ok w' m (fun x => S x ∨ x = a) ∧ BelX m w w' := by
  obtain ⟨L, h1, h2, h3⟩ := h
  obtain ⟨kl, hkl⟩ := hk a ha
  have hks : ∀ x ∈ L.map (fun a => (f a, Value.agg #[])), ∃ l, keyOf P k x.1 = some l := by
    intro x hx
    obtain ⟨y, hy, rfl⟩ := List.mem_map.1 hx
    exact hk y (h3 y hy)
  obtain ⟨w', e1, e2, g⟩ := h1.store K ht hks hkl (val := .agg #[]) (by
    intro x hx he
    obtain ⟨y, hy, rfl⟩ := List.mem_map.1 hx
    exact hn (hf y a he ▸ (h2 y).1 hy))
  refine ⟨w', e1, ⟨L ++ [a], by rw [List.map_append]; exact e2, fun x => ?_, fun x hx => ?_⟩, ⟨g.os, g.tape, g.output, g.size, fun i hi hne => g.block i hi (fun h => hne (by cases h; rfl))⟩⟩
  · rw [List.mem_append, List.mem_singleton, h2]
  · rcases List.mem_append.1 hx with hx | hx
    · exact h3 x hx
    · rw [List.mem_singleton.1 hx]; exact ha
end
theorem zeroDU (w : World) : (zeroValue 88).run Tryd.prog w = .ok (.agg #[]) w := by kernel_rfl
abbrev SetS := SetIs nmKey NmOk
abbrev SetP := SetIs prKey (fun p => NmOk p.1 ∧ NmOk p.2)
abbrev SetF := SetIs pxKey PfOk
section
variable {w : World} {m : Nat}
theorem lookS {S : Bs → Prop} (h : SetS w m S) {a : Bs} (ha : NmOk a) {b : Bool} (hb : b = true ↔ S a) : (Instr.lookup 60 (.map (some m)) (nmKey a) true).run Tryd.prog w = .ok (.tuple #[.agg #[], .bool b]) w :=
  h.look lawDS Tryd.underlying60 (zeroDU w) (fun _ _ => nmKey_inj) (fun _ => keyDS) rfl ha hb
theorem lookP {S : Bs × Bs → Prop} (h : SetP w m S) {a : Bs × Bs} (ha : NmOk a.1 ∧ NmOk a.2) {b : Bool} (hb : b = true ↔ S a) : (Instr.lookup 62 (.map (some m)) (prKey a) true).run Tryd.prog w = .ok (.tuple #[.agg #[], .bool b]) w :=
  h.look lawDP Tryd.underlying62 (zeroDU w) (fun _ _ => prKey_inj) (fun _ h => keyDP h.1 h.2) rfl ha hb
theorem lookF {S : Nat × Int → Prop} (h : SetF w m S) {a : Nat × Int} (ha : PfOk a) {b : Bool} (hb : b = true ↔ S a) : (Instr.lookup 115 (.map (some m)) (pxKey a) true).run Tryd.prog w = .ok (.tuple #[.agg #[], .bool b]) w :=
  h.look lawDF Tryd.underlying115 (zeroDU w) (fun _ _ => pxKey_inj) (fun _ => keyDF) rfl ha hb
theorem putS {S : Bs → Prop} (h : SetS w m S) {a : Bs} (ha : NmOk a) (hn : ¬ S a) : ∃ w', (Instr.mapUpdate 60 (.map (some m)) (nmKey a) (.agg #[])).run Tryd.prog w = .ok () w' ∧ SetS w' m (fun x => S x ∨ x = a) ∧ BelX m w w' :=
  h.put lawDS Tryd.underlying60 (fun _ _ => nmKey_inj) (fun _ => keyDS) ha hn
theorem putP {S : Bs × Bs → Prop} (h : SetP w m S) {a : Bs × Bs} (ha : NmOk a.1 ∧ NmOk a.2) (hn : ¬ S a) : ∃ w', (Instr.mapUpdate 62 (.map (some m)) (prKey a) (.agg #[])).run Tryd.prog w = .ok () w' ∧ SetP w' m (fun x => S x ∨ x = a) ∧ BelX m w w' :=
  h.put lawDP Tryd.underlying62 (fun _ _ => prKey_inj) (fun _ h => keyDP h.1 h.2) ha hn
theorem putF {S : Nat × Int → Prop} (h : SetF w m S) {a : Nat × Int} (ha : PfOk a) (hn : ¬ S a) : ∃ w', (Instr.mapUpdate 115 (.map (some m)) (pxKey a) (.agg #[])).run Tryd.prog w = .ok () w' ∧ SetF w' m (fun x => S x ∨ x = a) ∧ BelX m w w' :=
  h.put lawDF Tryd.underlying115 (fun _ _ => pxKey_inj) (fun _ => keyDF) ha hn
end
end Go.Proofs.YtcjdjifooaeomaaDoor
