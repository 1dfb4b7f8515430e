/- Lists that lie as slices. No program. -/
import Derived.Test.YtphhfjfdanlhiaaOW
import Derived.MapKept
import Derived.WalkKit
import Derived.Laws.AppendOwn
namespace Go.Proofs.Ytphhfjfdanlhiaa
open Go.RowKit

/-- A list that lies as a slice, below B, each thing of z cells. -/
def SliceAt {α : Type} (B z : Nat) (el : Nat → Nat → α → Prop) (v : Value) (l : List α) : Prop :=
  ∃ ad cap, v = .slice ad l.length cap ∧ l.length ≤ 9223372036854775807 ∧ ∀ i x, l[i]? = some x → ∃ b off, ad = some ⟨b, off, none⟩ ∧ b < B ∧ el b (off + i * z) x
theorem SliceAt.mono {α : Type} {B B' z : Nat} {el el' : Nat → Nat → α → Prop} {v : Value} {l : List α} (hB : B ≤ B') (h : SliceAt B z el v l) (he : ∀ b o x, b < B → el b o x → el' b o x) : SliceAt B' z el' v l := by
  obtain ⟨ad, cap, h1, h2, h3⟩ := h
  refine ⟨ad, cap, h1, h2, fun i x hx => ?_⟩
  obtain ⟨b, off, e1, e2, e3⟩ := h3 i x hx
  exact ⟨b, off, e1, Nat.lt_of_lt_of_le e2 hB, he b _ x e2 e3⟩
/-- Cells below B are as they were. -/
def Cells (B : Nat) (W W' : World) : Prop := ∀ b i v, b < B → W.cell? ⟨b, i, none⟩ = some v → W'.cell? ⟨b, i, none⟩ = some v
theorem cells_below {B B' : Nat} {W W' : World} (h : Below B' W W') (hB : B ≤ B') : Cells B W W' := fun b i v hb hv => by
  rw [h.cell (p := ⟨b, i, none⟩) (Nat.lt_of_lt_of_le hb hB)]
  exact hv
/-- A row that a call made, as a list that lies. -/
theorem slice_of_own {α : Type} {W : World} {B e z : Nat} (f : α → List Value) (hz : ∀ x, (f x).length = z) {el : Nat → Nat → α → Prop} (hel : ∀ b o x, b < W.heap.size → (∀ j u, (f x)[j]? = some u → W.cell? ⟨b, o + j, none⟩ = some u) → el b o x)
    {v : Value} {l : List α} (hl : l.length ≤ 9223372036854775807) (h : W.ownsRow B e z v l.length (l.flatMap f)) : SliceAt W.heap.size z el v l := by
  have h' := h
  rcases h.2 with ⟨rfl, h0⟩ | ⟨g, cap, cur, rfl, _, hg, _⟩
  · have : l = [] := List.eq_nil_of_length_eq_zero h0
    subst this
    exact ⟨none, 0, rfl, hl, fun i x hx => by simp at hx⟩
  · refine ⟨_, cap, rfl, hl, fun i x hx => ⟨g, 0, rfl, (Array.getElem?_eq_some_iff.1 hg).1, hel g _ x (Array.getElem?_eq_some_iff.1 hg).1 fun j u hu => ?_⟩⟩
    have hj : j < z := by
      have := (List.getElem?_eq_some_iff.1 hu).1
      rw [hz] at this
      exact this
    have := own_cell h' (j := i * z + j) (u := u) (by rw [flat_at f z hz l i j x hx hj]; exact hu)
    rwa [Nat.zero_add]
theorem slice_nil {α : Type} (B z : Nat) (el : Nat → Nat → α → Prop) : SliceAt B z el (.slice none 0 0) [] := ⟨none, 0, rfl, Nat.zero_le _, fun i x h => by simp at h⟩
theorem two_of {α : Type} {l : List α} (h : l.length = 2) : ∃ a b, l = [a, b] := by
  match l, h with
  | [a, b], _ => exact ⟨a, b, rfl⟩
theorem three_of {α : Type} {l : List α} (h : l.length = 3) : ∃ a b c, l = [a, b, c] := by
  match l, h with
  | [a, b, c], _ => exact ⟨a, b, c, rfl⟩
theorem four_of {α : Type} {l : List α} (h : l.length = 4) : ∃ a b c d, l = [a, b, c, d] := by
  match l, h with
  | [a, b, c, d], _ => exact ⟨a, b, c, d, rfl⟩
theorem five_of {α : Type} {l : List α} (h : l.length = 5) : ∃ a b c d e, l = [a, b, c, d, e] := by
  match l, h with
  | [a, b, c, d, e], _ => exact ⟨a, b, c, d, e, rfl⟩
theorem six_of {α : Type} {l : List α} (h : l.length = 6) : ∃ a b c d e f, l = [a, b, c, d, e, f] := by
  match l, h with
  | [a, b, c, d, e, f], _ => exact ⟨a, b, c, d, e, f, rfl⟩
theorem nine_of {α : Type} {l : List α} (h : l.length = 9) : ∃ a b c d e f g i j, l = [a, b, c, d, e, f, g, i, j] := by
  match l, h with
  | [a, b, c, d, e, f, g, i, j], _ => exact ⟨a, b, c, d, e, f, g, i, j, rfl⟩
theorem ten_of {α : Type} {l : List α} (h : l.length = 10) : ∃ a b c d e f g i j k, l = [a, b, c, d, e, f, g, i, j, k] := by
  match l, h with
  | [a, b, c, d, e, f, g, i, j, k], _ => exact ⟨a, b, c, d, e, f, g, i, j, k, rfl⟩
theorem list_of {α : Type} {P : Nat → α → Prop} : ∀ n, (∀ i, i < n → ∃ a, P i a) → ∃ l : List α, l.length = n ∧ ∀ i a, l[i]? = some a → P i a
  | 0, _ => ⟨[], rfl, fun i a h => by simp at h⟩
  | n + 1, h => by
    obtain ⟨l, hl, hp⟩ := list_of n fun i hi => h i (by omega)
    obtain ⟨a, ha⟩ := h n (by omega)
    refine ⟨l ++ [a], by simp [hl], fun i b hb => ?_⟩
    rw [List.getElem?_append] at hb
    split at hb
    · exact hp i b hb
    · rename_i hi
      have : i = n := by
        have := (List.getElem?_eq_some_iff.1 hb).1
        simp at this
        omega
      subst this
      rw [hl, Nat.sub_self] at hb
      obtain rfl : a = b := by simpa using hb
      exact ha
theorem slice_len {α : Type} {B z : Nat} {el : Nat → Nat → α → Prop} {ad : Option Addr} {n cap : Nat} {l : List α} (h : SliceAt B z el (.slice ad n cap) l) : n = l.length := by
  obtain ⟨_, _, e, _⟩ := h
  injection e
end Go.Proofs.Ytphhfjfdanlhiaa
