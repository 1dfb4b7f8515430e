/- J2 -/
import Derived.Test.YtahjkkegbcalnaaDoorJ
import Derived.Test.YtahjkkegbcalnaaDoorR
namespace Go.Proofs.YtahjkkegbcalnaaDoor
open Go.RowKit Go.Maps






/-- A variable of a node's type lies at block b, if l; it holds the node, if it is done. -/
def Box (B : Nat) (w : World) (l : Bool) (v : Value) (b : Nat) (done : Bool) (n : Nd) : Prop :=
  l = true → v = .pointer (some ⟨b, 0, none⟩) ∧ B ≤ b ∧ ∃ c0 c1 c2, w.heap[b]? = some (.cells #[c0, c1, c2] 35 (0, 0)) ∧ (done = true → c0 = .int .i64 n.v ∧ c1 = .int .i64 n.lo ∧ c2 = .int .i64 n.hi)
theorem Box.below {B : Nat} {w w' : World} {l : Bool} {v : Value} {b : Nat} {done : Bool} {n : Nd} (h : Box B w l v b done n) (hb : Below w.heap.size w w') : Box B w' l v b done n := by
  intro hl
  obtain ⟨h1, h2, c0, c1, c2, h3, h4⟩ := h hl
  exact ⟨h1, h2, c0, c1, c2, below_block hb h3, h4⟩
theorem Box.lt {B : Nat} {w : World} {l : Bool} {v : Value} {b : Nat} {done : Bool} {n : Nd} (h : Box B w l v b done n) (hl : l = true) : b < w.heap.size := by
  obtain ⟨_, _, _, _, _, h3, _⟩ := h hl
  exact (Array.getElem?_eq_some_iff.1 h3).1
/-- Store a node into block b. -/
def putN (w : World) (b : Nat) (n : Nd) : World := ((w.setCell ⟨b, 0, none⟩ (.int .i64 n.v)).setCell ⟨b, 1, none⟩ (.int .i64 n.lo)).setCell ⟨b, 2, none⟩ (.int .i64 n.hi)
theorem Box.put {B : Nat} {w : World} {l : Bool} {v : Value} {b b' : Nat} {done : Bool} {n n' : Nd} (h : Box B w l v b done n) (hn : l = true → b' ≠ b) : Box B (putN w b' n') l v b done n := by
  intro hl
  obtain ⟨h1, h2, c0, c1, c2, h3, h4⟩ := h hl
  refine ⟨h1, h2, c0, c1, c2, ?_, h4⟩
  unfold putN
  have hn' := Ne.symm (hn hl)
  rw [Below.heap_setCell _ _ _ _ hn', Below.heap_setCell _ _ _ _ hn', Below.heap_setCell _ _ _ _ hn']
  exact h3
theorem Box.own {B : Nat} {w : World} {v : Value} {b : Nat} {done : Bool} {n n' : Nd} (h : Box B w true v b done n) : Box B (putN w b n') true v b true n' := by
  intro hl
  obtain ⟨h1, h2, c0, c1, c2, h3, h4⟩ := h rfl
  refine ⟨h1, h2, .int .i64 n'.v, .int .i64 n'.lo, .int .i64 n'.hi, ?_, fun _ => ⟨rfl, rfl, rfl⟩⟩
  have e1 := heap_set_at (i := 2) (heap_set_at (i := 1) (heap_set_at (i := 0) h3 (.int .i64 n'.v)) (.int .i64 n'.lo)) (.int .i64 n'.hi)
  unfold putN
  simpa using e1
theorem putN_below {B : Nat} {U w : World} {b : Nat} {n : Nd} (h : Below B U w) (hb : B ≤ b) : Below B U (putN w b n) := ((h.setCell hb _).setCell hb _).setCell hb _

/-- The least of three, as Go's min has it. -/
def min3 (a b c : Int) : Int := if c < (if b < a then b else a) then c else (if b < a then b else a)
/-- What three come to, by what their two halves do. -/
def FinR (most v : Int) (d : Nd) (PL : List Nd → List (Value × Value) → Int → Int → Prop) (PH : List Nd → List (Value × Value) → Int → List Nd → List (Value × Value) → Int → Int → Prop) (ns' : List Nd) (kvs' : List (Value × Value)) (k err : Int) : Prop :=
  (err ≠ 0 ∧ k = 0 ∧ ∃ k1, PL ns' kvs' k1 err) ∨
  (∃ ns1 kvs1 k1, PL ns1 kvs1 k1 0 ∧
    ((err ≠ 0 ∧ k = 0 ∧ ∃ k2, PH ns1 kvs1 k1 ns' kvs' k2 err) ∨
     (∃ ns2 kvs2 k2, PH ns1 kvs1 k1 ns2 kvs2 k2 0 ∧ ns' = (mkR most ns2 v k1 k2).2.2 ∧ err = (mkR most ns2 v k1 k2).2.1 ∧
       ((err ≠ 0 ∧ k = 0 ∧ kvs' = kvs2) ∨ (err = 0 ∧ k = (mkR most ns2 v k1 k2).1 ∧ ∀ x ∈ kvs', x ∈ kvs2 ∨ x = (ndV d, .int .i64 k))))))
theorem errV_some {e : Int} (h : e ≠ 0) : errV e = .iface 30 (.int .i64 e) := if_neg h
/-- The cells of a block of three. -/
theorem three_cells {W : World} {b : Nat} {c0 c1 c2 : Value} {t : TypeId} (h : W.heap[b]? = some (.cells #[c0, c1, c2] t (0, 0))) : W.cell? ⟨b, 0, none⟩ = some c0 ∧ W.cell? ⟨b, 1, none⟩ = some c1 ∧ W.cell? ⟨b, 2, none⟩ = some c2 := by
  refine ⟨?_, ?_, ?_⟩ <;> simp [World.cell?, h]
end Go.Proofs.YtahjkkegbcalnaaDoor
