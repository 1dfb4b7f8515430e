/- Configurations as they lie in memory. -/
import Derived.Test.YtejhgifadohbiaaGreatDoorUE
import Derived.Test.YtejhgifadohbiaaGreatDoorUB
import Derived.Test.YtejhgifadohbiaaGreatDoorHM
namespace Go.Proofs.YtejhgifadohbiaaGreatDoor
open Go.RowKit Go.Lib

/-- A builder at b2, what was written, and all else as it was. -/
structure Wr (b2 : Nat) (U : World) (l : Bs) (w : World) : Prop where
  bd : BdAt b2 b2 l w
  bel : Below b2 U w
  oth : Lib.OthersKept 5 (some b2) U w
theorem BdAt.below {B b : Nat} {l : Bs} {w w' : World} (h : BdAt B b l w) (q : Below w.heap.size w w') : BdAt B b l w' := by
  have key : ∀ p, Lib.BuilderAt 54 5 B b p (Lib.byteCells l) w → Lib.BuilderAt 54 5 B b p (Lib.byteCells l) w' := by
    rintro p ⟨h1, v, h2, h3, h4⟩
    refine ⟨h1, v, pf_block q h2, ⟨h3.1, ?_⟩, h4⟩
    rcases h3.2 with h0 | ⟨g, cap, cur, e1, e2, e3, e4⟩
    · exact .inl h0
    · exact .inr ⟨g, cap, cur, e1, e2, pf_block q e3, e4⟩
  rcases h with h | h
  · exact .inl (key _ h)
  · exact .inr (key _ h)
theorem oth_below {e : TypeId} {b : Option Nat} {w w' : World} (q : Below w.heap.size w w') : Lib.OthersKept e b w w' := fun _ _ h _ _ => pf_block q h
theorem Wr.below {b2 : Nat} {U : World} {l : Bs} {w w' : World} (h : Wr b2 U l w) (q : Below w.heap.size w w') (hb : b2 ≤ w.heap.size) : Wr b2 U l w' :=
  ⟨h.bd.below q, h.bel.trans (q.mono hb), h.oth.trans (oth_below q)⟩
theorem Wr.lt {b2 : Nat} {U : World} {l : Bs} {w : World} (h : Wr b2 U l w) : b2 ≤ w.heap.size := by
  rcases h.bd with h | h
  · exact Nat.le_of_lt h.lt
  · exact Nat.le_of_lt h.lt
theorem Wr.write {b2 : Nat} {U : World} {l : Bs} {w : World} (h : Wr b2 U l w) (m : Bs) (hlen : l.length + m.length ≤ 140737488355328) :
    Calls Tryz.prog 14 #[.pointer (some ⟨b2, 0, none⟩), .string ⟨m.toArray⟩] w fun e w' => e = .returned (.tuple #[.int .i64 m.length, .nilIface]) ∧ Wr b2 U (l ++ m) w' ∧ Lib.OthersKept 5 (some b2) w w' := by
  refine (write_text b2 b2 l m w h.bd hlen h.lt).mono ?_
  rintro e w' ⟨rfl, h1, h2, h3⟩
  exact ⟨rfl, ⟨h1, h.bel.trans h2, h.oth.trans h3⟩, h3⟩
/-- Another block than the builder's, of another type than bytes. -/
theorem oth_block {b2 b t : Nat} {w w' : World} {cs : Array Value} (h : Lib.OthersKept 5 (some b2) w w') (hb : w.heap[b]? = some (.cells cs t (0, 0))) (hne : b ≠ b2) (ht : t ≠ 5) : w'.heap[b]? = some (.cells cs t (0, 0)) :=
  h b _ hb (by simpa using hne) (by intro c fz e; injection e with _ e2 _; exact ht e2)
theorem wr_new (w : World) : Wr w.heap.size (w.alloc (.cells #[.pointer none, .slice none 0 0] 54)) [] (w.alloc (.cells #[.pointer none, .slice none 0 0] 54)) :=
  ⟨Lib.fresh_isBuilder 54 5 w, Below.refl _ _, Lib.OthersKept.refl _ _ _⟩
end Go.Proofs.YtejhgifadohbiaaGreatDoor
