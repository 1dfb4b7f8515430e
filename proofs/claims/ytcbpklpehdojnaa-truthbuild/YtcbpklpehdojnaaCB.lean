/- A slice of bools, opened. -/
import Derived.Test.YtcbpklpehdojnaaQ
import Derived.Deep.Grids
import Derived.ChangeSame
import Derived.OpenShut
namespace Go.Proofs.Ytcbpklpehdojnaa
open Go.ChangeShapes Go.WideShapes Go.RowKit Go.Deep

/-- What came in: a list of bools. -/
def CameB (w : World) (a : Option Addr) (len : Nat) (t : Nat → Bool) : Prop :=
  0 < len → ∃ b off, a = some ⟨b, off, none⟩ ∧ ∀ i, i < len → w.cell? ⟨b, off + i, none⟩ = some (.bool (t i))
theorem cellsB : Try.prog.cellsOf 4 = 1 := by kernel_rfl
theorem came_bools {H : Type} {enc : TypeId × Value → H} {W : World} {a : Option Addr} {len cap : Nat} {d : DataW H} {ps : List MemPlace} (h : DataW.Trod enc Try.prog W 0 (fun _ => true) true 22 (.slice a len cap) d ps) :
    (len ≤ cap ∧ cap ≤ maxLen) ∧ ∃ t, CameB W a len t := by
  obtain ⟨fuel, hf⟩ := h
  rcases open_bools Try.underlying22 Try.underlying4 cellsB hf with ⟨hcs, _⟩ | ⟨x, l, c, B, hcs, _, hl, hm, _, hcell⟩
  · simp [Value.cells] at hcs
    obtain ⟨rfl, rfl, rfl⟩ := hcs
    exact ⟨by unfold maxLen; omega, fun _ => false, fun h => by omega⟩
  · simp [Value.cells] at hcs
    obtain ⟨rfl, rfl, rfl⟩ := hcs
    refine ⟨⟨hl, hm⟩, B, fun h => ?_⟩
    obtain ⟨b, off, spot⟩ := x
    have hspot : spot = none := by simpa [Addr.add] using World.cell?_spot (hcell 0 (by omega))
    subst hspot
    refine ⟨b, off, rfl, fun i hi => ?_⟩
    have := hcell i (by omega)
    rwa [add_plain] at this
end Go.Proofs.Ytcbpklpehdojnaa
