/- What the law's own do makes of a route. -/
import Derived.Test.YtphhfjfdanlhiaaFD
import Derived.Deep.CutRange
import Derived.Deep.DeepCutAuto
namespace Go.Proofs.Ytphhfjfdanlhiaa
open Go.RowKit Go.Lib

theorem do_end {f : Func} {R : Ending → World → Prop} {a : Act} {W : World} {br : Nat} {y : At} {o : Bool} {p c t : Int} (h : W.heap[br]? = some (atB y))
    (hr : ∀ V : World, V.cell? ⟨br, 0, none⟩ = some (.bool o) → V.cell? ⟨br, 1, none⟩ = some (.int .i64 p) → V.cell? ⟨br, 2, none⟩ = some (.int .i64 c) → V.cell? ⟨br, 3, none⟩ = some (.int .u8 t) → (results f a.tmps).run Try.prog V = .ok (.agg #[.bool o, .int .i64 p, .int .i64 c, .int .u8 t]) V)
    (hd : a.defers = [])
    (hR : R (.returned (.agg #[.bool o, .int .i64 p, .int .i64 c, .int .u8 t])) ((((W.setCell ⟨br, 0, none⟩ (.bool o)).setCell ⟨br, 1, none⟩ (.int .i64 p)).setCell ⟨br, 2, none⟩ (.int .i64 c)).setCell ⟨br, 3, none⟩ (.int .u8 t))) :
    bodyPost Try.prog f R .ret a ((((W.setCell ⟨br, 0, none⟩ (.bool o)).setCell ⟨br, 1, none⟩ (.int .i64 p)).setCell ⟨br, 2, none⟩ (.int .i64 c)).setCell ⟨br, 3, none⟩ (.int .u8 t)) := by
  obtain ⟨W0, W1, W2, W3⟩ := at_cell (put4_at h ⟨o, p, c, t⟩)
  exact bodyPost_ret (hr _ W0 W1 W2 W3) hd hR
theorem end_below {w W : World} {B br : Nat} (h : Below B w W) (hb : B ≤ br) (x y z u : Value) : Below B w ((((W.setCell ⟨br, 0, none⟩ x).setCell ⟨br, 1, none⟩ y).setCell ⟨br, 2, none⟩ z).setCell ⟨br, 3, none⟩ u) :=
  (((h.setCell hb _).setCell hb _).setCell hb _).setCell hb _
theorem xor_fin : ∀ n : Fin 256, 255 ^^^ n.val = 255 - n.val := by decide +kernel
theorem lwith_int {t wi : Nat} (ht : t < 256) (hwi : wi < 256) : (bits BinOp.and IntKind.u8 (bits BinOp.xor IntKind.u8 IntKind.u8.max (t : Int)) (wi : Int) != 0) = !decide (wi &&& t = wi) := by
  have h1 : bits BinOp.xor IntKind.u8 IntKind.u8.max (t : Int) = ((255 - t : Nat) : Int) := by
    rw [show IntKind.u8.max = ((255 : Nat) : Int) from rfl, u8_xor_nat 255 t (by decide) ht]
    exact congrArg _ (xor_fin ⟨t, ht⟩)
  rw [h1, u8_and_nat _ wi (by omega) hwi, Nat.and_comm, Bool.eq_iff_iff]
  have := with_bits hwi ht
  rw [bne_iff_ne, Bool.not_eq_true', decide_eq_false_iff_not, ← this]
  omega
theorem lout_int {t ou : Nat} (ht : t < 256) (hou : ou < 256) : (bits BinOp.and IntKind.u8 (t : Int) (ou : Int) != 0) = !decide (ou &&& t = 0) := by
  rw [u8_and_nat t ou ht hou, Nat.and_comm, Bool.eq_iff_iff, bne_iff_ne, Bool.not_eq_true', decide_eq_false_iff_not]
  omega
theorem ltags_int {t se cl : Nat} (ht : t < 256) (hse : se < 256) (hcl : cl < 256) : bits BinOp.and IntKind.u8 (bits BinOp.and IntKind.u8 (bits BinOp.or IntKind.u8 (t : Int) (se : Int)) (bits BinOp.xor IntKind.u8 IntKind.u8.max (cl : Int))) 15 = ((((t ||| se) &&& (255 - cl)) &&& 15 : Nat) : Int) := by
  have h0 : bits BinOp.xor IntKind.u8 IntKind.u8.max (cl : Int) = ((255 - cl : Nat) : Int) := by
    rw [show IntKind.u8.max = ((255 : Nat) : Int) from rfl, u8_xor_nat 255 cl (by decide) hcl]
    exact congrArg _ (xor_fin ⟨cl, hcl⟩)
  have h1 : t ||| se < 256 := Nat.or_lt_two_pow (n := 8) ht hse
  have h2 : (t ||| se) &&& (255 - cl) < 256 := Nat.lt_of_le_of_lt Nat.and_le_left h1
  rw [h0, u8_or_nat t se ht hse, u8_and_nat _ _ h1 (by omega), show (15 : Int) = ((15 : Nat) : Int) from rfl, u8_and_nat _ 15 h2 (by decide)]
end Go.Proofs.Ytphhfjfdanlhiaa
