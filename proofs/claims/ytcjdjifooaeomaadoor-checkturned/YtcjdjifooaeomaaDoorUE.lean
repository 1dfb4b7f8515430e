/- What text's link does. -/
import Derived.Test.YtcjdjifooaeomaaDoorUD
import Derived.Test.YtcjdjifooaeomaaDoorOW
namespace Go.Proofs.YtcjdjifooaeomaaDoor
open Go.RowKit Go.Lib

/-- A link as a value. -/
def lkV (l : LkD) : Value := .agg #[.string ⟨l.peer.toArray⟩, .int .i64 l.cost, .string ⟨l.imp.toArray⟩, .string ⟨l.exp.toArray⟩, .int .i64 l.pl]
theorem link_str (l : LkD) (P s1 s2 s3 : ByteArray) (e0 : P = ⟨l.peer.toArray⟩) (e1 : s1 = ⟨(itoa l.cost).toArray⟩) (e2 : s2 = ⟨(nmT [105, 109, 112, 111, 114, 116] l.imp).toArray⟩) (e3 : s3 = ⟨(nmT [101, 120, 112, 111, 114, 116] l.exp).toArray⟩) :
    (⟨#[108, 105, 110, 107, 32]⟩ ++ P ++ ⟨#[32, 99, 111, 115, 116, 32]⟩ ++ s1 ++ s2 ++ s3 : ByteArray) = ⟨(linkW l).toArray⟩ := by
  subst e0 e1 e2 e3
  have d1 : (⟨#[108, 105, 110, 107, 32]⟩ : ByteArray) = ⟨([108, 105, 110, 107, 32] : List UInt8).toArray⟩ := rfl
  have d2 : (⟨#[32, 99, 111, 115, 116, 32]⟩ : ByteArray) = ⟨([32, 99, 111, 115, 116, 32] : List UInt8).toArray⟩ := rfl
  rw [d1, d2]
  simp only [str_add]
  rfl
end Go.Proofs.YtcjdjifooaeomaaDoor
