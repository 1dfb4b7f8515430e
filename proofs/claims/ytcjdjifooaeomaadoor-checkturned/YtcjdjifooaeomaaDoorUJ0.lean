/- Configurations that are not far below 0. -/
import Derived.Test.YtcjdjifooaeomaaDoorUI
namespace Go.Proofs.YtcjdjifooaeomaaDoor
open Go.RowKit Go.Lib

/-- Numbers are not the least one. -/
structure CfD.far (c : CfD) : Prop where
  m : ∀ m ∈ c.maps, ∀ x ∈ m.cls, -9223372036854775807 ≤ x.more ∧ -9223372036854775807 ≤ x.pref
  r : ∀ r ∈ c.ros, ∀ l ∈ r.lks, -9223372036854775807 ≤ l.cost
end Go.Proofs.YtcjdjifooaeomaaDoor
