/- What the small functions of package ite do. -/
import Derived.Test.YtahjkkegbcalnaaDoorBu
namespace Go.Proofs.YtahjkkegbcalnaaDoor
open Go.RowKit Go.Maps

/-- Where a node goes at a value of v; itself, if it asks another variable. -/
def lowP (v k : Int) (n : Nd) : Int := if n.v = v then n.lo else k
def highP (v k : Int) (n : Nd) : Int := if n.v = v then n.hi else k

/-- A node's number; that of no, if there is none. -/
def nodeP (ns : List Nd) (k : Int) : Int := if hasB ns k = true then k else 0
/-- What a rule tells of three diagrams. -/
def chooseP (d : Nd) : Option Int :=
  if d.v = 1 ∨ d.lo = d.hi then some d.lo else if d.v = 0 then some d.hi else if d.lo = 1 ∧ d.hi = 0 then some d.v else none
def differP (d : Nd) : Option Int :=
  if d.v = d.lo then some 0 else if d.v = 0 then some d.lo else if d.lo = 0 then some d.v else none
/-- A rule's answer. -/
def ruleV (r : Option Int) : Value := .tuple #[.int .i64 (r.getD 0), .bool r.isSome]
end Go.Proofs.YtahjkkegbcalnaaDoor
