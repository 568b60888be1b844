/-
  The document's Turn, Family, and its header with a Type.
-/
import Derived.Test.YtfbiinipiklkaaaKCell
namespace Go.Proofs.Ytfbiinipiklkaaa
open Go.RowKit Go.Lib
/-- Are two addresses of one family? -/
def famB (a b : Ad) : Bool := a.six == b.six && (a.six || (shortB a && shortB b))
/-- The Type of a tuple's family. -/
def tyOf (t : Tu) : Int := if t.s.six = true then 34525 else 2048
def typedL (L : Lk) (t : Tu) : Lk := { L with ty := tyOf t }
end Go.Proofs.Ytfbiinipiklkaaa
