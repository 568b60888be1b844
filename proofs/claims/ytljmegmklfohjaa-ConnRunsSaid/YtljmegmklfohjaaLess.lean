/-
  Text, compared byte by byte. No program is walked here.
-/
import Derived.Test.YtljmegmklfohjaaQB
namespace Go.Proofs.Ytljmegmklfohjaa
open Go.RowKit Go.Lib
/-- A share. -/
structure Shr where
  nm : List UInt8
  q : Int
end Go.Proofs.Ytljmegmklfohjaa
