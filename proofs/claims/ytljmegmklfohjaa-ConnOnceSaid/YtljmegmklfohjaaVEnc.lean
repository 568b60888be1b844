/-
  Slices of shares and of names.
-/
import Derived.Test.YtljmegmklfohjaaGSl
import Derived.Test.YtljmegmklfohjaaLess
namespace Go.Proofs.Ytljmegmklfohjaa
set_option maxRecDepth 100000
open Go.RowKit Go.Lib
def strV (s : List UInt8) : Value := .string ⟨s.toArray⟩
end Go.Proofs.Ytljmegmklfohjaa
