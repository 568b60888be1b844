/-
  Names (chapter 18), as bytes. No program is walked here.
-/
import Derived.Test.YtfbiinipiklkaaaQB
namespace Go.Proofs.Ytfbiinipiklkaaa
open Go.RowKit Go.Lib

def nmC (c : UInt8) : Bool := decide (97 ≤ c.toNat ∧ c.toNat ≤ 122) || decide (48 ≤ c.toNat ∧ c.toNat ≤ 57) || decide (c.toNat = 45) || decide (c.toNat = 46)
def nameB (s : List UInt8) : Bool := decide (1 ≤ s.length ∧ s.length ≤ 24) && s.all nmC
end Go.Proofs.Ytfbiinipiklkaaa
