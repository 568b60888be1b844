/-
  Whole numbers in slices.
-/
import Derived.Test.YtljmegmklfohjaaGSl
namespace Go.Proofs.Ytljmegmklfohjaa
set_option maxRecDepth 100000
open Go.RowKit Go.Lib

/-- Whole numbers in a slice. -/
def eZ : Enc Int where
  S := 25
  T := 3
  k := 1
  bytes := 8
  zero := .int .i64 0
  f x := [.int .i64 x]
  len _ := rfl
  one _ v hv := by rw [List.mem_singleton.1 hv]; rfl
  und := Try.underlying25
  info := by kernel_rfl
  pos := by decide
  zlen := rfl
  small := by decide
end Go.Proofs.Ytljmegmklfohjaa
