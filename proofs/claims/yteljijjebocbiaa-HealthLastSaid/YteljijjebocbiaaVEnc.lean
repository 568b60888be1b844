/-
  Slices of shares and of names.
-/
import Derived.Test.YteljijjebocbiaaGSl
import Derived.Test.YteljijjebocbiaaLess
namespace Go.Proofs.Yteljijjebocbiaa
set_option maxRecDepth 100000
open Go.RowKit Go.Lib
def strV (s : List UInt8) : Value := .string ⟨s.toArray⟩
/-- Names in a slice. -/
def eN : Enc (List UInt8) where
  S := 35
  T := 9
  k := 1
  bytes := 16
  zero := .string ⟨#[]⟩
  f x := [strV x]
  len _ := rfl
  one _ v hv := by rw [List.mem_singleton.1 hv]; rfl
  und := Try.underlying35
  info := by kernel_rfl
  pos := by decide
  zlen := rfl
  small := by decide
end Go.Proofs.Yteljijjebocbiaa
