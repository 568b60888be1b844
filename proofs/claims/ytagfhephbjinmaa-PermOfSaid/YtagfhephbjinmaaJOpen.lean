/-
  Arguments that are whole numbers of 32 bits.
-/
import Derived.Test.YtagfhephbjinmaaHOpen
namespace Go.Proofs.Ytagfhephbjinmaa
open Go.RowKit Go.Lib

theorem range_i32 {n : Int} (h : (Lit.int .i32 n).wf = true) : -2147483648 ≤ n ∧ n ≤ 2147483647 := by
  simp [Lit.wf, IntKind.min, IntKind.max, IntKind.bits, IntKind.signed] at h
  omega
end Go.Proofs.Ytagfhephbjinmaa
