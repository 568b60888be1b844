/-
  PROVED HERE: 'PermPrimesSaid': whatever n are, the Go function PermPrimes of package wayleavelaw16 returns true, and its arguments read behind the call as they read before. No condition.
-/
import Derived.Test.YtagfhephbjinmaaPermPrimesW
import Derived.Test.YtagfhephbjinmaaJOpen
import Derived.Test.YtagfhephbjinmaaJProg
namespace Go.Proofs.Ytagfhephbjinmaa
set_option maxRecDepth 100000
open Go.RowKit Go.Lib Go.ChangeShapes Go.WideShapes Go.ChangeAt

theorem permPrimes_walks : WalksTrue 3 Try.f3 := by
  intro H enc W base args ds p hval hA
  rw [Try.params3] at hA hval
  obtain ⟨v0, vs0, d0, ds0, p0, q0, hargs, rfl, rfl, h0, r0⟩ := trodAll_cons hA
  obtain ⟨rfl, rfl, rfl⟩ := trodAll_nil r0
  obtain rfl : args = #[v0] := by cases args; simp_all
  obtain ⟨a0, rfl, rfl, rfl, w0⟩ := open_int Try.underlying21 (hval 0 21 v0 rfl rfl) h0
  obtain ⟨g0a, g0b⟩ := range_i32 w0
  exact permPrimes_walkW permC a0 g0a g0b W

theorem permPrimes_said : Rows.PermPrimesSaid :=
  OpenClaim.holds_of_wide 3 Try.f3 rfl rfl rfl rfl rfl rfl rfl ⟨rfl, rfl, rfl, rfl, rfl⟩ rfl rfl rfl rfl rfl (by kernel_rfl) Try.func3 (by kernel_rfl)
    (of_decide_eq_true (by kernel_rfl)) (by unfold Func.isWrapper; first | (rw [if_pos (by decide +kernel)]; kernel_rfl) | (rw [if_neg (by decide +kernel)]; exact ⟨rfl, rfl⟩))
    (fun os started H enc _ => law_lift (s := Rows.permPrimesSpec) Try.func3 (by kernel_rfl) rfl rfl (by intro H ds hd; match ds, hd with | [_], _ => exact ⟨rfl, rfl, rfl⟩) (by kernel_rfl) permPrimes_walks os started H enc
      (ChangeSpec.witness6 (enc := enc) (C := Try.checked) false ⟨#[], #[.int .i32 0], []⟩ 8 (by kernel_rfl) (by kernel_rfl) (by kernel_rfl) (by kernel_rfl)))

end Go.Proofs.Ytagfhephbjinmaa
