/-
  PROVED HERE: 'PermNextSaid': whatever n, a and b are, the Go function PermNext of package wayleavelaw16 returns true, and its arguments read behind the call as they read before. No condition.
-/
import Derived.Test.YtagfhephbjinmaaPermNextW
import Derived.Test.YtagfhephbjinmaaJOpen
import Derived.Test.YtagfhephbjinmaaJProg
namespace Go.Proofs.Ytagfhephbjinmaa
set_option maxRecDepth 100000
open Go.RowKit Go.Lib Go.ChangeShapes Go.WideShapes Go.ChangeAt

theorem permNext_walks : WalksTrue 4 Try.f4 := by
  intro H enc W base args ds p hval hA
  rw [Try.params4] at hA hval
  obtain ⟨v0, vs0, d0, ds0, p0, q0, hargs, rfl, rfl, h0, r0⟩ := trodAll_cons hA
  obtain ⟨v1, vs1, d1, ds1, p1, q1, rfl, rfl, rfl, h1, r1⟩ := trodAll_cons r0
  obtain ⟨v2, vs2, d2, ds2, p2, q2, rfl, rfl, rfl, h2, r2⟩ := trodAll_cons r1
  obtain ⟨rfl, rfl, rfl⟩ := trodAll_nil r2
  obtain rfl : args = #[v0, v1, v2] := by cases args; simp_all
  obtain ⟨a0, rfl, rfl, rfl, w0⟩ := open_int Try.underlying26 (hval 0 26 v0 rfl rfl) h0
  obtain ⟨g0a, g0b⟩ := range_u16 w0
  obtain ⟨n0, rfl⟩ := Int.eq_ofNat_of_zero_le g0a
  obtain ⟨a1, rfl, rfl, rfl, w1⟩ := open_int Try.underlying5 (hval 1 5 v1 rfl rfl) h1
  obtain ⟨g1a, g1b⟩ := range_u8 w1
  obtain ⟨n1, rfl⟩ := Int.eq_ofNat_of_zero_le g1a
  obtain ⟨a2, rfl, rfl, rfl, w2⟩ := open_int Try.underlying5 (hval 2 5 v2 rfl rfl) h2
  obtain ⟨g2a, g2b⟩ := range_u8 w2
  obtain ⟨n2, rfl⟩ := Int.eq_ofNat_of_zero_le g2a
  exact permNext_walkW permC n0 (by omega) n1 (by omega) n2 (by omega) W

theorem permNext_said : Rows.PermNextSaid :=
  OpenClaim.holds_of_wide 4 Try.f4 rfl rfl rfl rfl rfl rfl rfl ⟨rfl, rfl, rfl, rfl, rfl⟩ rfl rfl rfl rfl rfl (by kernel_rfl) Try.func4 (by kernel_rfl)
    (of_decide_eq_true (by kernel_rfl)) (by unfold Func.isWrapper; first | (rw [if_pos (by decide +kernel)]; kernel_rfl) | (rw [if_neg (by decide +kernel)]; exact ⟨rfl, rfl⟩))
    (fun os started H enc _ => law_lift (s := Rows.permNextSpec) Try.func4 (by kernel_rfl) rfl rfl (by intro H ds hd; match ds, hd with | [_, _, _], _ => exact ⟨rfl, rfl, rfl⟩) (by kernel_rfl) permNext_walks os started H enc
      (ChangeSpec.witness6 (enc := enc) (C := Try.checked) false ⟨#[], #[.int .u16 0, .int .u8 0, .int .u8 0], []⟩ 8 (by kernel_rfl) (by kernel_rfl) (by kernel_rfl) (by kernel_rfl)))

end Go.Proofs.Ytagfhephbjinmaa
