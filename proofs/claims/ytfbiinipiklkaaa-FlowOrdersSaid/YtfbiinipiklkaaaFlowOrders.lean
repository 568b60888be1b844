/-
  PROVED HERE: 'FlowOrdersSaid': whatever a, b, n and l are, the Go function FlowOrders of package wayleavelaw21 returns true, and its arguments read behind the call as they read before. No condition.
-/
import Derived.Test.YtfbiinipiklkaaaFlowOrdersW
import Derived.Test.YtfbiinipiklkaaaFLOpen
import Derived.Test.YtfbiinipiklkaaaFLProg
namespace Go.Proofs.Ytfbiinipiklkaaa
set_option maxRecDepth 100000
open Go.RowKit Go.Lib Go.ChangeShapes Go.WideShapes Go.ChangeAt

theorem flowOrders_walks : WalksTrue 8 Try.f8 := by
  intro H enc W base args ds p hval hA
  rw [Try.params8] at hA hval
  obtain ⟨v0, vs0, d0, ds0, p0, q0, hargs, rfl, rfl, h0, r0⟩ := trodAll_cons hA
  obtain ⟨v1, vs1, d1, ds1, p1, q1, rfl, rfl, rfl, h1, r1⟩ := trodAll_cons r0
  obtain ⟨v2, vs2, d2, ds2, p2, q2, rfl, rfl, rfl, h2, r2⟩ := trodAll_cons r1
  obtain ⟨v3, vs3, d3, ds3, p3, q3, rfl, rfl, rfl, h3, r3⟩ := trodAll_cons r2
  obtain ⟨rfl, rfl, rfl⟩ := trodAll_nil r3
  obtain rfl : args = #[v0, v1, v2, v3] := by cases args; simp_all
  obtain ⟨bs0, rfl, hl0⟩ := open_key h0
  obtain ⟨bs1, rfl, hl1⟩ := open_key h1
  obtain ⟨a2, rfl, rfl, rfl, w2⟩ := open_int Try.underlying5 (hval 2 5 v2 rfl rfl) h2
  obtain ⟨g2a, g2b⟩ := range_u8 w2
  obtain ⟨n2, rfl⟩ := Int.eq_ofNat_of_zero_le g2a
  obtain ⟨A3, len3, cap3, xs3, rfl, hc3, hm3, hI3, hX3⟩ := open_fws (hval 3 42 v3 rfl rfl) h3
  exact flowOrders_walkW flowC bs0 hl0 bs1 hl1 n2 (by omega) A3 len3 cap3 xs3 hc3 hm3 hX3 W hI3

theorem flowOrders_said : Rows.FlowOrdersSaid :=
  OpenClaim.holds_of_wide 8 Try.f8 rfl rfl rfl rfl rfl rfl rfl ⟨rfl, rfl, rfl, rfl, rfl⟩ rfl rfl rfl rfl rfl (by kernel_rfl) Try.func8 (by kernel_rfl)
    (of_decide_eq_true (by kernel_rfl)) (by unfold Func.isWrapper; first | (rw [if_pos (by decide +kernel)]; kernel_rfl) | (rw [if_neg (by decide +kernel)]; exact ⟨rfl, rfl⟩))
    (fun os started H enc _ => law_lift (s := Rows.flowOrdersSpec) Try.func8 (by kernel_rfl) rfl rfl (by intro H ds hd; match ds, hd with | [_, _, _, _], _ => exact ⟨rfl, rfl, rfl⟩) (by kernel_rfl) flowOrders_walks os started H enc
      (ChangeSpec.witness6 (enc := enc) (C := Try.checked) false ⟨#[], #[.agg #[.int .u8 0, .int .u8 0, .int .u8 0, .int .u8 0, .int .u8 0, .int .u8 0, .int .u8 0, .int .u8 0, .int .u8 0, .int .u8 0, .int .u8 0, .int .u8 0, .int .u8 0, .int .u8 0, .int .u8 0, .int .u8 0], .agg #[.int .u8 0, .int .u8 0, .int .u8 0, .int .u8 0, .int .u8 0, .int .u8 0, .int .u8 0, .int .u8 0, .int .u8 0, .int .u8 0, .int .u8 0, .int .u8 0, .int .u8 0, .int .u8 0, .int .u8 0, .int .u8 0], .int .u8 0, .slice none 0 0], []⟩ 8 (by kernel_rfl) (by kernel_rfl) (by kernel_rfl) (by kernel_rfl)))

end Go.Proofs.Ytfbiinipiklkaaa
