/-
  PROVED HERE: 'HealthSplitsSaid': whatever h, l, m, rise and fall are, the Go function HealthSplits of package wayleavelaw19 returns true, and its arguments read behind the call as they read before. No condition.
-/
import Derived.Test.YteljijjebocbiaaHealthSplitsW
import Derived.Test.YteljijjebocbiaaYProg
namespace Go.Proofs.Yteljijjebocbiaa
set_option maxRecDepth 100000
open Go.RowKit Go.Lib Go.ChangeShapes Go.WideShapes Go.ChangeAt

theorem healthSplits_walks : WalksTrue 6 Try.f6 := by
  intro H enc W base args ds p hval hA
  rw [Try.params6] at hA hval
  obtain ⟨v0, vs0, d0, ds0, p0, q0, hargs, rfl, rfl, h0, r0⟩ := trodAll_cons hA
  obtain ⟨v1, vs1, d1, ds1, p1, q1, rfl, rfl, rfl, h1, r1⟩ := trodAll_cons r0
  obtain ⟨v2, vs2, d2, ds2, p2, q2, rfl, rfl, rfl, h2, r2⟩ := trodAll_cons r1
  obtain ⟨v3, vs3, d3, ds3, p3, q3, rfl, rfl, rfl, h3, r3⟩ := trodAll_cons r2
  obtain ⟨v4, vs4, d4, ds4, p4, q4, rfl, rfl, rfl, h4, r4⟩ := trodAll_cons r3
  obtain ⟨rfl, rfl, rfl⟩ := trodAll_nil r4
  obtain rfl : args = #[v0, v1, v2, v3, v4] := by cases args; simp_all
  obtain ⟨b0_, rfl, hO0⟩ := open_hl (hval 0 23 v0 rfl rfl) h0
  obtain ⟨A1, len1, cap1, xs1, rfl, hc1, hm1, hI1⟩ := open_bools (hval 1 28 v1 rfl rfl) h1
  obtain ⟨A2, len2, cap2, xs2, rfl, hc2, hm2, hI2⟩ := open_bools (hval 2 28 v2 rfl rfl) h2
  obtain ⟨a3, rfl, rfl, rfl, w3⟩ := open_int Try.underlying3 (hval 3 3 v3 rfl rfl) h3
  obtain ⟨g3a, g3b⟩ := range_i64 w3
  obtain ⟨a4, rfl, rfl, rfl, w4⟩ := open_int Try.underlying3 (hval 4 3 v4 rfl rfl) h4
  obtain ⟨g4a, g4b⟩ := range_i64 w4
  exact healthSplits_walkW healthC b0_ hO0 A1 len1 cap1 xs1 hc1 hm1 A2 len2 cap2 xs2 hc2 hm2 a3 g3a g3b a4 g4a g4b W hI1 hI2

theorem healthSplits_said : Rows.HealthSplitsSaid :=
  OpenClaim.holds_of_wide 6 Try.f6 rfl rfl rfl rfl rfl rfl rfl ⟨rfl, rfl, rfl, rfl, rfl⟩ rfl rfl rfl rfl rfl (by kernel_rfl) Try.func6 (by kernel_rfl)
    (of_decide_eq_true (by kernel_rfl)) (by unfold Func.isWrapper; first | (rw [if_pos (by decide +kernel)]; kernel_rfl) | (rw [if_neg (by decide +kernel)]; exact ⟨rfl, rfl⟩))
    (fun os started H enc _ => law_lift (s := Rows.healthSplitsSpec) Try.func6 (by kernel_rfl) rfl rfl (by intro H ds hd; match ds, hd with | [_, _, _, _, _], _ => exact ⟨rfl, rfl, rfl⟩) (by kernel_rfl) healthSplits_walks os started H enc
      (ChangeSpec.witness6 (enc := enc) (C := Try.checked) false ⟨#[], #[.agg #[.string ByteArray.empty, .bool false, .int .i64 0], .slice none 0 0, .slice none 0 0, .int .i64 0, .int .i64 0], []⟩ 8 (by kernel_rfl) (by kernel_rfl) (by kernel_rfl) (by kernel_rfl)))

end Go.Proofs.Yteljijjebocbiaa
