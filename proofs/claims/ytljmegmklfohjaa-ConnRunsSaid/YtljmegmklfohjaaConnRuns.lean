/-
  PROVED HERE: 'ConnRunsSaid': whatever state, l and m are, the Go function ConnRuns of package wayleavelaw20 returns true, and its arguments read behind the call as they read before. No condition.
-/
import Derived.Test.YtljmegmklfohjaaConnRunsW
import Derived.Test.YtljmegmklfohjaaZOpen
import Derived.Test.YtljmegmklfohjaaZProg
namespace Go.Proofs.Ytljmegmklfohjaa
set_option maxRecDepth 100000
open Go.RowKit Go.Lib Go.ChangeShapes Go.WideShapes Go.ChangeAt

theorem connRuns_walks : WalksTrue 5 Try.f5 := by
  intro H enc W base args ds p hval hA
  rw [Try.params5] at hA hval
  obtain ⟨v0, vs0, d0, ds0, p0, q0, hargs, rfl, rfl, h0, r0⟩ := trodAll_cons hA
  obtain ⟨v1, vs1, d1, ds1, p1, q1, rfl, rfl, rfl, h1, r1⟩ := trodAll_cons r0
  obtain ⟨v2, vs2, d2, ds2, p2, q2, rfl, rfl, rfl, h2, r2⟩ := trodAll_cons r1
  obtain ⟨rfl, rfl, rfl⟩ := trodAll_nil r2
  obtain rfl : args = #[v0, v1, v2] := by cases args; simp_all
  obtain ⟨a0, rfl, rfl, rfl, w0⟩ := open_int Try.underlying3 (hval 0 3 v0 rfl rfl) h0
  obtain ⟨g0a, g0b⟩ := range_i64 w0
  obtain ⟨A1, len1, cap1, xs1, rfl, hc1, hm1, hI1, hX1⟩ := open_ints (hval 1 25 v1 rfl rfl) h1
  obtain ⟨A2, len2, cap2, xs2, rfl, hc2, hm2, hI2, hX2⟩ := open_ints (hval 2 25 v2 rfl rfl) h2
  exact connRuns_walkW connC a0 g0a g0b A1 len1 cap1 xs1 hc1 hm1 hX1 A2 len2 cap2 xs2 hc2 hm2 hX2 W hI1 hI2

theorem connRuns_said : Rows.ConnRunsSaid :=
  OpenClaim.holds_of_wide 5 Try.f5 rfl rfl rfl rfl rfl rfl rfl ⟨rfl, rfl, rfl, rfl, rfl⟩ rfl rfl rfl rfl rfl (by kernel_rfl) Try.func5 (by kernel_rfl)
    (of_decide_eq_true (by kernel_rfl)) (by unfold Func.isWrapper; first | (rw [if_pos (by decide +kernel)]; kernel_rfl) | (rw [if_neg (by decide +kernel)]; exact ⟨rfl, rfl⟩))
    (fun os started H enc _ => law_lift (s := Rows.connRunsSpec) Try.func5 (by kernel_rfl) rfl rfl (by intro H ds hd; match ds, hd with | [_, _, _], _ => exact ⟨rfl, rfl, rfl⟩) (by kernel_rfl) connRuns_walks os started H enc
      (ChangeSpec.witness6 (enc := enc) (C := Try.checked) false ⟨#[], #[.int .i64 0, .slice none 0 0, .slice none 0 0], []⟩ 8 (by kernel_rfl) (by kernel_rfl) (by kernel_rfl) (by kernel_rfl)))

end Go.Proofs.Ytljmegmklfohjaa
