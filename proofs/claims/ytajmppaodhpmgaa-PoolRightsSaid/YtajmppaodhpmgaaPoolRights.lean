/-
  PROVED HERE: 'PoolRightsSaid': whatever s, p and q are, the Go function PoolRights of package wayleavelaw18 returns true, and its arguments read behind the call as they read before. No condition.
-/
import Derived.Test.YtajmppaodhpmgaaPoolRightsW
import Derived.Test.YtajmppaodhpmgaaUProg
namespace Go.Proofs.Ytajmppaodhpmgaa
set_option maxRecDepth 100000
open Go.RowKit Go.Lib Go.ChangeShapes Go.WideShapes Go.ChangeAt

theorem poolRights_walks : WalksTrue 3 Try.f3 := by
  intro H enc W base args ds p hval hA
  rw [Try.params3] at hA hval
  obtain ⟨v0, vs0, d0, ds0, p0, q0, hargs, rfl, rfl, h0, r0⟩ := trodAll_cons hA
  obtain ⟨v1, vs1, d1, ds1, p1, q1, rfl, rfl, rfl, h1, r1⟩ := trodAll_cons r0
  obtain ⟨v2, vs2, d2, ds2, p2, q2, rfl, rfl, rfl, h2, r2⟩ := trodAll_cons r1
  obtain ⟨rfl, rfl, rfl⟩ := trodAll_nil r2
  obtain rfl : args = #[v0, v1, v2] := by cases args; simp_all
  obtain ⟨s0, rfl, rfl, rfl, hs0⟩ := Go.ChangeMaps.open_string Try.underlying9 (hval 0 9 v0 rfl rfl) h0
  obtain ⟨V1, A1, len1, cap1, xs1, rfl, hc1, hm1, hI1, hX1, hv1a, hv1b⟩ := open_pool (hval 1 24 v1 rfl rfl) h1
  obtain ⟨V2, A2, len2, cap2, xs2, rfl, hc2, hm2, hI2, hX2, hv2a, hv2b⟩ := open_pool (hval 2 24 v2 rfl rfl) h2
  exact poolRights_walkW poolC s0 hs0 V1 hv1a hv1b A1 len1 cap1 xs1 hc1 hm1 hX1 V2 hv2a hv2b A2 len2 cap2 xs2 hc2 hm2 hX2 W hI1 hI2

theorem poolRights_said : Rows.PoolRightsSaid :=
  OpenClaim.holds_of_wide 3 Try.f3 rfl rfl rfl rfl rfl rfl rfl ⟨rfl, rfl, rfl, rfl, rfl⟩ rfl rfl rfl rfl rfl (by kernel_rfl) Try.func3 (by kernel_rfl)
    (of_decide_eq_true (by kernel_rfl)) (by unfold Func.isWrapper; first | (rw [if_pos (by decide +kernel)]; kernel_rfl) | (rw [if_neg (by decide +kernel)]; exact ⟨rfl, rfl⟩))
    (fun os started H enc _ => law_lift (s := Rows.poolRightsSpec) Try.func3 (by kernel_rfl) rfl rfl (by intro H ds hd; match ds, hd with | [_, _, _], _ => exact ⟨rfl, rfl, rfl⟩) (by kernel_rfl) poolRights_walks os started H enc
      (ChangeSpec.witness6 (enc := enc) (C := Try.checked) false ⟨#[], #[.string ByteArray.empty, .agg #[.int .i64 0, .slice none 0 0], .agg #[.int .i64 0, .slice none 0 0]], []⟩ 8 (by kernel_rfl) (by kernel_rfl) (by kernel_rfl) (by kernel_rfl)))

end Go.Proofs.Ytajmppaodhpmgaa
