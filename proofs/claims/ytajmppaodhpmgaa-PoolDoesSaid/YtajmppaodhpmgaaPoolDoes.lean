/-
  PROVED HERE: 'PoolDoesSaid': whatever p and op are, the Go function PoolDoes of package wayleavelaw18 returns true, and its arguments read behind the call as they read before. No condition.
-/
import Derived.Test.YtajmppaodhpmgaaPoolDoesW
import Derived.Test.YtajmppaodhpmgaaUProg
namespace Go.Proofs.Ytajmppaodhpmgaa
set_option maxRecDepth 100000
open Go.RowKit Go.Lib Go.ChangeShapes Go.WideShapes Go.ChangeAt

theorem poolDoes_walks : WalksTrue 4 Try.f4 := by
  intro H enc W base args ds p hval hA
  rw [Try.params4] at hA hval
  obtain ⟨v0, vs0, d0, ds0, p0, q0, hargs, rfl, rfl, h0, r0⟩ := trodAll_cons hA
  obtain ⟨v1, vs1, d1, ds1, p1, q1, rfl, rfl, rfl, h1, r1⟩ := trodAll_cons r0
  obtain ⟨rfl, rfl, rfl⟩ := trodAll_nil r1
  obtain rfl : args = #[v0, v1] := by cases args; simp_all
  obtain ⟨V0, A0, len0, cap0, xs0, rfl, hc0, hm0, hI0, hX0, hv0a, hv0b⟩ := open_pool (hval 0 24 v0 rfl rfl) h0
  obtain ⟨o1, rfl, hO1⟩ := open_opu (hval 1 38 v1 rfl rfl) h1
  exact poolDoes_walkW poolC V0 hv0a hv0b A0 len0 cap0 xs0 hc0 hm0 hX0 o1 hO1 W hI0

theorem poolDoes_said : Rows.PoolDoesSaid :=
  OpenClaim.holds_of_wide 4 Try.f4 rfl rfl rfl rfl rfl rfl rfl ⟨rfl, rfl, rfl, rfl, rfl⟩ rfl rfl rfl rfl rfl (by kernel_rfl) Try.func4 (by kernel_rfl)
    (of_decide_eq_true (by kernel_rfl)) (by unfold Func.isWrapper; first | (rw [if_pos (by decide +kernel)]; kernel_rfl) | (rw [if_neg (by decide +kernel)]; exact ⟨rfl, rfl⟩))
    (fun os started H enc _ => law_lift (s := Rows.poolDoesSpec) Try.func4 (by kernel_rfl) rfl rfl (by intro H ds hd; match ds, hd with | [_, _], _ => exact ⟨rfl, rfl, rfl⟩) (by kernel_rfl) poolDoes_walks os started H enc
      (ChangeSpec.witness6 (enc := enc) (C := Try.checked) false ⟨#[], #[.agg #[.int .i64 0, .slice none 0 0], .agg #[.int .i64 0, .string ByteArray.empty, .bool false, .int .u8 0, .int .u8 0, .int .u8 0, .int .u8 0, .int .u8 0, .int .u8 0, .int .u8 0, .int .u8 0, .int .u8 0, .int .u8 0, .int .u8 0, .int .u8 0, .int .u8 0, .int .u8 0, .int .u8 0, .int .u8 0, .int .i64 0, .int .u8 0, .int .u8 0, .int .u8 0, .int .u8 0, .int .u8 0, .int .u8 0, .float .f64 0, .bool false, .string ByteArray.empty, .float .f64 0]], []⟩ 8 (by kernel_rfl) (by kernel_rfl) (by kernel_rfl) (by kernel_rfl)))

end Go.Proofs.Ytajmppaodhpmgaa
