/-
  PROVED HERE: 'VarintPutsSaid': whatever n is, the Go function VarintPuts of package wayleavelaw02 returns true. No condition.
-/
import Derived.Test.YtnbehleppmnjdaaVarAwake
import Derived.Test.YtnbehleppmnjdaaLift
namespace Go.Proofs.Ytnbehleppmnjdaa
open Go.RowKit Go.Lib Go.ChangeShapes Go.WideShapes Go.ChangeAt

set_option maxRecDepth 100000 in
set_option maxHeartbeats 2000000 in
theorem varintPuts_walk (n : Nat) (hn : n < 18446744073709551616) (w : World) :
    Calls Try.prog 4 #[.int .u64 (n : Int)] w fun e W' => e = .returned (.bool true) ∧ Below w.heap.size w W' := by
  have h10 := uvarint_length64 hn
  have h1 := uvarint_pos n
  have HS := fun W => size_any n hn W
  have HP := fun W => vput_any n hn W
  have HR := fun W => rvput_any n hn W
  obtain ⟨U, hU⟩ : ∃ U, uvarint n = U := ⟨_, rfl⟩
  rw [hU] at h10 h1
  simp only [hU] at HS HP HR
  have KS := Lib.hid HS
  have KP := Lib.hid HP
  have KR := Lib.hid HR
  clear hU HS HP HR
  go_enter Try.func4, Try.ntmps4
  go_wp2_with fail
  refine (awake_any _).mono ?_
  rintro e w1 ⟨rfl, hb1⟩
  go_wp2_with fail
  refine (KP.out _).mono ?_
  rintro e w2 ⟨v2, rfl, ho2, hb2⟩
  have B2 := hb1.trans (hb2.mono hb1.size)
  obtain ⟨A2, m2, c2, rfl, hm2, hmc2, hcm2, hr2⟩ := ho2.sl
  have hm10 : (m2 : Int) ≤ 10 := by omega
  have hm1 : (1 : Int) ≤ (m2 : Int) := by omega
  have HM2 := Lib.hid hm2
  clear hm2
  go_wp2_with fail
  refine (KR.out _).mono ?_
  rintro e w3 ⟨v3, rfl, ho3, hb3⟩
  have B3 := B2.trans (hb3.mono B2.size)
  obtain ⟨A3, m3, c3, rfl, hm3, hmc3, hcm3, hr3⟩ := ho3.sl
  clear hm3
  go_wp2_with fail
  refine (same_any _ _ _ (hr2.below hb3) hr3).mono ?_
  rintro e w4 ⟨rfl, rfl⟩
  go_wp2_with fail
  refine (KS.out _).mono ?_
  rintro e w4 ⟨rfl, rfl⟩
  rw [← HM2.out]
  go_wp2_with fail
  go_ret
  exact ⟨rfl, B3⟩

theorem varintPuts_walks : WalksTrue 4 Try.f4 := by
  intro H enc W base args ds p hval hA
  rw [Try.params4] at hA hval
  obtain ⟨v0, vs0, d0, ds0, p0, q0, hargs, rfl, rfl, h0, r0⟩ := trodAll_cons hA
  obtain ⟨rfl, rfl, rfl⟩ := trodAll_nil r0
  obtain rfl : args = #[v0] := by cases args; simp_all
  obtain ⟨a0, rfl, rfl, rfl, w0⟩ := open_int Try.underlying24 (hval 0 24 v0 rfl rfl) h0
  obtain ⟨g0a, g0b⟩ := range_u64 w0
  obtain ⟨n0, rfl⟩ := Int.eq_ofNat_of_zero_le g0a
  exact varintPuts_walk n0 (by omega) W

theorem varintPuts_said : Rows.VarintPutsSaid :=
  OpenClaim.holds_of_wide 4 Try.f4 rfl rfl rfl rfl rfl rfl rfl ⟨rfl, rfl, rfl, rfl, rfl⟩ rfl rfl rfl rfl rfl (by kernel_rfl) Try.func4 (by kernel_rfl)
    (of_decide_eq_true (by kernel_rfl)) (by unfold Func.isWrapper; first | (rw [if_pos (by decide +kernel)]; kernel_rfl) | (rw [if_neg (by decide +kernel)]; exact ⟨rfl, rfl⟩))
    (fun os started H enc _ => law_lift (s := Rows.varintPutsSpec) Try.func4 (by kernel_rfl) rfl rfl (by intro H ds hd; match ds, hd with | [_], _ => exact ⟨rfl, rfl, rfl⟩) (by kernel_rfl) varintPuts_walks os started H enc
      (ChangeSpec.witness6 (enc := enc) (C := Try.checked) false ⟨#[], #[.int .u64 0], []⟩ 8 (by kernel_rfl) (by kernel_rfl) (by kernel_rfl) (by kernel_rfl)))

end Go.Proofs.Ytnbehleppmnjdaa
