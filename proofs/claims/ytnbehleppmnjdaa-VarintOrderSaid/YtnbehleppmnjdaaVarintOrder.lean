/-
  PROVED HERE: 'VarintOrderSaid': whatever a and b are, the Go function VarintOrder of package wayleavelaw02 returns true. No condition.
-/
import Derived.Test.YtnbehleppmnjdaaVarAwake
import Derived.Test.YtnbehleppmnjdaaLift
namespace Go.Proofs.Ytnbehleppmnjdaa
open Go.RowKit Go.Lib Go.ChangeShapes Go.WideShapes Go.ChangeAt

set_option maxRecDepth 100000 in
set_option maxHeartbeats 2000000 in
theorem varintOrder_walk (a : Nat) (ha : a < 18446744073709551616) (b : Nat) (hb : b < 18446744073709551616) (w : World) :
    Calls Try.prog 7 #[.int .u64 (a : Int), .int .u64 (b : Int)] w fun e W' => e = .returned (.bool true) ∧ Below w.heap.size w W' := by
  have hxa := uvarint_length64 ha
  have hxb := uvarint_length64 hb
  have ha1 := uvarint_pos a
  have hb1 := uvarint_pos b
  have HPa := Lib.hid (fun W => vput_any a ha W)
  have HPb := Lib.hid (fun W => vput_any b hb W)
  have HM := Lib.hid (uvarint_mono b a)
  have HA := Lib.hid (uvarint_alone ha hb)
  have HJ := Lib.hid (uvarint_inj ha hb)
  obtain ⟨xs, hxs⟩ : ∃ xs, uvarint a = xs := ⟨_, rfl⟩
  obtain ⟨ys, hys⟩ : ∃ ys, uvarint b = ys := ⟨_, rfl⟩
  have HX := Lib.hid hxs
  have HY := Lib.hid hys
  rw [hxs] at hxa ha1
  rw [hys] at hxb hb1
  clear hxs hys
  by_cases hab : a = b
  · subst hab
    have e1 : xs = ys := HX.out.symm.trans HY.out
    subst e1
    clear HJ HA HM
    go_enter Try.func7, Try.ntmps7
    go_wp2_with fail
    refine (awake_any _).mono ?_
    rintro e w1 ⟨rfl, hb1⟩
    go_wp2_with fail
    refine (HPa.out _).mono ?_
    rintro e w2 ⟨v2, rfl, ho2, hb2⟩
    have B2 := hb1.trans (hb2.mono hb1.size)
    obtain ⟨A2, m2, c2, rfl, hm2, hmc2, hcm2, hr2⟩ := ho2.sl
    rw [HX.out] at hm2 hr2
    have hm10 : (m2 : Int) ≤ 10 := by omega
    have HM2 := Lib.hid hm2
    clear hm2
    go_wp2_with fail
    refine (HPb.out _).mono ?_
    rintro e w3 ⟨v3, rfl, ho3, hb3⟩
    have B3 := B2.trans (hb3.mono B2.size)
    obtain ⟨A3, m3, c3, rfl, hm3, hmc3, hcm3, hr3⟩ := ho3.sl
    rw [HX.out] at hm3 hr3
    obtain rfl : m3 = m2 := by rw [hm3, HM2.out]
    clear hm3
    go_wp2_with fail
    refine (same_any _ _ _ (hr2.below hb3) hr3).mono ?_
    rintro e w4 ⟨rfl, rfl⟩
    go_wp2_with fail
    go_ret
    exact ⟨rfl, B3⟩
  · have hne : xs ≠ ys := fun e => hab (HJ.out (by rw [HX.out, HY.out]; exact e))
    have hab1 : ((a : Int) == (b : Int)) = false := beq_eq_false_iff_ne.2 (by omega)
    have hab2 : (a == b) = false := beq_eq_false_iff_ne.2 hab
    go_enter Try.func7, Try.ntmps7
    go_wp2_with fail
    refine (awake_any _).mono ?_
    rintro e w1 ⟨rfl, hb1⟩
    go_wp2_with fail
    refine (HPa.out _).mono ?_
    rintro e w2 ⟨v2, rfl, ho2, hb2⟩
    have B2 := hb1.trans (hb2.mono hb1.size)
    obtain ⟨A2, m2, c2, rfl, hm2, hmc2, hcm2, hr2⟩ := ho2.sl
    rw [HX.out] at hm2 hr2
    have hm10 : (m2 : Int) ≤ 10 := by omega
    have HM2 := Lib.hid hm2
    clear hm2
    go_wp2_with fail
    refine (HPb.out _).mono ?_
    rintro e w3 ⟨v3, rfl, ho3, hb3⟩
    have B3 := B2.trans (hb3.mono B2.size)
    obtain ⟨A3, m3, c3, rfl, hm3, hmc3, hcm3, hr3⟩ := ho3.sl
    rw [HY.out] at hm3 hr3
    have hm10' : (m3 : Int) ≤ 10 := by omega
    have HM3 := Lib.hid hm3
    clear hm3
    have HN := Lib.hid hne
    clear hne hab
    have hr23 := hr2.below hb3
    by_cases hle : a ≤ b
    · have hle1 : (a : Int) ≤ (b : Int) := by omega
      have hmm : m2 ≤ m3 := by
        have := HM.out hle
        rw [HX.out, HY.out] at this
        rw [HM2.out, HM3.out]; exact this
      have hmm1 : (m2 : Int) ≤ (m3 : Int) := by omega
      have hmm2 : decide ((m3 : Int) < (m2 : Int)) = false := decide_eq_false (by omega)
      have hmc : m2 ≤ c3 := by omega
      have hmc1 : (m2 : Int) ≤ (c3 : Int) := by omega
      have ht : xs ≠ ys.take m2 := fun e => HN.out (by
        have : a = b := HA.out (by rw [HX.out, HY.out, ← HM2.out]; exact e)
        subst this
        exact HX.out.symm.trans HY.out)
      have HT := Lib.hid ht
      clear ht
      go_wp2_with fail
      refine (differ_any _ _ _ hr23 hr3 HN.out).mono ?_
      rintro e w4 ⟨rfl, rfl⟩
      go_wp2_with fail
      refine (differ_any _ _ _ hr23 (hr3.take hmm) HT.out).mono ?_
      rintro e w4 ⟨rfl, rfl⟩
      go_wp2_with fail
      go_ret
      exact ⟨rfl, B3⟩
    · have hle1 : (b : Int) < (a : Int) := by omega
      have hle2 : decide ((a : Int) ≤ (b : Int)) = false := decide_eq_false (by omega)
      by_cases hmm : m3 < m2
      · have hmm1 : (m3 : Int) < (m2 : Int) := by omega
        go_wp2_with fail
        refine (differ_any _ _ _ hr23 hr3 HN.out).mono ?_
        rintro e w4 ⟨rfl, rfl⟩
        go_wp2_with fail
        go_ret
        exact ⟨rfl, B3⟩
      · have hmm0 : m2 ≤ m3 := by omega
        have hmm1 : (m2 : Int) ≤ (m3 : Int) := by omega
        have hmm2 : decide ((m3 : Int) < (m2 : Int)) = false := decide_eq_false (by omega)
        have hmc : m2 ≤ c3 := by omega
        have hmc1 : (m2 : Int) ≤ (c3 : Int) := by omega
        have ht : xs ≠ ys.take m2 := fun e => HN.out (by
          have : a = b := HA.out (by rw [HX.out, HY.out, ← HM2.out]; exact e)
          subst this
          exact HX.out.symm.trans HY.out)
        have HT := Lib.hid ht
        clear ht
        go_wp2_with fail
        refine (differ_any _ _ _ hr23 hr3 HN.out).mono ?_
        rintro e w4 ⟨rfl, rfl⟩
        go_wp2_with fail
        refine (differ_any _ _ _ hr23 (hr3.take hmm0) HT.out).mono ?_
        rintro e w4 ⟨rfl, rfl⟩
        go_wp2_with fail
        go_ret
        exact ⟨rfl, B3⟩

theorem varintOrder_walks : WalksTrue 7 Try.f7 := by
  intro H enc W base args ds p hval hA
  rw [Try.params7] at hA hval
  obtain ⟨v0, vs0, d0, ds0, p0, q0, hargs, rfl, rfl, h0, r0⟩ := trodAll_cons hA
  obtain ⟨v1, vs1, d1, ds1, p1, q1, rfl, rfl, rfl, h1, r1⟩ := trodAll_cons r0
  obtain ⟨rfl, rfl, rfl⟩ := trodAll_nil r1
  obtain rfl : args = #[v0, v1] := by cases args; simp_all
  obtain ⟨a0, rfl, rfl, rfl, w0⟩ := open_int Try.underlying24 (hval 0 24 v0 rfl rfl) h0
  obtain ⟨g0a, g0b⟩ := range_u64 w0
  obtain ⟨n0, rfl⟩ := Int.eq_ofNat_of_zero_le g0a
  obtain ⟨a1, rfl, rfl, rfl, w1⟩ := open_int Try.underlying24 (hval 1 24 v1 rfl rfl) h1
  obtain ⟨g1a, g1b⟩ := range_u64 w1
  obtain ⟨n1, rfl⟩ := Int.eq_ofNat_of_zero_le g1a
  exact varintOrder_walk n0 (by omega) n1 (by omega) W

theorem varintOrder_said : Rows.VarintOrderSaid :=
  OpenClaim.holds_of_wide 7 Try.f7 rfl rfl rfl rfl rfl rfl rfl ⟨rfl, rfl, rfl, rfl, rfl⟩ rfl rfl rfl rfl rfl (by kernel_rfl) Try.func7 (by kernel_rfl)
    (of_decide_eq_true (by kernel_rfl)) (by unfold Func.isWrapper; first | (rw [if_pos (by decide +kernel)]; kernel_rfl) | (rw [if_neg (by decide +kernel)]; exact ⟨rfl, rfl⟩))
    (fun os started H enc _ => law_lift (s := Rows.varintOrderSpec) Try.func7 (by kernel_rfl) rfl rfl (by intro H ds hd; match ds, hd with | [_, _], _ => exact ⟨rfl, rfl, rfl⟩) (by kernel_rfl) varintOrder_walks os started H enc
      (ChangeSpec.witness6 (enc := enc) (C := Try.checked) false ⟨#[], #[.int .u64 0, .int .u64 0], []⟩ 8 (by kernel_rfl) (by kernel_rfl) (by kernel_rfl) (by kernel_rfl)))

end Go.Proofs.Ytnbehleppmnjdaa
