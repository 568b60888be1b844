/-
  PROVED HERE: 'OctetPadsSaid': whatever n and b are, the Go function OctetPads of package wayleavelaw01 returns true, and its arguments read behind the call as they read before. No condition.
-/
import Derived.Test.YtgfgpnhljjkmjaaAwake
import Derived.Test.YtgfgpnhljjkmjaaLift
namespace Go.Proofs.Ytgfgpnhljjkmjaa
open Go.RowKit Go.Shelf Go.ChangeShapes Go.WideShapes Go.ChangeAt

set_option maxRecDepth 100000 in
set_option maxHeartbeats 2000000 in
theorem octetPads_walk (z : Int) (hz1 : -9223372036854775808 ≤ z) (hz2 : z ≤ 9223372036854775807) (A : Option Addr) (len cap : Nat) (xs : List UInt8) (_ : len ≤ cap) (_ : cap ≤ maxLen) (w : World) (hI : Rd w w.heap.size A len xs) :
    Calls Try.prog 7 #[.int .i64 z, .slice A len cap] w fun e W' => e = .returned (.bool true) ∧ Below w.heap.size w W' := by
  by_cases hbig : 1000 < len
  · have hb' : (1000 : Int) < (len : Int) := by omega
    go_enter Try.func7, Try.ntmps7
    go_wp2_with fail
    refine (awake_any _).mono ?_
    rintro e w1 ⟨rfl, hb1⟩
    go_wp2_with fail
    refine (awake_any _).mono ?_
    rintro e w2 ⟨rfl, hb2⟩
    go_wp2_with fail
    go_ret
    exact ⟨rfl, hb1.trans (hb2.mono hb1.size)⟩
  · have hb' : (len : Int) ≤ 1000 := by omega
    obtain ⟨q, hq⟩ : ∃ q, padN len = q := ⟨_, rfl⟩
    have hq3 : q ≤ 3 := by unfold padN at hq; omega
    have hqq : padN (len + q) = 0 := by unfold padN at hq ⊢; omega
    have hqo : padOf (len : Int) = (q : Int) := by rw [padOf_nat]; unfold padN at hq; rw [hq]
    have HQ := Lib.hid hq
    have HQQ := Lib.hid hqq
    have HQO := Lib.hid hqo
    clear hq hqq hqo
    obtain ⟨p, hp⟩ : ∃ p, padOf z = p := ⟨_, rfl⟩
    have hp0 : 0 ≤ p := by unfold padOf at hp; split at hp <;> omega
    have hp3 : p ≤ 3 := by unfold padOf at hp; split at hp <;> omega
    have HP := Lib.hid hp
    clear hp
    have HZ : z < 0 ∨ 0 ≤ z := by omega
    rcases HZ with hz | hz
    · have hpz : p = 0 := by have := HP.out; unfold padOf at this; rw [if_pos hz] at this; exact this.symm
      subst hpz
      go_enter Try.func7, Try.ntmps7
      go_wp2_with fail
      refine (awake_any _).mono ?_
      rintro e w1 ⟨rfl, hb1⟩
      go_wp2_with fail
      refine (pad_any z hz1 hz2 _).mono ?_
      rintro e w2 ⟨rfl, rfl⟩
      rw [HP.out]
      have hI1 := (hI.below hb1).more hb1.size
      go_wp2_with fail
      refine (padded_any A len cap xs (by omega) _ hI1).mono ?_
      rintro e w3 ⟨v3, rfl, ho3, hb3⟩
      rw [HQ.out] at ho3
      have B3 := hb1.trans (hb3.mono hb1.size)
      obtain ⟨A3, m3, c3, rfl, hm3, hmc3, hcm3, hr3⟩ := ho3.sl
      rw [List.length_append, List.length_replicate, hI.len] at hm3
      subst hm3
      go_wp2_with fail
      refine (pad_any _ (by omega) (by omega) _).mono ?_
      rintro e w4 ⟨rfl, rfl⟩
      rw [HQO.out]
      have hI3 := (hI.below B3).more B3.size
      go_wp2_with fail
      refine (rpadded_any A len cap xs (by omega) _ hI3).mono ?_
      rintro e w5 ⟨v5, rfl, ho5, hb5⟩
      rw [HQ.out] at ho5
      have B5 := B3.trans (hb5.mono B3.size)
      obtain ⟨A5, m5, c5, rfl, hm5, hmc5, hcm5, hr5⟩ := ho5.sl
      clear hm5
      have hr35 := (hr3.below hb5).more hb5.size
      go_wp2_with fail
      refine (same_any _ _ _ hr35 hr5).mono ?_
      rintro e w6 ⟨rfl, rfl⟩
      go_wp2_with fail
      refine (padded_any A3 (len + q) c3 _ (by omega) _ hr35).mono ?_
      rintro e w7 ⟨v7, rfl, ho7, hb7⟩
      rw [HQQ.out, List.replicate_zero, List.append_nil] at ho7
      have B7 := B5.trans (hb7.mono B5.size)
      obtain ⟨A7, m7, c7, rfl, hm7, hmc7, hcm7, hr7⟩ := ho7.sl
      clear hm7
      go_wp2_with fail
      refine (same_any _ _ _ hr7 (hr35.below hb7)).mono ?_
      rintro e w8 ⟨rfl, rfl⟩
      go_wp2_with fail
      go_ret
      exact ⟨rfl, B7⟩
    · have hpz : (z % 4 + p) % 4 = 0 := by have := HP.out; unfold padOf at this; rw [if_neg (by omega)] at this; omega
      have hpz2 : (z + p) % 4 = 0 := by omega
      go_enter Try.func7, Try.ntmps7
      go_wp2_with fail
      refine (awake_any _).mono ?_
      rintro e w1 ⟨rfl, hb1⟩
      go_wp2_with fail
      refine (pad_any z hz1 hz2 _).mono ?_
      rintro e w2 ⟨rfl, rfl⟩
      rw [HP.out]
      have hI1 := (hI.below hb1).more hb1.size
      go_wp2_with fail
      refine (padded_any A len cap xs (by omega) _ hI1).mono ?_
      rintro e w3 ⟨v3, rfl, ho3, hb3⟩
      rw [HQ.out] at ho3
      have B3 := hb1.trans (hb3.mono hb1.size)
      obtain ⟨A3, m3, c3, rfl, hm3, hmc3, hcm3, hr3⟩ := ho3.sl
      rw [List.length_append, List.length_replicate, hI.len] at hm3
      subst hm3
      go_wp2_with fail
      refine (pad_any _ (by omega) (by omega) _).mono ?_
      rintro e w4 ⟨rfl, rfl⟩
      rw [HQO.out]
      have hI3 := (hI.below B3).more B3.size
      go_wp2_with fail
      refine (rpadded_any A len cap xs (by omega) _ hI3).mono ?_
      rintro e w5 ⟨v5, rfl, ho5, hb5⟩
      rw [HQ.out] at ho5
      have B5 := B3.trans (hb5.mono B3.size)
      obtain ⟨A5, m5, c5, rfl, hm5, hmc5, hcm5, hr5⟩ := ho5.sl
      clear hm5
      have hr35 := (hr3.below hb5).more hb5.size
      go_wp2_with fail
      refine (same_any _ _ _ hr35 hr5).mono ?_
      rintro e w6 ⟨rfl, rfl⟩
      go_wp2_with fail
      refine (padded_any A3 (len + q) c3 _ (by omega) _ hr35).mono ?_
      rintro e w7 ⟨v7, rfl, ho7, hb7⟩
      rw [HQQ.out, List.replicate_zero, List.append_nil] at ho7
      have B7 := B5.trans (hb7.mono B5.size)
      obtain ⟨A7, m7, c7, rfl, hm7, hmc7, hcm7, hr7⟩ := ho7.sl
      clear hm7
      go_wp2_with fail
      refine (same_any _ _ _ hr7 (hr35.below hb7)).mono ?_
      rintro e w8 ⟨rfl, rfl⟩
      go_wp2_with fail
      go_ret
      exact ⟨rfl, B7⟩

theorem octetPads_walks : WalksTrue 7 Try.f7 := by
  intro H enc W base args ds p hval hA
  rw [Try.params7] at hA hval
  obtain ⟨v0, vs0, d0, ds0, p0, q0, hargs, rfl, rfl, h0, r0⟩ := trodAll_cons hA
  obtain ⟨v1, vs1, d1, ds1, p1, q1, rfl, rfl, rfl, h1, r1⟩ := trodAll_cons r0
  obtain ⟨rfl, rfl, rfl⟩ := trodAll_nil r1
  obtain rfl : args = #[v0, v1] := by cases args; simp_all
  obtain ⟨a0, rfl, rfl, rfl, w0⟩ := open_int Try.underlying3 (hval 0 3 v0 rfl rfl) h0
  obtain ⟨g0a, g0b⟩ := range_i64 w0
  obtain ⟨A1, len1, cap1, xs1, rfl, hc1, hm1, hI1⟩ := open_bytes (hval 1 23 v1 rfl rfl) h1
  exact octetPads_walk a0 g0a g0b A1 len1 cap1 xs1 hc1 hm1 W hI1

theorem octetPads_said : Rows.OctetPadsSaid :=
  OpenClaim.holds_of_wide 7 Try.f7 rfl rfl rfl rfl rfl rfl rfl ⟨rfl, rfl, rfl, rfl, rfl⟩ rfl rfl rfl rfl rfl (by kernel_rfl) Try.func7 (by kernel_rfl)
    (of_decide_eq_true (by kernel_rfl)) (by unfold Func.isWrapper; first | (rw [if_pos (by decide +kernel)]; kernel_rfl) | (rw [if_neg (by decide +kernel)]; exact ⟨rfl, rfl⟩))
    (fun os started H enc _ => law_lift (s := Rows.octetPadsSpec) Try.func7 (by kernel_rfl) rfl rfl (by intro H ds hd; match ds, hd with | [_, _], _ => exact ⟨rfl, rfl, rfl⟩) (by kernel_rfl) octetPads_walks os started H enc
      (ChangeSpec.witness6 (enc := enc) (C := Try.checked) false ⟨#[], #[.int .i64 0, .slice none 0 0], []⟩ 8 (by kernel_rfl) (by kernel_rfl) (by kernel_rfl) (by kernel_rfl)))

end Go.Proofs.Ytgfgpnhljjkmjaa
