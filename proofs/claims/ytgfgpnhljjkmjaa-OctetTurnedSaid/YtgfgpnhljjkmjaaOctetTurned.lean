/-
  PROVED HERE: 'OctetTurnedSaid': whatever n, size and b are, the Go function OctetTurned of package wayleavelaw01 returns true, and its arguments read behind the call as they read before. No condition.
-/
import Derived.Test.YtgfgpnhljjkmjaaAwake
import Derived.Test.YtgfgpnhljjkmjaaLift
namespace Go.Proofs.Ytgfgpnhljjkmjaa
open Go.RowKit Go.Shelf Go.ChangeShapes Go.WideShapes Go.ChangeAt

theorem bytesOf_rev (n k : Nat) : bytesOf n k true = (bytesOf n k false).reverse := rfl

set_option maxRecDepth 100000 in
set_option maxHeartbeats 2000000 in
theorem octetTurned_walk (n : Nat) (_ : n < 18446744073709551616) (s : Nat) (hs : s < 256) (A : Option Addr) (len cap : Nat) (xs : List UInt8) (hcap : len ≤ cap) (hcm : cap ≤ maxLen) (w : World) (hI : Rd w w.heap.size A len xs) :
    Calls Try.prog 5 #[.int .u64 (n : Int), .int .u8 (s : Int), .slice A len cap] w fun e W' => e = .returned (.bool true) ∧ Below w.heap.size w W' := by
  by_cases hbig : 1000 < len
  · have hb' : (1000 : Int) < (len : Int) := by omega
    go_enter Try.func5, Try.ntmps5
    go_wp2_with fail
    refine (awake_any _).mono ?_
    rintro e w1 ⟨rfl, hb1⟩
    go_wp2_with fail
    refine (awake_any _).mono ?_
    rintro e w2 ⟨rfl, hb2⟩
    go_wp2_with fail
    go_ret
    exact ⟨rfl, hb1.trans (hb2.mono hb1.size)⟩
  · have hb' : (len : Int) ≤ 1000 := by omega
    obtain ⟨k, hk⟩ : ∃ k : Nat, (s : Int) % 12 = (k : Int) := ⟨s % 12, by omega⟩
    go_enter Try.func5, Try.ntmps5
    go_wp2_with fail
    refine (awake_any _).mono ?_
    rintro e w1 ⟨rfl, hb1⟩
    go_wp2_with fail
    refine (put_any n _ true _).mono ?_
    rintro e w2 ⟨v2, rfl, ho2, hb2⟩
    have B2 := hb1.trans (hb2.mono hb1.size)
    obtain ⟨A2, m2, c2, rfl, hm2, hmc2, hcm2, hr2⟩ := ho2.sl
    clear hm2
    go_wp2_with fail
    refine (put_any n _ false _).mono ?_
    rintro e w3 ⟨v3, rfl, ho3, hb3⟩
    have B3 := B2.trans (hb3.mono B2.size)
    obtain ⟨A3, m3, c3, rfl, hm3, hmc3, hcm3, hr3⟩ := ho3.sl
    rw [bytesOf_length] at hm3
    have hm3' : m3 ≤ 8 := by rw [hm3]; exact sizeOf8_le _
    clear hm3
    have hr23 := hr2.below hb3
    clear hr2
    go_wp2_with fail
    refine (turn_any A3 m3 c3 _ (by omega) _ hr3).mono ?_
    rintro e w4 ⟨v4, rfl, ho4, hb4⟩
    have B4 := B3.trans (hb4.mono B3.size)
    obtain ⟨A4, m4, c4, rfl, hm4, hmc4, hcm4, hr4⟩ := ho4.sl
    clear hm4
    go_wp2_with fail
    refine (same_any _ _ _ ((hr23.more hb3.size).below hb4) hr4).mono ?_
    rintro e w5 ⟨rfl, rfl⟩
    have hI4 := (hI.below B4).more B4.size
    go_wp2_with fail
    refine (turn_any A len cap xs (by omega) _ hI4).mono ?_
    rintro e w6 ⟨v6, rfl, ho6, hb6⟩
    have B6 := B4.trans (hb6.mono B4.size)
    obtain ⟨A6, m6, c6, rfl, hm6, hmc6, hcm6, hr6⟩ := ho6.sl
    rw [List.length_reverse, hI.len] at hm6
    have hm6' : m6 ≤ 1000 := by omega
    clear hm6
    go_wp2_with fail
    refine (turn_any A6 m6 c6 _ (by omega) _ hr6).mono ?_
    rintro e w7 ⟨v7, rfl, ho7, hb7⟩
    rw [List.reverse_reverse] at ho7
    have B7 := B6.trans (hb7.mono B6.size)
    obtain ⟨A7, m7, c7, rfl, hm7, hmc7, hcm7, hr7⟩ := ho7.sl
    clear hm7
    have hI7 := (hI.below B7).more B7.size
    go_wp2_with fail
    refine (same_any _ _ _ hr7 hI7).mono ?_
    rintro e w8 ⟨rfl, rfl⟩
    by_cases h8 : 8 < len
    · have h8' : (8 : Int) < (len : Int) := by omega
      go_wp2_with fail
      go_ret
      exact ⟨rfl, B7⟩
    · have h8' : (len : Int) ≤ 8 := by omega
      go_wp2_with fail
      refine (get_any A len cap xs true (by omega) hcap hcm _ hI7).mono ?_
      rintro e w9 ⟨rfl, hb9⟩
      have B9 := B7.trans (hb9.mono B7.size)
      have hI9 := (hI.below B9).more B9.size
      go_wp2_with fail
      refine (turn_any A len cap xs (by omega) _ hI9).mono ?_
      rintro e w10 ⟨v10, rfl, ho10, hb10⟩
      have B10 := B9.trans (hb10.mono B9.size)
      obtain ⟨A10, m10, c10, rfl, hm10, hmc10, hcm10, hr10⟩ := ho10.sl
      rw [List.length_reverse, hI.len] at hm10
      have hm10' : m10 ≤ 8 := by omega
      clear hm10
      go_wp2_with fail
      refine (get_any A10 m10 c10 _ false (by omega) hmc10 hcm10 _ hr10).mono ?_
      rintro e w11 ⟨rfl, hb11⟩
      have B11 := B10.trans (hb11.mono B10.size)
      have he : getOf xs.reverse false = getOf xs true := by
        have h1 : xs.length ≤ 8 := by rw [hI.len]; omega
        unfold getOf
        simp only [if_true, Bool.false_eq_true, if_false]
        rw [List.take_of_length_le h1, List.take_of_length_le (by rw [List.length_reverse]; exact h1), List.reverse_reverse]
      rw [he]
      go_wp2_with fail
      go_ret
      exact ⟨rfl, B11⟩

theorem octetTurned_walks : WalksTrue 5 Try.f5 := by
  intro H enc W base args ds p hval hA
  rw [Try.params5] at hA hval
  obtain ⟨v0, vs0, d0, ds0, p0, q0, hargs, rfl, rfl, h0, r0⟩ := trodAll_cons hA
  obtain ⟨v1, vs1, d1, ds1, p1, q1, rfl, rfl, rfl, h1, r1⟩ := trodAll_cons r0
  obtain ⟨v2, vs2, d2, ds2, p2, q2, rfl, rfl, rfl, h2, r2⟩ := trodAll_cons r1
  obtain ⟨rfl, rfl, rfl⟩ := trodAll_nil r2
  obtain rfl : args = #[v0, v1, v2] := by cases args; simp_all
  obtain ⟨a0, rfl, rfl, rfl, w0⟩ := open_int Try.underlying22 (hval 0 22 v0 rfl rfl) h0
  obtain ⟨g0a, g0b⟩ := range_u64 w0
  obtain ⟨n0, rfl⟩ := Int.eq_ofNat_of_zero_le g0a
  obtain ⟨a1, rfl, rfl, rfl, w1⟩ := open_int Try.underlying5 (hval 1 5 v1 rfl rfl) h1
  obtain ⟨g1a, g1b⟩ := range_u8 w1
  obtain ⟨n1, rfl⟩ := Int.eq_ofNat_of_zero_le g1a
  obtain ⟨A2, len2, cap2, xs2, rfl, hc2, hm2, hI2⟩ := open_bytes (hval 2 23 v2 rfl rfl) h2
  exact octetTurned_walk n0 (by omega) n1 (by omega) A2 len2 cap2 xs2 hc2 hm2 W hI2

theorem octetTurned_said : Rows.OctetTurnedSaid :=
  OpenClaim.holds_of_wide 5 Try.f5 rfl rfl rfl rfl rfl rfl rfl ⟨rfl, rfl, rfl, rfl, rfl⟩ rfl rfl rfl rfl rfl (by kernel_rfl) Try.func5 (by kernel_rfl)
    (of_decide_eq_true (by kernel_rfl)) (by unfold Func.isWrapper; first | (rw [if_pos (by decide +kernel)]; kernel_rfl) | (rw [if_neg (by decide +kernel)]; exact ⟨rfl, rfl⟩))
    (fun os started H enc _ => law_lift (s := Rows.octetTurnedSpec) Try.func5 (by kernel_rfl) rfl rfl (by intro H ds hd; match ds, hd with | [_, _, _], _ => exact ⟨rfl, rfl, rfl⟩) (by kernel_rfl) octetTurned_walks os started H enc
      (ChangeSpec.witness6 (enc := enc) (C := Try.checked) false ⟨#[], #[.int .u64 0, .int .u8 0, .slice none 0 0], []⟩ 8 (by kernel_rfl) (by kernel_rfl) (by kernel_rfl) (by kernel_rfl)))

end Go.Proofs.Ytgfgpnhljjkmjaa
