/-
  PROVED HERE: 'OctetPutsSaid': whatever n, size, big and b are, the Go function OctetPuts of package wayleavelaw01 returns true, and its arguments read behind the call as they read before. No condition.
-/
import Derived.Test.YtgfgpnhljjkmjaaAwake
import Derived.Test.YtgfgpnhljjkmjaaLift
namespace Go.Proofs.Ytgfgpnhljjkmjaa
open Go.RowKit Go.Shelf Go.ChangeShapes Go.WideShapes Go.ChangeAt

set_option maxRecDepth 100000 in
set_option maxHeartbeats 2000000 in
theorem octetPuts_walk (n : Nat) (hn : n < 18446744073709551616) (z : Int) (big : Bool) (A : Option Addr) (len cap : Nat) (xs : List UInt8) (hcap : len ≤ cap) (hcm : cap ≤ maxLen) (w : World) (hI : Rd w w.heap.size A len xs) :
    Calls Try.prog 3 #[.int .u64 (n : Int), .int .i64 z, .bool big, .slice A len cap] w fun e W' => e = .returned (.bool true) ∧ Below w.heap.size w W' := by
  by_cases hbig : 1000 < len
  · have hb' : (1000 : Int) < (len : Int) := by omega
    go_enter Try.func3, Try.ntmps3
    go_wp2_with fail
    refine (awake_any _).mono ?_
    rintro e w1 ⟨rfl, hb1⟩
    go_wp2_with fail
    refine (awake_any _).mono ?_
    rintro e w2 ⟨rfl, hb2⟩
    go_wp2_with fail
    go_ret
    exact ⟨rfl, hb1.trans (hb2.mono hb1.size)⟩
  · have hb' : (len : Int) ≤ 1000 := by omega
    go_enter Try.func3, Try.ntmps3
    go_wp2_with fail
    refine (awake_any _).mono ?_
    rintro e w1 ⟨rfl, hb1⟩
    go_wp2_with fail
    refine (put_any n z big _).mono ?_
    rintro e w2 ⟨v2, rfl, ho2, hb2⟩
    have B2 := hb1.trans (hb2.mono hb1.size)
    obtain ⟨A2, m2, c2, rfl, hm2, hmc2, hcm2, hr2⟩ := ho2.sl
    clear hm2
    go_wp2_with fail
    refine (rput_any n hn z big _).mono ?_
    rintro e w3 ⟨v3, rfl, ho3, hb3⟩
    have B3 := B2.trans (hb3.mono B2.size)
    obtain ⟨A3, m3, c3, rfl, hm3, hmc3, hcm3, hr3⟩ := ho3.sl
    clear hm3
    go_wp2_with fail
    refine (same_any _ _ _ (hr2.below hb3) hr3).mono ?_
    rintro e w4 ⟨rfl, rfl⟩
    have hI3 := (hI.below B3).more B3.size
    go_wp2_with fail
    refine (get_any A len cap xs big (by omega) hcap hcm _ hI3).mono ?_
    rintro e w5 ⟨rfl, hb5⟩
    have B5 := B3.trans (hb5.mono B3.size)
    have hI5 := (hI.below B5).more B5.size
    go_wp2_with fail
    refine (rget_any A len cap xs big (by omega) _ hI5).mono ?_
    rintro e w6 ⟨rfl, rfl⟩
    go_wp2_with fail
    refine (turn_any A len cap xs (by omega) _ hI5).mono ?_
    rintro e w7 ⟨v7, rfl, ho7, hb7⟩
    have B7 := B5.trans (hb7.mono B5.size)
    obtain ⟨A7, m7, c7, rfl, hm7, hmc7, hcm7, hr7⟩ := ho7.sl
    clear hm7
    have hI7 := (hI.below B7).more B7.size
    go_wp2_with fail
    refine (rturn_any A len cap xs (by omega) _ hI7).mono ?_
    rintro e w8 ⟨v8', rfl, ho8, hb8⟩
    have B8 := B7.trans (hb8.mono B7.size)
    obtain ⟨A8, m8, c8, rfl, hm8, hmc8, hcm8, hr8⟩ := ho8.sl
    clear hm8
    go_wp2_with fail
    refine (same_any _ _ _ (hr7.below hb8) hr8).mono ?_
    rintro e w9 ⟨rfl, rfl⟩
    go_wp2_with fail
    go_ret
    exact ⟨rfl, B8⟩

theorem octetPuts_walks : WalksTrue 3 Try.f3 := by
  intro H enc W base args ds p hval hA
  rw [Try.params3] at hA hval
  obtain ⟨v0, vs0, d0, ds0, p0, q0, hargs, rfl, rfl, h0, r0⟩ := trodAll_cons hA
  obtain ⟨v1, vs1, d1, ds1, p1, q1, rfl, rfl, rfl, h1, r1⟩ := trodAll_cons r0
  obtain ⟨v2, vs2, d2, ds2, p2, q2, rfl, rfl, rfl, h2, r2⟩ := trodAll_cons r1
  obtain ⟨v3, vs3, d3, ds3, p3, q3, rfl, rfl, rfl, h3, r3⟩ := trodAll_cons r2
  obtain ⟨rfl, rfl, rfl⟩ := trodAll_nil r3
  obtain rfl : args = #[v0, v1, v2, v3] := by cases args; simp_all
  obtain ⟨a0, rfl, rfl, rfl, w0⟩ := open_int Try.underlying22 (hval 0 22 v0 rfl rfl) h0
  obtain ⟨a1, rfl, rfl, rfl, w1⟩ := open_int Try.underlying3 (hval 1 3 v1 rfl rfl) h1
  obtain ⟨a2, rfl, rfl, rfl⟩ := open_bool Try.underlying4 (hval 2 4 v2 rfl rfl) h2
  obtain ⟨A, len, cap, xs, rfl, hc, hm, hI⟩ := open_bytes (hval 3 23 v3 rfl rfl) h3
  obtain ⟨g1, g2⟩ := range_u64 w0
  obtain ⟨n, rfl⟩ := Int.eq_ofNat_of_zero_le g1
  exact octetPuts_walk n (by omega) a1 a2 A len cap xs hc hm W hI

theorem octetPuts_said : Rows.OctetPutsSaid :=
  OpenClaim.holds_of_wide 3 Try.f3 rfl rfl rfl rfl rfl rfl rfl ⟨rfl, rfl, rfl, rfl, rfl⟩ rfl rfl rfl rfl rfl (by kernel_rfl) Try.func3 (by kernel_rfl)
    (of_decide_eq_true (by kernel_rfl)) (by unfold Func.isWrapper; first | (rw [if_pos (by decide +kernel)]; kernel_rfl) | (rw [if_neg (by decide +kernel)]; exact ⟨rfl, rfl⟩))
    (fun os started H enc _ => law_lift (s := Rows.octetPutsSpec) Try.func3 (by kernel_rfl) rfl rfl (by intro H ds hd; match ds, hd with | [_, _, _, _], _ => exact ⟨rfl, rfl, rfl⟩) (by kernel_rfl) octetPuts_walks os started H enc
      (ChangeSpec.witness6 (enc := enc) (C := Try.checked) false ⟨#[], #[.int .u64 0, .int .i64 0, .bool false, .slice none 0 0], []⟩ 8 (by kernel_rfl) (by kernel_rfl) (by kernel_rfl) (by kernel_rfl)))

end Go.Proofs.Ytgfgpnhljjkmjaa
