/-
  PROVED HERE: 'WeightBitsSaid': whatever u, v and b are, the Go function WeightBits of package wayleavelaw14 returns true, and its arguments read behind the call as they read before. No condition.
-/
import Derived.Test.YtcimgbjliamaiaaWA
namespace Go.Proofs.Ytcimgbjliamaiaa
set_option maxRecDepth 100000
open Go.RowKit Go.Lib Go.Shelf Go.ChangeShapes Go.WideShapes Go.ChangeAt

set_option maxHeartbeats 8000000 in
theorem bits_all (u v cu z : Nat) (q o : Bool) (A : Option Addr) (len cap : Nat) (xs X Y : List UInt8) (h100 : len ≤ 100) (w : World) (HI : Hid (Rd w w.heap.size A len xs))
    (hA : Hid (∀ W : World, Calls Try.prog 9 #[] W fun e w' => e = .returned (.bool true) ∧ Below W.heap.size W w'))
    (hU : Hid (∀ W : World, Calls Try.prog 21 #[.float .f64 u] W fun e W' => ∃ v, e = .returned v ∧ Own8 W' W.heap.size v X ∧ Below W.heap.size W W'))
    (hR : Hid (∀ W : World, Calls Try.prog 24 #[.float .f64 u] W fun e W' => ∃ v, e = .returned v ∧ Own8 W' W.heap.size v X ∧ Below W.heap.size W W'))
    (hV : Hid (∀ W : World, Calls Try.prog 21 #[.float .f64 v] W fun e W' => ∃ v, e = .returned v ∧ Own8 W' W.heap.size v Y ∧ Below W.heap.size W W'))
    (hG : Hid (∀ (A : Option Addr) (c : Nat) (W : World), 8 ≤ c → c ≤ maxLen → Rd W W.heap.size A 8 X → Calls Try.prog 22 #[.slice A 8 c] W fun e w' => e = .returned (.tuple #[.float .f64 cu, .bool true]) ∧ Below W.heap.size W w'))
    (hS1 : Hid (∀ W : World, Calls Try.prog 14 #[.float .f64 cu, .float .f64 u] W fun e w' => e = .returned (.bool true) ∧ Below W.heap.size W w'))
    (hS2 : Hid (∀ W : World, Calls Try.prog 14 #[.float .f64 u, .float .f64 v] W fun e w' => e = .returned (.bool q) ∧ Below W.heap.size W w'))
    (hG1 : Hid (∀ W : World, Rd W W.heap.size A len xs → Calls Try.prog 22 #[.slice A len cap] W fun e w' => e = .returned (.tuple #[.float .f64 z, .bool o]) ∧ Below W.heap.size W w'))
    (hG2 : Hid (∀ W : World, Rd W W.heap.size A len xs → Calls Try.prog 25 #[.slice A len cap] W fun e w' => e = .returned (.tuple #[.float .f64 z, .bool o]) ∧ Below W.heap.size W w'))
    (hS3 : Hid (∀ W : World, Calls Try.prog 26 #[.float .f64 z, .float .f64 z] W fun e w' => e = .returned (.bool true) ∧ Below W.heap.size W w'))
    (hZ : o = true → Hid (∀ W : World, Calls Try.prog 21 #[.float .f64 z] W fun e W' => ∃ v, e = .returned v ∧ Own8 W' W.heap.size v xs ∧ Below W.heap.size W W'))
    (HX : Hid (X.length = 8)) (hq : q = true → Y = X) (hq2 : q = false → Hid (X ≠ Y)) :
    Calls Try.prog 7 #[.int .u64 (u : Int), .int .u64 (v : Int), .slice A len cap] w fun e w' => e = .returned (.bool true) ∧ Below w.heap.size w w' := by
  have bu := run_f64from u
  have bv := run_f64from v
  have h1 : ¬ (100 : Int) < (len : Int) := by omega
  clear h100
  cases q
  · have HN := hq2 rfl
    clear hq hq2
    cases o
    · clear hZ
      go_enter Try.func7, Try.ntmps7
      go_wp2_with (first
        | (with_reducible refine (hA.out w).mono ?_; rintro e w1 ⟨rfl, B⟩)
        | (with_reducible refine (hU.out w1).mono ?_; rintro e w2 ⟨v2, rfl, ho2, hs⟩; have B := B.trans (hs.mono B.size); obtain ⟨A2, m2, c2, rfl, hm2, hc2, hc3, hr2⟩ := ho2.sl; rw [HX.out] at hm2; subst hm2; have B2 := Below.refl w2.heap.size w2; clear hs ho2)
        | (with_reducible refine (hG.out A2 c2 w2 hc2 hc3 hr2).mono ?_; rintro e w3 ⟨rfl, hs⟩; have B := B.trans (hs.mono B.size); have B2 := B2.trans (hs.mono B2.size); clear hs)
        | (with_reducible refine (hR.out w3).mono ?_; rintro e w4 ⟨v4, rfl, ho4, hs⟩; have B := B.trans (hs.mono B.size); have B2 := B2.trans (hs.mono B2.size); obtain ⟨A4, m4, c4, rfl, hm4, _, _, hr4⟩ := ho4.sl; clear hm4 hs ho4)
        | (with_reducible refine (same_any w4 c2 c4 (hr2.below B2) hr4).mono ?_; rintro e w' ⟨rfl, rfl⟩)
        | (with_reducible refine (hS1.out w4).mono ?_; rintro e w5 ⟨rfl, hs⟩; have B := B.trans (hs.mono B.size); have B2 := B2.trans (hs.mono B2.size); clear hs)
        | (with_reducible refine (hS2.out w5).mono ?_; rintro e w6 ⟨rfl, hs⟩; have B := B.trans (hs.mono B.size); have B2 := B2.trans (hs.mono B2.size); clear hs)
        | (with_reducible refine (hV.out w6).mono ?_; rintro e w7 ⟨v7, rfl, ho7, hs⟩; have B := B.trans (hs.mono B.size); have B2 := B2.trans (hs.mono B2.size); obtain ⟨A7, m7, c7, rfl, hm7, _, _, hr7⟩ := ho7.sl; clear hm7 hs ho7)
        | (with_reducible refine (differ_any w7 c2 c7 (hr2.below B2) hr7 HN.out).mono ?_; rintro e w' ⟨rfl, rfl⟩)
        | (with_reducible refine (hG1.out w7 ((HI.out.below B).more B.size)).mono ?_; rintro e w8 ⟨rfl, hs⟩; have B := B.trans (hs.mono B.size); clear hs)
        | (with_reducible refine (hG2.out w8 ((HI.out.below B).more B.size)).mono ?_; rintro e w9 ⟨rfl, hs⟩; have B := B.trans (hs.mono B.size); clear hs)
        | (with_reducible refine (hS3.out w9).mono ?_; rintro e w10 ⟨rfl, hs⟩; have B := B.trans (hs.mono B.size); clear hs))
      go_ret
      exact ⟨rfl, B⟩
    · have HZ := hZ rfl
      clear hZ
      go_enter Try.func7, Try.ntmps7
      go_wp2_with (first
        | (with_reducible refine (hA.out w).mono ?_; rintro e w1 ⟨rfl, B⟩)
        | (with_reducible refine (hU.out w1).mono ?_; rintro e w2 ⟨v2, rfl, ho2, hs⟩; have B := B.trans (hs.mono B.size); obtain ⟨A2, m2, c2, rfl, hm2, hc2, hc3, hr2⟩ := ho2.sl; rw [HX.out] at hm2; subst hm2; have B2 := Below.refl w2.heap.size w2; clear hs ho2)
        | (with_reducible refine (hG.out A2 c2 w2 hc2 hc3 hr2).mono ?_; rintro e w3 ⟨rfl, hs⟩; have B := B.trans (hs.mono B.size); have B2 := B2.trans (hs.mono B2.size); clear hs)
        | (with_reducible refine (hR.out w3).mono ?_; rintro e w4 ⟨v4, rfl, ho4, hs⟩; have B := B.trans (hs.mono B.size); have B2 := B2.trans (hs.mono B2.size); obtain ⟨A4, m4, c4, rfl, hm4, _, _, hr4⟩ := ho4.sl; clear hm4 hs ho4)
        | (with_reducible refine (same_any w4 c2 c4 (hr2.below B2) hr4).mono ?_; rintro e w' ⟨rfl, rfl⟩)
        | (with_reducible refine (hS1.out w4).mono ?_; rintro e w5 ⟨rfl, hs⟩; have B := B.trans (hs.mono B.size); have B2 := B2.trans (hs.mono B2.size); clear hs)
        | (with_reducible refine (hS2.out w5).mono ?_; rintro e w6 ⟨rfl, hs⟩; have B := B.trans (hs.mono B.size); have B2 := B2.trans (hs.mono B2.size); clear hs)
        | (with_reducible refine (hV.out w6).mono ?_; rintro e w7 ⟨v7, rfl, ho7, hs⟩; have B := B.trans (hs.mono B.size); have B2 := B2.trans (hs.mono B2.size); obtain ⟨A7, m7, c7, rfl, hm7, _, _, hr7⟩ := ho7.sl; clear hm7 hs ho7)
        | (with_reducible refine (differ_any w7 c2 c7 (hr2.below B2) hr7 HN.out).mono ?_; rintro e w' ⟨rfl, rfl⟩)
        | (with_reducible refine (hG1.out w7 ((HI.out.below B).more B.size)).mono ?_; rintro e w8 ⟨rfl, hs⟩; have B := B.trans (hs.mono B.size); clear hs)
        | (with_reducible refine (hG2.out w8 ((HI.out.below B).more B.size)).mono ?_; rintro e w9 ⟨rfl, hs⟩; have B := B.trans (hs.mono B.size); clear hs)
        | (with_reducible refine (hS3.out w9).mono ?_; rintro e w10 ⟨rfl, hs⟩; have B := B.trans (hs.mono B.size); clear hs)
        | (with_reducible refine (HZ.out w10).mono ?_; rintro e w11 ⟨v11, rfl, ho11, hs⟩; have B := B.trans (hs.mono B.size); obtain ⟨A11, m11, c11, rfl, hm11, _, _, hr11⟩ := ho11.sl; clear hm11 hs ho11)
        | (with_reducible refine (same_any w11 c11 cap hr11 (HI.out.below B)).mono ?_; rintro e w' ⟨rfl, rfl⟩))
      go_ret
      exact ⟨rfl, B⟩
  · obtain rfl := hq rfl
    clear hq hq2
    cases o
    · clear hZ
      go_enter Try.func7, Try.ntmps7
      go_wp2_with (first
        | (with_reducible refine (hA.out w).mono ?_; rintro e w1 ⟨rfl, B⟩)
        | (with_reducible refine (hU.out w1).mono ?_; rintro e w2 ⟨v2, rfl, ho2, hs⟩; have B := B.trans (hs.mono B.size); obtain ⟨A2, m2, c2, rfl, hm2, hc2, hc3, hr2⟩ := ho2.sl; rw [HX.out] at hm2; subst hm2; have B2 := Below.refl w2.heap.size w2; clear hs ho2)
        | (with_reducible refine (hG.out A2 c2 w2 hc2 hc3 hr2).mono ?_; rintro e w3 ⟨rfl, hs⟩; have B := B.trans (hs.mono B.size); have B2 := B2.trans (hs.mono B2.size); clear hs)
        | (with_reducible refine (hR.out w3).mono ?_; rintro e w4 ⟨v4, rfl, ho4, hs⟩; have B := B.trans (hs.mono B.size); have B2 := B2.trans (hs.mono B2.size); obtain ⟨A4, m4, c4, rfl, hm4, _, _, hr4⟩ := ho4.sl; clear hm4 hs ho4)
        | (with_reducible refine (same_any w4 c2 c4 (hr2.below B2) hr4).mono ?_; rintro e w' ⟨rfl, rfl⟩)
        | (with_reducible refine (hS1.out w4).mono ?_; rintro e w5 ⟨rfl, hs⟩; have B := B.trans (hs.mono B.size); have B2 := B2.trans (hs.mono B2.size); clear hs)
        | (with_reducible refine (hS2.out w5).mono ?_; rintro e w6 ⟨rfl, hs⟩; have B := B.trans (hs.mono B.size); have B2 := B2.trans (hs.mono B2.size); clear hs)
        | (with_reducible refine (hV.out w6).mono ?_; rintro e w7 ⟨v7, rfl, ho7, hs⟩; have B := B.trans (hs.mono B.size); have B2 := B2.trans (hs.mono B2.size); obtain ⟨A7, m7, c7, rfl, hm7, _, _, hr7⟩ := ho7.sl; clear hm7 hs ho7)
        | (with_reducible refine (same_any w7 c2 c7 (hr2.below B2) hr7).mono ?_; rintro e w' ⟨rfl, rfl⟩)
        | (with_reducible refine (hG1.out w7 ((HI.out.below B).more B.size)).mono ?_; rintro e w8 ⟨rfl, hs⟩; have B := B.trans (hs.mono B.size); clear hs)
        | (with_reducible refine (hG2.out w8 ((HI.out.below B).more B.size)).mono ?_; rintro e w9 ⟨rfl, hs⟩; have B := B.trans (hs.mono B.size); clear hs)
        | (with_reducible refine (hS3.out w9).mono ?_; rintro e w10 ⟨rfl, hs⟩; have B := B.trans (hs.mono B.size); clear hs))
      go_ret
      exact ⟨rfl, B⟩
    · have HZ := hZ rfl
      clear hZ
      go_enter Try.func7, Try.ntmps7
      go_wp2_with (first
        | (with_reducible refine (hA.out w).mono ?_; rintro e w1 ⟨rfl, B⟩)
        | (with_reducible refine (hU.out w1).mono ?_; rintro e w2 ⟨v2, rfl, ho2, hs⟩; have B := B.trans (hs.mono B.size); obtain ⟨A2, m2, c2, rfl, hm2, hc2, hc3, hr2⟩ := ho2.sl; rw [HX.out] at hm2; subst hm2; have B2 := Below.refl w2.heap.size w2; clear hs ho2)
        | (with_reducible refine (hG.out A2 c2 w2 hc2 hc3 hr2).mono ?_; rintro e w3 ⟨rfl, hs⟩; have B := B.trans (hs.mono B.size); have B2 := B2.trans (hs.mono B2.size); clear hs)
        | (with_reducible refine (hR.out w3).mono ?_; rintro e w4 ⟨v4, rfl, ho4, hs⟩; have B := B.trans (hs.mono B.size); have B2 := B2.trans (hs.mono B2.size); obtain ⟨A4, m4, c4, rfl, hm4, _, _, hr4⟩ := ho4.sl; clear hm4 hs ho4)
        | (with_reducible refine (same_any w4 c2 c4 (hr2.below B2) hr4).mono ?_; rintro e w' ⟨rfl, rfl⟩)
        | (with_reducible refine (hS1.out w4).mono ?_; rintro e w5 ⟨rfl, hs⟩; have B := B.trans (hs.mono B.size); have B2 := B2.trans (hs.mono B2.size); clear hs)
        | (with_reducible refine (hS2.out w5).mono ?_; rintro e w6 ⟨rfl, hs⟩; have B := B.trans (hs.mono B.size); have B2 := B2.trans (hs.mono B2.size); clear hs)
        | (with_reducible refine (hV.out w6).mono ?_; rintro e w7 ⟨v7, rfl, ho7, hs⟩; have B := B.trans (hs.mono B.size); have B2 := B2.trans (hs.mono B2.size); obtain ⟨A7, m7, c7, rfl, hm7, _, _, hr7⟩ := ho7.sl; clear hm7 hs ho7)
        | (with_reducible refine (same_any w7 c2 c7 (hr2.below B2) hr7).mono ?_; rintro e w' ⟨rfl, rfl⟩)
        | (with_reducible refine (hG1.out w7 ((HI.out.below B).more B.size)).mono ?_; rintro e w8 ⟨rfl, hs⟩; have B := B.trans (hs.mono B.size); clear hs)
        | (with_reducible refine (hG2.out w8 ((HI.out.below B).more B.size)).mono ?_; rintro e w9 ⟨rfl, hs⟩; have B := B.trans (hs.mono B.size); clear hs)
        | (with_reducible refine (hS3.out w9).mono ?_; rintro e w10 ⟨rfl, hs⟩; have B := B.trans (hs.mono B.size); clear hs)
        | (with_reducible refine (HZ.out w10).mono ?_; rintro e w11 ⟨v11, rfl, ho11, hs⟩; have B := B.trans (hs.mono B.size); obtain ⟨A11, m11, c11, rfl, hm11, _, _, hr11⟩ := ho11.sl; clear hm11 hs ho11)
        | (with_reducible refine (same_any w11 c11 cap hr11 (HI.out.below B)).mono ?_; rintro e w' ⟨rfl, rfl⟩))
      go_ret
      exact ⟨rfl, B⟩
theorem weightBits_walk (u : Nat) (hu : u < 18446744073709551616) (v : Nat) (hv : v < 18446744073709551616) (A : Option Addr) (len cap : Nat) (xs : List UInt8) (hcap : len ≤ cap) (hcm : cap ≤ maxLen) (w : World) (hI : Rd w w.heap.size A len xs) :
    Calls Try.prog 7 #[.int .u64 (u : Int), .int .u64 (v : Int), .slice A len cap] w fun e w' => e = .returned (.bool true) ∧ Below w.heap.size w w' := by
  rw [← T64_eq] at hu hv
  by_cases h100 : len ≤ 100
  · have hz := got_lt xs
    obtain ⟨k1, k2⟩ := ok_put hu
    have G := fun (A : Option Addr) (c : Nat) (W : World) (h1 : 8 ≤ c) (h2 : c ≤ maxLen) (h : Rd W W.heap.size A 8 (putW u)) => wget_any A 8 c (putW u) (by decide) h1 h2 W h
    rw [k1, k2] at G
    have S1 := fun W => wsame_any (can_lt hu) hu W
    rw [decide_eq_true (can_can u)] at S1
    have S3 := fun W => rsame14_any hz hz W
    rw [decide_eq_true rfl] at S3
    refine bits_all u v (canW u) (gotW xs) (decide (canW u = canW v)) (okW xs) A len cap xs (putW u) (putW v) h100 w (Lib.hid hI) (Lib.hid awake14) (Lib.hid fun W => wput_any hu W) (Lib.hid fun W => rput14_any hu W) (Lib.hid fun W => wput_any hv W)
      (Lib.hid G) (Lib.hid S1) (Lib.hid fun W => wsame_any hu hv W) (Lib.hid fun W h => wget_any A len cap xs (by omega) hcap hcm W h) (Lib.hid fun W h => rget14_any A len cap xs (by omega) W h) (Lib.hid S3)
      (fun ho => Lib.hid fun W => ?_) (Lib.hid (put_len u)) (fun h => ?_) (fun h => ?_)
    · have := wput_any hz W
      rw [(ok_bytes ho).1] at this
      exact this
    · exact ((put_inj hu hv).2 (of_decide_eq_true h)).symm
    · exact Lib.hid fun g => of_decide_eq_false h ((put_inj hu hv).1 g)
  · have h1 : (100 : Int) < (len : Int) := by omega
    have hA := Lib.hid awake14
    clear hI hu hv
    go_enter Try.func7, Try.ntmps7
    go_wp2_with (with_reducible refine (hA.out w).mono ?_; rintro e w1 ⟨rfl, B1⟩)
    go_wp2_with (with_reducible refine (hA.out w1).mono ?_; rintro e w2 ⟨rfl, B2⟩)
    go_ret
    exact ⟨rfl, B1.trans (B2.mono B1.size)⟩

theorem weightBits_walks : WalksTrue 7 Try.f7 := by
  intro H enc W base args ds p hval hA
  rw [Try.params7] at hA hval
  obtain ⟨v0, vs0, d0, ds0, p0, q0, hargs, rfl, rfl, h0, r0⟩ := trodAll_cons hA
  obtain ⟨v1, vs1, d1, ds1, p1, q1, rfl, rfl, rfl, h1, r1⟩ := trodAll_cons r0
  obtain ⟨v2, vs2, d2, ds2, p2, q2, rfl, rfl, rfl, h2, r2⟩ := trodAll_cons r1
  obtain ⟨rfl, rfl, rfl⟩ := trodAll_nil r2
  obtain rfl : args = #[v0, v1, v2] := by cases args; simp_all
  obtain ⟨a0, rfl, rfl, rfl, w0⟩ := open_int Try.underlying22 (hval 0 22 v0 rfl rfl) h0
  obtain ⟨g0a, g0b⟩ := range_u64 w0
  obtain ⟨n0, rfl⟩ := Int.eq_ofNat_of_zero_le g0a
  obtain ⟨a1, rfl, rfl, rfl, w1⟩ := open_int Try.underlying22 (hval 1 22 v1 rfl rfl) h1
  obtain ⟨g1a, g1b⟩ := range_u64 w1
  obtain ⟨n1, rfl⟩ := Int.eq_ofNat_of_zero_le g1a
  obtain ⟨A2, len2, cap2, xs2, rfl, hc2, hm2, hI2⟩ := open_bytes (hval 2 43 v2 rfl rfl) h2
  exact weightBits_walk n0 (by omega) n1 (by omega) A2 len2 cap2 xs2 hc2 hm2 W hI2

theorem weightBits_said : Rows.WeightBitsSaid :=
  OpenClaim.holds_of_wide 7 Try.f7 rfl rfl rfl rfl rfl rfl rfl ⟨rfl, rfl, rfl, rfl, rfl⟩ rfl rfl rfl rfl rfl (by kernel_rfl) Try.func7 (by kernel_rfl)
    (of_decide_eq_true (by kernel_rfl)) (by unfold Func.isWrapper; first | (rw [if_pos (by decide +kernel)]; kernel_rfl) | (rw [if_neg (by decide +kernel)]; exact ⟨rfl, rfl⟩))
    (fun os started H enc _ => law_lift (s := Rows.weightBitsSpec) Try.func7 (by kernel_rfl) rfl rfl (by intro H ds hd; match ds, hd with | [_, _, _], _ => exact ⟨rfl, rfl, rfl⟩) (by kernel_rfl) weightBits_walks os started H enc
      (ChangeSpec.witness6 (enc := enc) (C := Try.checked) false ⟨#[], #[.int .u64 0, .int .u64 0, .slice none 0 0], []⟩ 8 (by kernel_rfl) (by kernel_rfl) (by kernel_rfl) (by kernel_rfl)))

end Go.Proofs.Ytcimgbjliamaiaa
