/-
  PROVED HERE: 'CrcJoinSaid': whatever a and b are, the Go function CrcJoin of package wayleavelaw03 returns true. No condition.
-/
import Derived.Test.YtboaoidimbkidaaCrcAwake
import Derived.Test.YtboaoidimbkidaaLift
namespace Go.Proofs.Ytboaoidimbkidaa
open Go.RowKit Go.Lib Go.ChangeShapes Go.WideShapes Go.ChangeAt

set_option maxRecDepth 100000 in
set_option maxHeartbeats 4000000 in
theorem crcJoin_walk (A : Option Addr) (len cap : Nat) (xs : List UInt8) (_hcap : len ≤ cap) (_hcm : cap ≤ maxLen) (A' : Option Addr) (len' cap' : Nat) (ys : List UInt8) (_hcap' : len' ≤ cap') (_hcm' : cap' ≤ maxLen) (w : World) (hI : Rd w w.heap.size A len xs) (hJ : Rd w w.heap.size A' len' ys) :
    Calls Try.prog 5 #[.slice A len cap, .slice A' len' cap'] w fun e W' => e = .returned (.bool true) ∧ Below w.heap.size w W' := by
  by_cases hla : len ≤ 500
  · have hla' : decide ((500 : Int) < (len : Int)) = false := decide_eq_false (by omega)
    by_cases hlb : len' ≤ 500
    · have hlb' : decide ((500 : Int) < (len' : Int)) = false := decide_eq_false (by omega)
      have hS := sumOn_lt 0 xs (by omega)
      have hU := sumOn_lt 0 ys (by omega)
      have hE := sum_join xs ys
      rw [hJ.len] at hE
      obtain ⟨S, hs⟩ : ∃ S, sumOn 0 xs = S := ⟨_, rfl⟩
      obtain ⟨U, hu⟩ : ∃ U, sumOn 0 ys = U := ⟨_, rfl⟩
      obtain ⟨T, ht⟩ : ∃ T, itr (8 * len') S ^^^ U = T := ⟨_, rfl⟩
      rw [hs, hu, ht] at hE
      rw [hs] at hS
      rw [hu] at hU
      have KE := Lib.hid hE
      have KS := Lib.hid hs
      have KU := Lib.hid hu
      have KT := Lib.hid ht
      clear hE hs hu ht
      go_enter Try.func5, Try.ntmps5
      go_wp2_with fail
      refine (awake_any _).mono ?_
      rintro e w1 ⟨rfl, hb1⟩
      have z1 := hb1.size
      have hI1 := (hI.below hb1).more z1
      have how0 := (show Row8 (w1.alloc (.cells #[] 5)) w1.heap.size [] from heap_alloc_new w1 _).own (base := w1.heap.size) (Nat.le_refl _) (Nat.le_refl _) (by unfold maxLen; simp)
      go_wp2_with (first
        | (at_builtin; refine wpList_append8 rfl _ _ rfl w1.heap.size _ [] (by rfl) how0 _ _ _ _ xs (by rfl) (hI1.alloc (Nat.le_refl _) _) (by simp; omega) (by simp) ?_; intro v2 w2 ho2 hg2 _; have hb2 := ((Below.refl w1.heap.size w1).alloc (Nat.le_refl _) (.cells #[] 5)).grown hg2 (by simp) how0.lt; have hJ2 := hJ.below (hb1.trans (hb2.mono z1)))
        | (at_builtin; refine wpList_append8 rfl _ _ rfl w1.heap.size _ _ (by rfl) ho2 _ _ _ _ ys (by rfl) hJ2 (by simp; have := hI.len; omega) hb2.size ?_; intro v4 w4 ho4 hg4 _))
      have hb4 := hb2.grown hg4 hb2.size ho2.lt
      have B4 := hb1.trans (hb4.mono z1)
      rw [List.nil_append] at ho4
      clear how0 hg2 ho2 hb2 hJ2 hg4 hI1
      obtain ⟨A4, m4, c4, rfl, hm4, hr4⟩ := ho4.rd8 (k := 1000) (by simp; have := hI.len; have := hJ.len; omega)
      have hI4 := hI.below B4
      have hJ4 := hJ.below B4
      have z4 := B4.size
      clear ho4 hb4 hb1
      go_wp2_with fail
      refine (of_any A len cap _ (by omega) w4 hI4 z4).mono ?_
      rintro e w5 ⟨rfl, hb5⟩
      rw [KS.out]
      have B5 := B4.trans (hb5.mono z4)
      have hJ5 := hJ.below B5
      have hr5 := hr4.below hb5
      have z5 := B5.size
      have y5 := hb5.size
      go_wp2_with fail
      refine (of_any A' len' cap' _ (by omega) w5 hJ5 z5).mono ?_
      rintro e w6 ⟨rfl, hb6⟩
      rw [KU.out]
      have B6 := B5.trans (hb6.mono z5)
      have hr6 := hr5.below (hb6.mono y5)
      have z6 := B6.size
      have y6 := hb6.size
      go_wp2_with fail
      refine (join_any S U len' hS hU (by omega) w6).mono ?_
      rintro e w7 ⟨rfl, hb7⟩
      rw [KT.out]
      have B7 := B6.trans (hb7.mono z6)
      have hr7 := hr6.below (hb7.mono (by omega))
      have y7 := hb7.size
      go_wp2_with fail
      refine (of_any A4 m4 c4 _ (by omega) w7 hr7 (by omega)).mono ?_
      rintro e w8 ⟨rfl, hb8⟩
      rw [KE.out]
      have B8 := B7.trans (hb8.mono B7.size)
      go_wp2_with fail
      go_ret
      exact ⟨rfl, B8⟩
    · have hlb' : (500 : Int) < (len' : Int) := by omega
      go_enter Try.func5, Try.ntmps5
      go_wp2_with fail
      refine (awake_any _).mono ?_
      rintro e w1 ⟨rfl, hb1⟩
      go_wp2_with fail
      refine (awake_any _).mono ?_
      rintro e w2 ⟨rfl, hb2⟩
      have B2 := hb1.trans (hb2.mono hb1.size)
      go_wp2_with fail
      go_ret
      exact ⟨rfl, B2⟩
  · have hla' : (500 : Int) < (len : Int) := by omega
    go_enter Try.func5, Try.ntmps5
    go_wp2_with fail
    refine (awake_any _).mono ?_
    rintro e w1 ⟨rfl, hb1⟩
    go_wp2_with fail
    refine (awake_any _).mono ?_
    rintro e w2 ⟨rfl, hb2⟩
    have B2 := hb1.trans (hb2.mono hb1.size)
    go_wp2_with fail
    go_ret
    exact ⟨rfl, B2⟩

theorem crcJoin_walks : WalksTrue 5 Try.f5 := by
  intro H enc W base args ds p hval hA
  rw [Try.params5] at hA hval
  obtain ⟨v0, vs0, d0, ds0, p0, q0, hargs, rfl, rfl, h0, r0⟩ := trodAll_cons hA
  obtain ⟨v1, vs1, d1, ds1, p1, q1, rfl, rfl, rfl, h1, r1⟩ := trodAll_cons r0
  obtain ⟨rfl, rfl, rfl⟩ := trodAll_nil r1
  obtain rfl : args = #[v0, v1] := by cases args; simp_all
  obtain ⟨A0, len0, cap0, xs0, rfl, hc0, hm0, hI0⟩ := open_bytes (hval 0 22 v0 rfl rfl) h0
  obtain ⟨A1, len1, cap1, xs1, rfl, hc1, hm1, hI1⟩ := open_bytes (hval 1 22 v1 rfl rfl) h1
  exact crcJoin_walk A0 len0 cap0 xs0 hc0 hm0 A1 len1 cap1 xs1 hc1 hm1 W hI0 hI1

theorem crcJoin_said : Rows.CrcJoinSaid :=
  OpenClaim.holds_of_wide 5 Try.f5 rfl rfl rfl rfl rfl rfl rfl ⟨rfl, rfl, rfl, rfl, rfl⟩ rfl rfl rfl rfl rfl (by kernel_rfl) Try.func5 (by kernel_rfl)
    (of_decide_eq_true (by kernel_rfl)) (by unfold Func.isWrapper; first | (rw [if_pos (by decide +kernel)]; kernel_rfl) | (rw [if_neg (by decide +kernel)]; exact ⟨rfl, rfl⟩))
    (fun os started H enc _ => law_lift (s := Rows.crcJoinSpec) Try.func5 (by kernel_rfl) rfl rfl (by intro H ds hd; match ds, hd with | [_, _], _ => exact ⟨rfl, rfl, rfl⟩) (by kernel_rfl) crcJoin_walks os started H enc
      (ChangeSpec.witness6 (enc := enc) (C := Try.checked) false ⟨#[], #[.slice none 0 0, .slice none 0 0], []⟩ 8 (by kernel_rfl) (by kernel_rfl) (by kernel_rfl) (by kernel_rfl)))

end Go.Proofs.Ytboaoidimbkidaa
