/-
  PROVED HERE: 'VarintBackSaid': whatever n, more and at are, the Go function VarintBack of package wayleavelaw02 returns true, and its arguments read behind the call as they read before. No condition.
-/
import Derived.Test.YtnbehleppmnjdaaVarAwake
import Derived.Test.YtnbehleppmnjdaaLift
namespace Go.Proofs.Ytnbehleppmnjdaa
open Go.RowKit Go.Lib Go.ChangeShapes Go.WideShapes Go.ChangeAt

set_option maxRecDepth 100000 in
set_option maxHeartbeats 2000000 in
theorem varintBack_walk (n : Nat) (hn : n < 18446744073709551616) (A : Option Addr) (len cap : Nat) (xs : List UInt8) (_ : len ≤ cap) (_ : cap ≤ maxLen) (at_ : Nat) (hat : at_ < 256) (w : World) (hI : Rd w w.heap.size A len xs) :
    Calls Try.prog 5 #[.int .u64 (n : Int), .slice A len cap, .int .u8 (at_ : Int)] w fun e W' => e = .returned (.bool true) ∧ Below w.heap.size w W' := by
  by_cases hbig : 1000 < len
  · have hb' : (1000 : Int) < (len : Int) := by omega
    go_enter Try.func5, Try.ntmps5
    go_wp2_with fail
    refine (awake_any _).mono ?_
    rintro e w1 ⟨rfl, hb1⟩
    go_wp2_with fail
    refine (awake_any _).mono ?_
    rintro e w2 ⟨rfl, hb2⟩
    go_wp2_with fail
    go_ret
    exact ⟨rfl, hb1.trans (hb2.mono hb1.size)⟩
  · have hb' : (len : Int) ≤ 1000 := by omega
    have h10 := uvarint_length64 hn
    have h1 := uvarint_pos n
    have HG := Lib.hid (vget_put n hn xs)
    have HC := Lib.hid (fun j hj => vget_cut n hn j hj)
    have HP := Lib.hid (fun W => vput_any n hn W)
    have HL := Lib.hid hI.len
    go_enter Try.func5, Try.ntmps5
    go_wp2_with fail
    refine (awake_any _).mono ?_
    rintro e w1 ⟨rfl, hb1⟩
    go_wp2_with fail
    refine (HP.out _).mono ?_
    rintro e w2 ⟨v2, rfl, ho2, hb2⟩
    have B2 := hb1.trans (hb2.mono hb1.size)
    obtain ⟨A2, m2, c2, rfl, hm2, hmc2, hcm2, hr2⟩ := ho2.sl
    have hm10 : (m2 : Int) ≤ 10 := by omega
    have hm1 : (1 : Int) ≤ (m2 : Int) := by omega
    have hm1' : (1 : Nat) ≤ m2 := by omega
    have hm0 : ((m2 : Int) == 0) = false := beq_eq_false_iff_ne.2 (by omega)
    have hm0' : (m2 == 0) = false := beq_eq_false_iff_ne.2 (by omega)
    have HM2 := Lib.hid hm2
    clear hm2
    have how0 := (show Row8 (w2.alloc (.cells #[] 5)) w2.heap.size [] from heap_alloc_new w2 _).own (base := w2.heap.size) (Nat.le_refl _) (Nat.le_refl _) (by unfold maxLen; simp)
    go_wp2_with (first
      | (at_builtin; refine wpList_append8 rfl _ _ rfl w2.heap.size _ [] (by rfl) how0 _ _ _ _ (uvarint n) (by rfl) (hr2.alloc (Nat.le_refl _) _) (by simp; omega) (by simp) ?_; intro v3 w3 ho3 hg3 _; have hb3 := ((Below.refl w2.heap.size w2).alloc (Nat.le_refl _) (.cells #[] 5)).grown hg3 (by simp) how0.lt; have hI3 := hI.below (B2.trans (hb3.mono B2.size)))
      | (at_builtin; refine wpList_append8 rfl _ _ rfl w2.heap.size _ _ (by rfl) ho3 _ _ _ _ xs (by rfl) hI3 (by simp; omega) hb3.size ?_; intro v4 w4 ho4 hg4 _))
    have hb4 := hb3.grown hg4 hb3.size ho3.lt
    have B4 := B2.trans (hb4.mono B2.size)
    rw [List.nil_append] at ho4
    obtain ⟨A4, m4, c4, rfl, hm4, hmc4, hcm4, hr4⟩ := ho4.sl
    have hm4' : m4 ≤ 2000 := by rw [hm4, List.length_append, HL.out]; omega
    clear hm4 ho3 ho4 hg3 hg4 how0 hI3
    go_wp2_with fail
    refine (vget_any A4 m4 c4 _ hm4' _ hr4).mono ?_
    rintro e w5 ⟨rfl, rfl⟩
    rw [HG.out, ← HM2.out]
    have hj0 : (0 : Int) ≤ (at_ : Int) % (m2 : Int) := Int.emod_nonneg _ (by omega)
    have hj1 : (at_ : Int) % (m2 : Int) < (m2 : Int) := Int.emod_lt_of_pos _ (by omega)
    have hj2 : (at_ : Int) % (m2 : Int) ≤ (c2 : Int) := by omega
    go_wp2_with fail
    have hjm : at_ % m2 < m2 := Nat.mod_lt _ (by omega)
    obtain ⟨j, hj⟩ : ∃ j, at_ % m2 = j := ⟨_, rfl⟩
    rw [hj] at hjm ⊢
    clear hj hj0 hj1 hj2
    refine (vget_any A2 j c2 _ (by omega) _ ((hr2.below hb4).take (k := j) (by omega))).mono ?_
    rintro e w5 ⟨rfl, rfl⟩
    rw [HC.out j (by rw [← HM2.out]; exact hjm)]
    go_wp2_with fail
    go_ret
    exact ⟨rfl, B4⟩

theorem varintBack_walks : WalksTrue 5 Try.f5 := by
  intro H enc W base args ds p hval hA
  rw [Try.params5] at hA hval
  obtain ⟨v0, vs0, d0, ds0, p0, q0, hargs, rfl, rfl, h0, r0⟩ := trodAll_cons hA
  obtain ⟨v1, vs1, d1, ds1, p1, q1, rfl, rfl, rfl, h1, r1⟩ := trodAll_cons r0
  obtain ⟨v2, vs2, d2, ds2, p2, q2, rfl, rfl, rfl, h2, r2⟩ := trodAll_cons r1
  obtain ⟨rfl, rfl, rfl⟩ := trodAll_nil r2
  obtain rfl : args = #[v0, v1, v2] := by cases args; simp_all
  obtain ⟨a0, rfl, rfl, rfl, w0⟩ := open_int Try.underlying24 (hval 0 24 v0 rfl rfl) h0
  obtain ⟨g0a, g0b⟩ := range_u64 w0
  obtain ⟨n0, rfl⟩ := Int.eq_ofNat_of_zero_le g0a
  obtain ⟨A1, len1, cap1, xs1, rfl, hc1, hm1, hI1⟩ := open_bytes (hval 1 22 v1 rfl rfl) h1
  obtain ⟨a2, rfl, rfl, rfl, w2⟩ := open_int Try.underlying5 (hval 2 5 v2 rfl rfl) h2
  obtain ⟨g2a, g2b⟩ := range_u8 w2
  obtain ⟨n2, rfl⟩ := Int.eq_ofNat_of_zero_le g2a
  exact varintBack_walk n0 (by omega) A1 len1 cap1 xs1 hc1 hm1 n2 (by omega) W hI1

theorem varintBack_said : Rows.VarintBackSaid :=
  OpenClaim.holds_of_wide 5 Try.f5 rfl rfl rfl rfl rfl rfl rfl ⟨rfl, rfl, rfl, rfl, rfl⟩ rfl rfl rfl rfl rfl (by kernel_rfl) Try.func5 (by kernel_rfl)
    (of_decide_eq_true (by kernel_rfl)) (by unfold Func.isWrapper; first | (rw [if_pos (by decide +kernel)]; kernel_rfl) | (rw [if_neg (by decide +kernel)]; exact ⟨rfl, rfl⟩))
    (fun os started H enc _ => law_lift (s := Rows.varintBackSpec) Try.func5 (by kernel_rfl) rfl rfl (by intro H ds hd; match ds, hd with | [_, _, _], _ => exact ⟨rfl, rfl, rfl⟩) (by kernel_rfl) varintBack_walks os started H enc
      (ChangeSpec.witness6 (enc := enc) (C := Try.checked) false ⟨#[], #[.int .u64 0, .slice none 0 0, .int .u8 0], []⟩ 8 (by kernel_rfl) (by kernel_rfl) (by kernel_rfl) (by kernel_rfl)))

end Go.Proofs.Ytnbehleppmnjdaa
