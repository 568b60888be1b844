/-
  PROVED HERE: 'WeightTotalsSaid': whatever l and at are, the Go function WeightTotals of package wayleavelaw14 returns true, and its arguments read behind the call as they read before. No condition.
-/
import Derived.Test.YtcimgbjliamaiaaWA
namespace Go.Proofs.Ytcimgbjliamaiaa
set_option maxRecDepth 100000
open Go.RowKit Go.Lib Go.ChangeShapes Go.WideShapes Go.ChangeAt

set_option maxHeartbeats 2000000 in
theorem weightTotals_walk (A : Option Addr) (len cap : Nat) (xs : List Nat) (_hcap : len ≤ cap) (_hcm : cap ≤ maxLen) (n : Nat) (hn : n < 256) (w : World) (hI : RdV vU w w.heap.size A len xs) :
    Calls Try.prog 6 #[.slice A len cap, .int .u8 (n : Int)] w fun e w' => e = .returned (.bool true) ∧ Below w.heap.size w w' := by
  have hA := Lib.hid (fun W => awake14 W)
  by_cases h100 : len ≤ 100
  · have h1 : ¬ (100 : Int) < (len : Int) := by omega
    have hF := fun W h => floats_any A len cap xs h100 W h
    have hF := Lib.hid hF
    have HI := Lib.hid hI
    obtain ⟨hp1, hp2⟩ := tot_parts xs (n % (len + 1))
    have hl := hI.len
    have hs1 := sum_le (xs.take (n % (len + 1)))
    have hs2 := sum_le (xs.drop (n % (len + 1)))
    have hk : n % (len + 1) ≤ len := Nat.lt_succ_iff.1 (Nat.mod_lt _ (by omega))
    have hm : Int.tmod (n : Int) ((len : Int) + 1) = ((n % (len + 1) : Nat) : Int) := by
      rw [Int.tmod_eq_emod_of_nonneg (by omega), Int.natCast_emod]; rfl
    have hw1 : IntKind.i64.wrap ((len : Int) + 1) = (len : Int) + 1 := by rw [IntKind.wrap_i64]; omega
    have hz : ((len : Int) + 1 == 0) = false := beq_eq_false_iff_ne.2 (by omega)
    obtain ⟨k, hke⟩ : ∃ k, n % (len + 1) = k := ⟨_, rfl⟩
    rw [hke] at hp1 hp2 hs1 hs2 hk hm
    rw [List.length_take, hl] at hs1
    rw [List.length_drop, hl] at hs2
    have ht1 : totW (xs.take k) ≤ 102400000 := by unfold totW; split <;> omega
    have ht2 : totW (xs.drop k) ≤ 102400000 := by unfold totW; split <;> omega
    have hno := @tot_no xs
    have T1 := Lib.hid (fun (A : Option Addr) (c : Nat) (W : World) (h : RdV vF W W.heap.size A len xs) => wtotal_any A len c xs h100 W h)
    have T2 := Lib.hid (fun (A : Option Addr) (c : Nat) (W : World) (h : RdV vF W W.heap.size A len xs) => rtotal14_any A len c xs h100 W h)
    have T3 := Lib.hid (fun (A : Option Addr) (c : Nat) (W : World) (h : RdV vF W W.heap.size A k (xs.take k)) => wtotal_any A k c (xs.take k) (by omega) W h)
    have T4 := Lib.hid (fun (A : Option Addr) (c : Nat) (W : World) (h : RdV vF W W.heap.size A (len - k) (xs.drop k)) => wtotal_any A (len - k) c (xs.drop k) (by omega) W h)
    have HL := Lib.hid hl
    obtain ⟨N, hN⟩ : ∃ N, totW xs = N := ⟨_, rfl⟩
    obtain ⟨N1, hN1⟩ : ∃ N, totW (xs.take k) = N := ⟨_, rfl⟩
    obtain ⟨N2, hN2⟩ : ∃ N, totW (xs.drop k) = N := ⟨_, rfl⟩
    obtain ⟨t, ht⟩ : ∃ t, allW xs = t := ⟨_, rfl⟩
    obtain ⟨u1, hu1⟩ : ∃ t, allW (xs.take k) = t := ⟨_, rfl⟩
    obtain ⟨u2, hu2⟩ : ∃ t, allW (xs.drop k) = t := ⟨_, rfl⟩
    rw [hN, ht] at T1 T2
    rw [hN1, hu1] at T3
    rw [hN2, hu2] at T4
    rw [ht, hN, hN1, hN2] at hp2
    rw [ht, hu1, hu2] at hp1
    rw [hN1] at ht1
    rw [hN2] at ht2
    clear hI hl hs1 hs2 hN hN1 hN2 ht hu1 hu2 hno hke
    have hW : IntKind.i64.wrap ((N1 : Int) + (N2 : Int)) = (N1 : Int) + (N2 : Int) := by rw [IntKind.wrap_i64]; omega
    have run2 : ∀ (A : Option Addr) (c : Nat) (h2 : k ≤ c) (W : World), (Instr.slice 39 (.slice A len c) none (some (.int .i64 (k : Int))) none).run Try.prog W = .ok (.slice A k c) W := fun A c h2 W => run_uptoF A len c k h2 W
    have run3 : ∀ (A : Option Addr) (c : Nat) (W : World), (Instr.slice 39 (.slice A len c) (some (.int .i64 (k : Int))) none none).run Try.prog W = .ok (.slice (cutV A c k) (len - k) (c - k)) W := fun A c W => run_fromF A len c k hk W
    subst hp1
    cases u1 <;> cases u2
    · clear hp2
      go_enter Try.func6, Try.ntmps6
      go_wp2_with (first
        | (with_reducible refine (hA.out w).mono ?_; rintro e w1 ⟨rfl, B1⟩)
        | (with_reducible refine (hF.out w1 ((HI.out.below B1).more B1.size)).mono ?_; rintro e w2 ⟨v, rfl, hown, B2⟩; obtain ⟨A1, m1, c1, rfl, hm1, hmc, hcm, hr⟩ := hown.sl; rw [HL.out] at hm1; subst hm1; have g2 := run2 A1 c1 (by omega); have g3 := run3 A1 c1)
        | (with_reducible refine (T1.out A1 c1 w2 hr).mono ?_; rintro e w' ⟨rfl, rfl⟩)
        | (with_reducible refine (T2.out A1 c1 w2 hr).mono ?_; rintro e w' ⟨rfl, rfl⟩)
        | (with_reducible refine (T3.out A1 c1 w2 (hr.upto hk)).mono ?_; rintro e w' ⟨rfl, rfl⟩)
        | (with_reducible refine (T4.out (cutV A1 c1 k) (c1 - k) w2 (hr.from hk c1 hmc)).mono ?_; rintro e w' ⟨rfl, rfl⟩))
      go_ret
      exact ⟨rfl, B1.trans (B2.mono B1.size)⟩
    · clear hp2
      go_enter Try.func6, Try.ntmps6
      go_wp2_with (first
        | (with_reducible refine (hA.out w).mono ?_; rintro e w1 ⟨rfl, B1⟩)
        | (with_reducible refine (hF.out w1 ((HI.out.below B1).more B1.size)).mono ?_; rintro e w2 ⟨v, rfl, hown, B2⟩; obtain ⟨A1, m1, c1, rfl, hm1, hmc, hcm, hr⟩ := hown.sl; rw [HL.out] at hm1; subst hm1; have g2 := run2 A1 c1 (by omega); have g3 := run3 A1 c1)
        | (with_reducible refine (T1.out A1 c1 w2 hr).mono ?_; rintro e w' ⟨rfl, rfl⟩)
        | (with_reducible refine (T2.out A1 c1 w2 hr).mono ?_; rintro e w' ⟨rfl, rfl⟩)
        | (with_reducible refine (T3.out A1 c1 w2 (hr.upto hk)).mono ?_; rintro e w' ⟨rfl, rfl⟩)
        | (with_reducible refine (T4.out (cutV A1 c1 k) (c1 - k) w2 (hr.from hk c1 hmc)).mono ?_; rintro e w' ⟨rfl, rfl⟩))
      go_ret
      exact ⟨rfl, B1.trans (B2.mono B1.size)⟩
    · clear hp2
      go_enter Try.func6, Try.ntmps6
      go_wp2_with (first
        | (with_reducible refine (hA.out w).mono ?_; rintro e w1 ⟨rfl, B1⟩)
        | (with_reducible refine (hF.out w1 ((HI.out.below B1).more B1.size)).mono ?_; rintro e w2 ⟨v, rfl, hown, B2⟩; obtain ⟨A1, m1, c1, rfl, hm1, hmc, hcm, hr⟩ := hown.sl; rw [HL.out] at hm1; subst hm1; have g2 := run2 A1 c1 (by omega); have g3 := run3 A1 c1)
        | (with_reducible refine (T1.out A1 c1 w2 hr).mono ?_; rintro e w' ⟨rfl, rfl⟩)
        | (with_reducible refine (T2.out A1 c1 w2 hr).mono ?_; rintro e w' ⟨rfl, rfl⟩)
        | (with_reducible refine (T3.out A1 c1 w2 (hr.upto hk)).mono ?_; rintro e w' ⟨rfl, rfl⟩)
        | (with_reducible refine (T4.out (cutV A1 c1 k) (c1 - k) w2 (hr.from hk c1 hmc)).mono ?_; rintro e w' ⟨rfl, rfl⟩))
      go_ret
      exact ⟨rfl, B1.trans (B2.mono B1.size)⟩
    · have hp2 := hp2 rfl
      subst hp2
      go_enter Try.func6, Try.ntmps6
      go_wp2_with (first
        | (with_reducible refine (hA.out w).mono ?_; rintro e w1 ⟨rfl, B1⟩)
        | (with_reducible refine (hF.out w1 ((HI.out.below B1).more B1.size)).mono ?_; rintro e w2 ⟨v, rfl, hown, B2⟩; obtain ⟨A1, m1, c1, rfl, hm1, hmc, hcm, hr⟩ := hown.sl; rw [HL.out] at hm1; subst hm1; have g2 := run2 A1 c1 (by omega); have g3 := run3 A1 c1)
        | (with_reducible refine (T1.out A1 c1 w2 hr).mono ?_; rintro e w' ⟨rfl, rfl⟩)
        | (with_reducible refine (T2.out A1 c1 w2 hr).mono ?_; rintro e w' ⟨rfl, rfl⟩)
        | (with_reducible refine (T3.out A1 c1 w2 (hr.upto hk)).mono ?_; rintro e w' ⟨rfl, rfl⟩)
        | (with_reducible refine (T4.out (cutV A1 c1 k) (c1 - k) w2 (hr.from hk c1 hmc)).mono ?_; rintro e w' ⟨rfl, rfl⟩))
      go_ret
      exact ⟨rfl, B1.trans (B2.mono B1.size)⟩
  · have h1 : (100 : Int) < (len : Int) := by omega
    clear hI
    go_enter Try.func6, Try.ntmps6
    go_wp2_with (refine (hA.out w).mono ?_; rintro e w1 ⟨rfl, B1⟩)
    go_wp2_with (refine (hA.out w1).mono ?_; rintro e w2 ⟨rfl, B2⟩)
    go_ret
    exact ⟨rfl, B1.trans (B2.mono B1.size)⟩

theorem weightTotals_walks : WalksTrue 6 Try.f6 := by
  intro H enc W base args ds p hval hA
  rw [Try.params6] at hA hval
  obtain ⟨v0, vs0, d0, ds0, p0, q0, hargs, rfl, rfl, h0, r0⟩ := trodAll_cons hA
  obtain ⟨v1, vs1, d1, ds1, p1, q1, rfl, rfl, rfl, h1, r1⟩ := trodAll_cons r0
  obtain ⟨rfl, rfl, rfl⟩ := trodAll_nil r1
  obtain rfl : args = #[v0, v1] := by cases args; simp_all
  obtain ⟨A0, len0, cap0, xs0, rfl, hc0, hm0, hI0⟩ := open_u64s (hval 0 38 v0 rfl rfl) h0
  obtain ⟨a1, rfl, rfl, rfl, w1⟩ := open_int Try.underlying5 (hval 1 5 v1 rfl rfl) h1
  obtain ⟨g1a, g1b⟩ := range_u8 w1
  obtain ⟨n1, rfl⟩ := Int.eq_ofNat_of_zero_le g1a
  exact weightTotals_walk A0 len0 cap0 xs0 hc0 hm0 n1 (by omega) W hI0

theorem weightTotals_said : Rows.WeightTotalsSaid :=
  OpenClaim.holds_of_wide 6 Try.f6 rfl rfl rfl rfl rfl rfl rfl ⟨rfl, rfl, rfl, rfl, rfl⟩ rfl rfl rfl rfl rfl (by kernel_rfl) Try.func6 (by kernel_rfl)
    (of_decide_eq_true (by kernel_rfl)) (by unfold Func.isWrapper; first | (rw [if_pos (by decide +kernel)]; kernel_rfl) | (rw [if_neg (by decide +kernel)]; exact ⟨rfl, rfl⟩))
    (fun os started H enc _ => law_lift (s := Rows.weightTotalsSpec) Try.func6 (by kernel_rfl) rfl rfl (by intro H ds hd; match ds, hd with | [_, _], _ => exact ⟨rfl, rfl, rfl⟩) (by kernel_rfl) weightTotals_walks os started H enc
      (ChangeSpec.witness6 (enc := enc) (C := Try.checked) false ⟨#[], #[.slice none 0 0, .int .u8 0], []⟩ 8 (by kernel_rfl) (by kernel_rfl) (by kernel_rfl) (by kernel_rfl)))

end Go.Proofs.Ytcimgbjliamaiaa
