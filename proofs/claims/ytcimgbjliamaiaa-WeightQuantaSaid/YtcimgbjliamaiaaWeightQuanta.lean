/-
  PROVED HERE: 'WeightQuantaSaid': whatever u is, the Go function WeightQuanta of package wayleavelaw14 returns true, and its argument reads behind the call as it read before. No condition.
-/
import Derived.Test.YtcimgbjliamaiaaWA
namespace Go.Proofs.Ytcimgbjliamaiaa
set_option maxRecDepth 100000
open Go.RowKit Go.Lib Go.ChangeShapes Go.WideShapes Go.ChangeAt

theorem plain_facts (u : Nat) : IntKind.u64.wrap ((u : Int) * 2) = (if rgW u = 0 then 0 else IntKind.u64.wrap ((u : Int) * 2)) ∧ (rgW u ≠ 0 → (IntKind.u64.wrap ((u : Int) * 2) == 0) = false) := by
  have e : IntKind.u64.wrap ((u : Int) * 2) = 2 * (rgW u : Int) := by
    rw [IntKind.wrap_u64]
    unfold rgW
    have h2 : 2048 * B52 = 9223372036854775808 := rfl
    rw [h2]
    omega
  rw [e]
  constructor
  · split
    · rename_i h; rw [h]; rfl
    · rfl
  · intro h
    exact beq_eq_false_iff_ne.2 (by omega)
set_option maxHeartbeats 2000000 in
theorem weightQuanta_walk (u : Nat) (hu : u < 18446744073709551616) (w : World) : Calls Try.prog 3 #[.int .u64 (u : Int)] w fun e w' => e = .returned (.bool true) ∧ Below w.heap.size w w' := by
  have hT : u < T64 := by rw [T64_eq]; exact hu
  have A := Lib.hid (awake14 w)
  have hb := run_f64from u
  have Q1 := Lib.hid (fun W => wqu_any hT W)
  have Q2 := Lib.hid (fun W => rqu_any hT W)
  have R := Lib.hid (fun W => wright_any hT W)
  have P := Lib.hid (fun W => wplain_any hT W)
  obtain ⟨z1, z2⟩ := plain_facts u
  have hq := qu_le u
  by_cases hz : rgW u = 0
  · rw [if_pos hz] at z1
    have ep : plainW u = 0 := by unfold plainW; rw [if_pos hz]
    rw [ep] at P
    have S := Lib.hid (fun W => wsame_any (u := 0) (v := 0) (by rw [T64_eq]; decide) (by rw [T64_eq]; decide) W)
    rw [show decide (canW 0 = canW 0) = true from decide_eq_true rfl] at S
    clear z2 ep hz hT
    obtain ⟨q, hqe⟩ : ∃ q, quW u = q := ⟨_, rfl⟩
    obtain ⟨t, ht⟩ : ∃ t, wtW u = t := ⟨_, rfl⟩
    rw [hqe, ht] at Q1 Q2
    rw [ht] at R
    clear hq hqe ht
    have t1 : (t != t) = false := bne_self_eq_false t
    go_enter Try.func3, Try.ntmps3
    go_wp2_with (first
      | (refine A.out.mono ?_; rintro e w1 ⟨rfl, B⟩)
      | (refine (Q1.out _).mono ?_; rintro e w' ⟨rfl, rfl⟩)
      | (refine (Q2.out _).mono ?_; rintro e w' ⟨rfl, rfl⟩)
      | (refine (R.out _).mono ?_; rintro e w' ⟨rfl, rfl⟩)
      | (refine (P.out _).mono ?_; rintro e w' ⟨rfl, rfl⟩)
      | (refine (S.out _).mono ?_; rintro e w2 ⟨rfl, hs⟩; have B := B.trans (hs.mono B.size)))
    go_ret
    exact ⟨rfl, B⟩
  · have z3 := z2 hz
    have ep : plainW u = u := by unfold plainW; rw [if_neg hz]
    rw [ep] at P
    have S := Lib.hid (fun W => wsame_any hT hT W)
    rw [show decide (canW u = canW u) = true from decide_eq_true rfl] at S
    clear z1 z2 ep hz hT
    obtain ⟨q, hqe⟩ : ∃ q, quW u = q := ⟨_, rfl⟩
    obtain ⟨t, ht⟩ : ∃ t, wtW u = t := ⟨_, rfl⟩
    rw [hqe, ht] at Q1 Q2
    rw [ht] at R
    clear hq hqe ht
    have t1 : (t != t) = false := bne_self_eq_false t
    go_enter Try.func3, Try.ntmps3
    go_wp2_with (first
      | (refine A.out.mono ?_; rintro e w1 ⟨rfl, B⟩)
      | (refine (Q1.out _).mono ?_; rintro e w' ⟨rfl, rfl⟩)
      | (refine (Q2.out _).mono ?_; rintro e w' ⟨rfl, rfl⟩)
      | (refine (R.out _).mono ?_; rintro e w' ⟨rfl, rfl⟩)
      | (refine (P.out _).mono ?_; rintro e w' ⟨rfl, rfl⟩)
      | (refine (S.out _).mono ?_; rintro e w2 ⟨rfl, hs⟩; have B := B.trans (hs.mono B.size)))
    go_ret
    exact ⟨rfl, B⟩

theorem weightQuanta_walks : WalksTrue 3 Try.f3 := by
  intro H enc W base args ds p hval hA
  rw [Try.params3] at hA hval
  obtain ⟨v0, vs0, d0, ds0, p0, q0, hargs, rfl, rfl, h0, r0⟩ := trodAll_cons hA
  obtain ⟨rfl, rfl, rfl⟩ := trodAll_nil r0
  obtain rfl : args = #[v0] := by cases args; simp_all
  obtain ⟨a0, rfl, rfl, rfl, w0⟩ := open_int Try.underlying22 (hval 0 22 v0 rfl rfl) h0
  obtain ⟨g0a, g0b⟩ := range_u64 w0
  obtain ⟨n0, rfl⟩ := Int.eq_ofNat_of_zero_le g0a
  exact weightQuanta_walk n0 (by omega) W

theorem weightQuanta_said : Rows.WeightQuantaSaid :=
  OpenClaim.holds_of_wide 3 Try.f3 rfl rfl rfl rfl rfl rfl rfl ⟨rfl, rfl, rfl, rfl, rfl⟩ rfl rfl rfl rfl rfl (by kernel_rfl) Try.func3 (by kernel_rfl)
    (of_decide_eq_true (by kernel_rfl)) (by unfold Func.isWrapper; first | (rw [if_pos (by decide +kernel)]; kernel_rfl) | (rw [if_neg (by decide +kernel)]; exact ⟨rfl, rfl⟩))
    (fun os started H enc _ => law_lift (s := Rows.weightQuantaSpec) Try.func3 (by kernel_rfl) rfl rfl (by intro H ds hd; match ds, hd with | [_], _ => exact ⟨rfl, rfl, rfl⟩) (by kernel_rfl) weightQuanta_walks os started H enc
      (ChangeSpec.witness6 (enc := enc) (C := Try.checked) false ⟨#[], #[.int .u64 0], []⟩ 8 (by kernel_rfl) (by kernel_rfl) (by kernel_rfl) (by kernel_rfl)))

end Go.Proofs.Ytcimgbjliamaiaa
