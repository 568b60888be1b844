/-
  PROVED HERE: 'WeightBackSaid': whatever q is, the Go function WeightBack of package wayleavelaw14 returns true, and its argument reads behind the call as it read before. No condition.
-/
import Derived.Test.YtcimgbjliamaiaaWN
namespace Go.Proofs.Ytcimgbjliamaiaa
set_option maxRecDepth 100000
open Go.RowKit Go.Lib Go.ChangeShapes Go.WideShapes Go.ChangeAt

set_option maxHeartbeats 2000000 in
theorem weightBack_walk (q : Nat) (hq : q < 4294967296) (w : World) : Calls Try.prog 4 #[.int .u32 (q : Int)] w fun e w' => e = .returned (.bool true) ∧ Below w.heap.size w w' := by
  have hn : q % 1024001 ≤ 1024000 := by omega
  have hm : Int.tmod (q : Int) 1024001 = ((q % 1024001 : Nat) : Int) := by rw [Int.tmod_eq_emod_of_nonneg (by omega)]; omega
  obtain ⟨n, hne⟩ : ∃ n, q % 1024001 = n := ⟨_, rfl⟩
  rw [hne] at hn hm
  clear hne
  obtain ⟨hu, hg, hr⟩ := of_word_ hn
  have hw := of_right hn
  have hk := of_quanta hn
  have hA := Lib.hid (fun W => awake14 W)
  have O := Lib.hid (fun W => wof_any hn W)
  have Q1 := fun W => wqu_any hu W
  have R := fun W => wright_any hu W
  rw [hw] at Q1 R
  rw [hk] at Q1
  have Q1 := Lib.hid Q1
  have R := Lib.hid R
  by_cases h0 : n = 0
  · subst h0
    have N := Lib.hid next_zero
    have Q2 := Lib.hid (aw_qu 9223372036854775809 0 false (by decide) (by decide) (no_qu (by decide)))
    have O : ∀ W : World, Calls Try.prog 16 #[.int .i64 0] W fun e w' => e = .returned (.float .f64 0) ∧ W = w' := fun W => by
      have := wof_any (q := 0) (Nat.zero_le _) W
      rw [of_zero] at this
      exact this
    have O := Lib.hid O
    have q0 : quW 0 = 0 := by have g := of_quanta (q := 0) (Nat.zero_le _); rw [of_zero] at g; exact g
    have t0 : wtW 0 = true := by have g := of_right (q := 0) (Nat.zero_le _); rw [of_zero] at g; exact g
    have Q1 := Lib.hid (aw_qu 0 0 true f0.1 t0 q0)
    have R := Lib.hid (aw_right 0 true f0.1 t0)
    have hm : Int.tmod (q : Int) 1024001 = 0 := hm
    clear hu hg hr hw hk hn q0 t0
    go_enter Try.func4, Try.ntmps4
    go_wp2_with (first
      | (with_reducible refine (hA.out _).mono ?_; rintro e w1 ⟨rfl, B⟩)
      | (with_reducible refine (O.out _).mono ?_; rintro e w' ⟨rfl, rfl⟩)
      | (with_reducible refine (Q1.out _).mono ?_; rintro e w' ⟨rfl, rfl⟩)
      | (with_reducible refine (R.out _).mono ?_; rintro e w' ⟨rfl, rfl⟩)
      | (with_reducible refine (N.out _).mono ?_; rintro e w' ⟨rfl, rfl⟩)
      | (with_reducible refine (Q2.out _).mono ?_; rintro e w' ⟨rfl, rfl⟩))
    go_ret
    exact ⟨rfl, B⟩
  · have hp := of_pos hn h0
    obtain ⟨p1, p2⟩ := of_pred hn h0
    obtain ⟨k, hke⟩ : ∃ k, ofW n - 1 = k := ⟨_, rfl⟩
    rw [hke] at p1 p2
    have hk1 : ofW n = k + 1 := by omega
    have N := Lib.hid (fun W => next_above hu hw hg (by rw [hr]; exact hp) hk1 W)
    have Q2 := fun W => wqu_any (u := k) (by omega) W
    rw [p1, p2] at Q2
    have b1 : ((n : Int) == 0) = false := beq_eq_false_iff_ne.2 (by omega)
    have b2 : (n == 0) = false := beq_eq_false_iff_ne.2 h0
    have hs : IntKind.i64.wrap ((n : Int) - 1) = ((n - 1 : Nat) : Int) := by rw [IntKind.wrap_i64]; omega
    obtain ⟨j, hj⟩ : ∃ j, n - 1 = j := ⟨_, rfl⟩
    rw [hj] at Q2 hs
    have Q2 := Lib.hid Q2
    obtain ⟨u, hue⟩ : ∃ u, ofW n = u := ⟨_, rfl⟩
    rw [hue] at O Q1 R N
    clear hu hg hr hw hk hp p1 p2 hk1 hke hj hue h0
    go_enter Try.func4, Try.ntmps4
    go_wp2_with (first
      | (with_reducible refine (hA.out _).mono ?_; rintro e w1 ⟨rfl, B⟩)
      | (with_reducible refine (O.out _).mono ?_; rintro e w' ⟨rfl, rfl⟩)
      | (with_reducible refine (Q1.out _).mono ?_; rintro e w' ⟨rfl, rfl⟩)
      | (with_reducible refine (R.out _).mono ?_; rintro e w' ⟨rfl, rfl⟩)
      | (with_reducible refine (N.out _).mono ?_; rintro e w' ⟨rfl, rfl⟩)
      | (with_reducible refine (Q2.out _).mono ?_; rintro e w' ⟨rfl, rfl⟩))
    go_ret
    exact ⟨rfl, B⟩

theorem weightBack_walks : WalksTrue 4 Try.f4 := by
  intro H enc W base args ds p hval hA
  rw [Try.params4] at hA hval
  obtain ⟨v0, vs0, d0, ds0, p0, q0, hargs, rfl, rfl, h0, r0⟩ := trodAll_cons hA
  obtain ⟨rfl, rfl, rfl⟩ := trodAll_nil r0
  obtain rfl : args = #[v0] := by cases args; simp_all
  obtain ⟨a0, rfl, rfl, rfl, w0⟩ := open_int Try.underlying33 (hval 0 33 v0 rfl rfl) h0
  obtain ⟨g0a, g0b⟩ := range_u32 w0
  obtain ⟨n0, rfl⟩ := Int.eq_ofNat_of_zero_le g0a
  exact weightBack_walk n0 (by omega) W

theorem weightBack_said : Rows.WeightBackSaid :=
  OpenClaim.holds_of_wide 4 Try.f4 rfl rfl rfl rfl rfl rfl rfl ⟨rfl, rfl, rfl, rfl, rfl⟩ rfl rfl rfl rfl rfl (by kernel_rfl) Try.func4 (by kernel_rfl)
    (of_decide_eq_true (by kernel_rfl)) (by unfold Func.isWrapper; first | (rw [if_pos (by decide +kernel)]; kernel_rfl) | (rw [if_neg (by decide +kernel)]; exact ⟨rfl, rfl⟩))
    (fun os started H enc _ => law_lift (s := Rows.weightBackSpec) Try.func4 (by kernel_rfl) rfl rfl (by intro H ds hd; match ds, hd with | [_], _ => exact ⟨rfl, rfl, rfl⟩) (by kernel_rfl) weightBack_walks os started H enc
      (ChangeSpec.witness6 (enc := enc) (C := Try.checked) false ⟨#[], #[.int .u32 0], []⟩ 8 (by kernel_rfl) (by kernel_rfl) (by kernel_rfl) (by kernel_rfl)))

end Go.Proofs.Ytcimgbjliamaiaa
