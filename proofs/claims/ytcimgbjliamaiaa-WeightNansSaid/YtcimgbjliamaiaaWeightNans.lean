/-
  PROVED HERE: 'WeightNansSaid': whatever a and b are, the Go function WeightNans of package wayleavelaw14 returns true, and its arguments read behind the call as they read before. No condition.
-/
import Derived.Test.YtcimgbjliamaiaaWA
namespace Go.Proofs.Ytcimgbjliamaiaa
set_option maxRecDepth 100000
open Go.RowKit Go.Lib Go.ChangeShapes Go.WideShapes Go.ChangeAt

theorem bits_or {a c : Nat} (ha : a < T64) (hc : c < T64) : bits .or .u64 (a : Int) (c : Int) = ((a ||| c : Nat) : Int) ∧ a ||| c < T64 := by
  have e : T64 = 2 ^ 64 := by rw [T64_eq]
  rw [e] at ha hc
  rw [e]
  exact ⟨(bits_nat .u64 64 (by decide) wraps_u64 a c ha hc).2, Nat.or_lt_two_pow ha hc⟩
theorem or_rung (a c : Nat) : rgW (a ||| c) = rgW a ||| rgW c := by
  have e : 2048 * B52 = 2 ^ 63 := by decide
  unfold rgW
  rw [e, Nat.or_mod_two_pow]
theorem or_nan (a : Nat) : nanW (a ||| 9218868437227405313) = true := by
  refine decide_eq_true ?_
  rw [or_rung]
  have h : rgW 9218868437227405313 ≤ rgW a ||| rgW 9218868437227405313 := Nat.right_le_or
  have e : rgW 9218868437227405313 = 2047 * B52 + 1 := by decide
  omega
theorem nan_wt {u : Nat} (h : nanW u = true) : wtW u = false ∧ canW u = 9221120237041090560 ∧ plainW u = u := by
  have h2 := of_decide_eq_true h
  have h3 : W1000 < 2047 * B52 := by decide
  refine ⟨?_, if_pos h, if_neg (by omega)⟩
  unfold wtW
  rw [decide_eq_false (by omega), decide_eq_false (by omega)]
  cases ngW u <;> rfl
theorem or_low (a : Nat) : wtW (a ||| 9223372036854775808 ||| 1) = false := by
  have h1 : rgW (a ||| 9223372036854775808 ||| 1) ≠ 0 := by
    rw [or_rung]
    have h : rgW 1 ≤ rgW (a ||| 9223372036854775808) ||| rgW 1 := Nat.right_le_or
    have e : rgW 1 = 1 := by decide
    omega
  have h2 : ngW (a ||| 9223372036854775808 ||| 1) = true := by
    refine decide_eq_true ?_
    have h : 9223372036854775808 ≤ a ||| 9223372036854775808 := Nat.right_le_or
    have h2 : a ||| 9223372036854775808 ≤ a ||| 9223372036854775808 ||| 1 := Nat.left_le_or
    have e : 2048 * B52 = 9223372036854775808 := by decide
    omega
  unfold wtW
  rw [decide_eq_false h1, h2]
  rfl
set_option maxHeartbeats 2000000 in
theorem weightNans_walk (a : Nat) (ha : a < 18446744073709551616) (b : Nat) (hb : b < 18446744073709551616) (w : World) : Calls Try.prog 8 #[.int .u64 (a : Int), .int .u64 (b : Int)] w fun e w' => e = .returned (.bool true) ∧ Below w.heap.size w w' := by
  rw [← T64_eq] at ha hb
  have A := Lib.hid (awake14 w)
  obtain ⟨e1, t1⟩ := bits_or (c := 9218868437227405313) ha (by decide)
  obtain ⟨e2, t2⟩ := bits_or (c := 9218868437227405313) hb (by decide)
  obtain ⟨e3, t3⟩ := bits_or (c := 9223372036854775808) ha (by decide)
  obtain ⟨e4, t4⟩ := bits_or (c := 1) t3 (by decide)
  have n1 := or_nan a
  have n2 := or_nan b
  have n3 := or_low a
  obtain ⟨x, hx⟩ : ∃ x, a ||| 9218868437227405313 = x := ⟨_, rfl⟩
  obtain ⟨y, hy⟩ : ∃ y, b ||| 9218868437227405313 = y := ⟨_, rfl⟩
  obtain ⟨m, hm⟩ : ∃ m, a ||| 9223372036854775808 = m := ⟨_, rfl⟩
  rw [hx] at e1 t1 n1
  rw [hy] at e2 t2 n2
  rw [hm] at e3 t3 e4 t4 n3
  obtain ⟨z, hz⟩ : ∃ z, m ||| 1 = z := ⟨_, rfl⟩
  rw [hz] at e4 t4 n3
  clear hx hy hm hz
  have e1 : bits .or .u64 (a : Int) 9218868437227405313 = (x : Int) := e1
  have e2 : bits .or .u64 (b : Int) 9218868437227405313 = (y : Int) := e2
  have e3 : bits .or .u64 (a : Int) 9223372036854775808 = (m : Int) := e3
  have e4 : bits .or .u64 (m : Int) 1 = (z : Int) := e4
  obtain ⟨p1, p2, p3⟩ := nan_wt n1
  obtain ⟨q1, q2, q3⟩ := nan_wt n2
  have hbx := run_f64from x
  have hby := run_f64from y
  have hbz := run_f64from z
  have R1 := fun W => wright_any t1 W
  have R2 := fun W => wright_any t4 W
  have R3 := Lib.hid (aw_right 9218868437227405312 false (by decide) (by decide))
  have R4 := Lib.hid (aw_right 18442240474082181120 false (by decide) (by decide))
  rw [p1] at R1
  rw [n3] at R2
  have R1 := Lib.hid R1
  have R2 := Lib.hid R2
  have P := fun W => wplain_any t1 W
  rw [p3] at P
  have P := Lib.hid P
  have S := fun W => wsame_any t1 t2 W
  rw [decide_eq_true (p2.trans q2.symm)] at S
  have S := Lib.hid S
  have U := Lib.hid (fun W => wput_any t1 W)
  have V := fun W => wput_any t2 W
  rw [show putW y = putW x from by unfold putW; rw [p2, q2]] at V
  have V := Lib.hid V
  have C1 := Lib.hid inf_up
  have C2 := Lib.hid inf_down
  clear t1 t2 t3 t4 n1 n2 n3 p1 p2 p3 q1 q2 q3 ha hb
  obtain ⟨X, hX⟩ : ∃ X, putW x = X := ⟨_, rfl⟩
  rw [hX] at U V
  clear hX
  go_enter Try.func8, Try.ntmps8
  go_wp2_with (first
    | (refine A.out.mono ?_; rintro e w1 ⟨rfl, B⟩)
    | (with_reducible refine (R1.out _).mono ?_; rintro e w' ⟨rfl, rfl⟩)
    | (with_reducible refine (R2.out _).mono ?_; rintro e w' ⟨rfl, rfl⟩)
    | (with_reducible refine (R3.out _).mono ?_; rintro e w' ⟨rfl, rfl⟩)
    | (with_reducible refine (R4.out _).mono ?_; rintro e w' ⟨rfl, rfl⟩)
    | (with_reducible refine (C1.out _).mono ?_; rintro e w' ⟨rfl, rfl⟩)
    | (with_reducible refine (C2.out _).mono ?_; rintro e w' ⟨rfl, rfl⟩)
    | (with_reducible refine (P.out _).mono ?_; rintro e w' ⟨rfl, rfl⟩)
    | (with_reducible refine (S.out _).mono ?_; rintro e ws ⟨rfl, hs⟩; have B := B.trans (hs.mono B.size))
    | (with_reducible refine (U.out _).mono ?_; rintro e wu ⟨v1, rfl, ho1, hs⟩; have B := B.trans (hs.mono B.size); obtain ⟨A1, m1, c1, rfl, hm1, _, _, hr1⟩ := ho1.sl; clear hm1)
    | (with_reducible refine (V.out _).mono ?_; rintro e wv ⟨v2, rfl, ho2, hs2⟩; have B := B.trans (hs2.mono B.size); obtain ⟨A2, m2, c2, rfl, hm2, _, _, hr2⟩ := ho2.sl; clear hm2; have hr3 := hr1.below hs2)
    | (refine (same_any _ c1 c2 hr3 hr2).mono ?_; rintro e w' ⟨rfl, rfl⟩))
  go_ret
  exact ⟨rfl, B⟩

theorem weightNans_walks : WalksTrue 8 Try.f8 := by
  intro H enc W base args ds p hval hA
  rw [Try.params8] at hA hval
  obtain ⟨v0, vs0, d0, ds0, p0, q0, hargs, rfl, rfl, h0, r0⟩ := trodAll_cons hA
  obtain ⟨v1, vs1, d1, ds1, p1, q1, rfl, rfl, rfl, h1, r1⟩ := trodAll_cons r0
  obtain ⟨rfl, rfl, rfl⟩ := trodAll_nil r1
  obtain rfl : args = #[v0, v1] := by cases args; simp_all
  obtain ⟨a0, rfl, rfl, rfl, w0⟩ := open_int Try.underlying22 (hval 0 22 v0 rfl rfl) h0
  obtain ⟨g0a, g0b⟩ := range_u64 w0
  obtain ⟨n0, rfl⟩ := Int.eq_ofNat_of_zero_le g0a
  obtain ⟨a1, rfl, rfl, rfl, w1⟩ := open_int Try.underlying22 (hval 1 22 v1 rfl rfl) h1
  obtain ⟨g1a, g1b⟩ := range_u64 w1
  obtain ⟨n1, rfl⟩ := Int.eq_ofNat_of_zero_le g1a
  exact weightNans_walk n0 (by omega) n1 (by omega) W

theorem weightNans_said : Rows.WeightNansSaid :=
  OpenClaim.holds_of_wide 8 Try.f8 rfl rfl rfl rfl rfl rfl rfl ⟨rfl, rfl, rfl, rfl, rfl⟩ rfl rfl rfl rfl rfl (by kernel_rfl) Try.func8 (by kernel_rfl)
    (of_decide_eq_true (by kernel_rfl)) (by unfold Func.isWrapper; first | (rw [if_pos (by decide +kernel)]; kernel_rfl) | (rw [if_neg (by decide +kernel)]; exact ⟨rfl, rfl⟩))
    (fun os started H enc _ => law_lift (s := Rows.weightNansSpec) Try.func8 (by kernel_rfl) rfl rfl (by intro H ds hd; match ds, hd with | [_, _], _ => exact ⟨rfl, rfl, rfl⟩) (by kernel_rfl) weightNans_walks os started H enc
      (ChangeSpec.witness6 (enc := enc) (C := Try.checked) false ⟨#[], #[.int .u64 0, .int .u64 0], []⟩ 8 (by kernel_rfl) (by kernel_rfl) (by kernel_rfl) (by kernel_rfl)))

end Go.Proofs.Ytcimgbjliamaiaa
