/-
  PROVED HERE: 'VarintFoldsSaid': whatever n, m and u are, the Go function VarintFolds of package wayleavelaw02 returns true. No condition.
-/
import Derived.Test.YtnbehleppmnjdaaVarAwake
import Derived.Test.YtnbehleppmnjdaaLift
namespace Go.Proofs.Ytnbehleppmnjdaa
open Go.RowKit Go.Lib Go.ChangeShapes Go.WideShapes Go.ChangeAt

theorem ret_bool {a b : Bool} (h : a = b) : Ending.returned (.bool a) = .returned (.bool b) := by rw [h]

theorem zz_or {n m : Int} {b : Bool} (h : (n < m ∨ n < -m) ∧ (-n < m ∨ -n < -m)) : (b || decide (zigzag n < zigzag m)) = true := by
  rw [Bool.or_eq_true]
  right
  apply decide_eq_true
  unfold zigzag
  split <;> split <;> omega
theorem vput_one (n : Int) (h1 : -64 ≤ n) (h2 : n ≤ 63) (w : World) : Calls Try.prog 12 #[.int .u64 (zigzag n : Nat)] w fun e W' => ∃ A c, e = .returned (.slice A 1 c) ∧ Below w.heap.size w W' :=
  (vput_any (zigzag n) (zigzag_lt (by omega) (by omega)) w).mono fun e W' h => by
    obtain ⟨v, rfl, ho, hb⟩ := h
    obtain ⟨A, m, c, rfl, hm, _, _, _⟩ := ho.sl
    rw [usize_one (by unfold zigzag; split <;> omega)] at hm
    subst hm
    exact ⟨A, c, rfl, hb⟩

set_option maxRecDepth 100000 in
set_option maxHeartbeats 4000000 in
theorem varintFolds_walk (n : Int) (hn1 : -9223372036854775808 ≤ n) (hn2 : n ≤ 9223372036854775807) (m : Int) (hm1 : -9223372036854775808 ≤ m) (hm2 : m ≤ 9223372036854775807) (u : Nat) (hu : u < 18446744073709551616) (w : World) :
    Calls Try.prog 8 #[.int .i64 n, .int .i64 m, .int .u64 (u : Int)] w fun e W' => e = .returned (.bool true) ∧ Below w.heap.size w W' := by
  have F1 := Lib.hid (fun W => fold_any n hn1 hn2 W)
  have F2 := Lib.hid (fun W => fold_any m hm1 hm2 W)
  have F3 := Lib.hid (fun W => rfold_any n hn1 hn2 W)
  have O1 := Lib.hid (fun W => open_any (zigzag n) (zigzag_lt hn1 hn2) W)
  have O2 := Lib.hid (fun W => open_any u hu W)
  have O3 := Lib.hid (fun W => ropen_any u hu W)
  have hur := unzig_range u hu
  have F4 := Lib.hid (fun W => fold_any (unzig u) hur.1 hur.2 W)
  have PP := Lib.hid (fun W (h1 : -64 ≤ n) (h2 : n ≤ 63) => vput_one n h1 h2 W)
  clear hur
  go_enter Try.func8, Try.ntmps8
  go_wp2_with fail
  refine (awake_any _).mono ?_
  rintro e w1 ⟨rfl, hb1⟩
  go_wp2_with fail
  refine (F1.out _).mono ?_
  rintro e w2 ⟨rfl, rfl⟩
  go_wp2_with fail
  refine (F2.out _).mono ?_
  rintro e w2 ⟨rfl, rfl⟩
  go_wp2_with fail
  refine (F3.out _).mono ?_
  rintro e w2 ⟨rfl, rfl⟩
  go_wp2_with fail
  refine (O1.out _).mono ?_
  rintro e w2 ⟨rfl, rfl⟩
  rw [unzig_zigzag]
  go_wp2_with fail
  refine (O2.out _).mono ?_
  rintro e w2 ⟨rfl, rfl⟩
  go_wp2_with fail
  refine (F4.out _).mono ?_
  rintro e w2 ⟨rfl, rfl⟩
  rw [zigzag_unzig]
  go_wp2_with fail
  refine (O2.out _).mono ?_
  rintro e w2 ⟨rfl, rfl⟩
  go_wp2_with fail
  refine (O3.out _).mono ?_
  rintro e w2 ⟨rfl, rfl⟩
  have hz : ((n == m) == ((zigzag n : Int) == (zigzag m : Int))) = true := by
    by_cases h : n = m
    · subst h; simp
    · have h2 : ¬ (zigzag n : Int) = (zigzag m : Int) := fun e => h (by rw [← unzig_zigzag n, ← unzig_zigzag m, Int.ofNat_inj.1 e])
      rw [beq_eq_false_iff_ne.2 h, beq_eq_false_iff_ne.2 h2]; rfl
  have hz2 : ((n == m) == (zigzag n == zigzag m)) = true := by
    by_cases h : n = m
    · subst h; simp
    · have h2 : ¬ zigzag n = zigzag m := fun e => h (by rw [← unzig_zigzag n, ← unzig_zigzag m, e])
      rw [beq_eq_false_iff_ne.2 h, beq_eq_false_iff_ne.2 h2]; rfl
  clear F1 F2 F3 F4 O1 O2 O3
  have hz3 := hb1.size
  go_wp2_with (go_at_call 12; refine (PP.out _ ?_ ?_).mono ?_; assumption; assumption; rintro e w2 ⟨A2, c2, rfl, hb2⟩)
  all_goals go_ret
  all_goals first
    | exact ⟨rfl, hb1⟩
    | exact ⟨rfl, hb1.trans (hb2.mono hz3)⟩
    | exact ⟨ret_bool (zz_or (by omega)), hb1⟩
    | exact ⟨ret_bool (zz_or (by omega)), hb1.trans (hb2.mono hz3)⟩

theorem varintFolds_walks : WalksTrue 8 Try.f8 := by
  intro H enc W base args ds p hval hA
  rw [Try.params8] at hA hval
  obtain ⟨v0, vs0, d0, ds0, p0, q0, hargs, rfl, rfl, h0, r0⟩ := trodAll_cons hA
  obtain ⟨v1, vs1, d1, ds1, p1, q1, rfl, rfl, rfl, h1, r1⟩ := trodAll_cons r0
  obtain ⟨v2, vs2, d2, ds2, p2, q2, rfl, rfl, rfl, h2, r2⟩ := trodAll_cons r1
  obtain ⟨rfl, rfl, rfl⟩ := trodAll_nil r2
  obtain rfl : args = #[v0, v1, v2] := by cases args; simp_all
  obtain ⟨a0, rfl, rfl, rfl, w0⟩ := open_int Try.underlying2 (hval 0 2 v0 rfl rfl) h0
  obtain ⟨g0a, g0b⟩ := range_i64 w0
  obtain ⟨a1, rfl, rfl, rfl, w1⟩ := open_int Try.underlying2 (hval 1 2 v1 rfl rfl) h1
  obtain ⟨g1a, g1b⟩ := range_i64 w1
  obtain ⟨a2, rfl, rfl, rfl, w2⟩ := open_int Try.underlying24 (hval 2 24 v2 rfl rfl) h2
  obtain ⟨g2a, g2b⟩ := range_u64 w2
  obtain ⟨n2, rfl⟩ := Int.eq_ofNat_of_zero_le g2a
  exact varintFolds_walk a0 g0a g0b a1 g1a g1b n2 (by omega) W

theorem varintFolds_said : Rows.VarintFoldsSaid :=
  OpenClaim.holds_of_wide 8 Try.f8 rfl rfl rfl rfl rfl rfl rfl ⟨rfl, rfl, rfl, rfl, rfl⟩ rfl rfl rfl rfl rfl (by kernel_rfl) Try.func8 (by kernel_rfl)
    (of_decide_eq_true (by kernel_rfl)) (by unfold Func.isWrapper; first | (rw [if_pos (by decide +kernel)]; kernel_rfl) | (rw [if_neg (by decide +kernel)]; exact ⟨rfl, rfl⟩))
    (fun os started H enc _ => law_lift (s := Rows.varintFoldsSpec) Try.func8 (by kernel_rfl) rfl rfl (by intro H ds hd; match ds, hd with | [_, _, _], _ => exact ⟨rfl, rfl, rfl⟩) (by kernel_rfl) varintFolds_walks os started H enc
      (ChangeSpec.witness6 (enc := enc) (C := Try.checked) false ⟨#[], #[.int .i64 0, .int .i64 0, .int .u64 0], []⟩ 8 (by kernel_rfl) (by kernel_rfl) (by kernel_rfl) (by kernel_rfl)))

end Go.Proofs.Ytnbehleppmnjdaa
