/-
  PROVED HERE: 'WeightOrderSaid': whatever a, b and c are, the Go function WeightOrder of package wayleavelaw14 returns true, and its arguments read behind the call as they read before. No condition.
-/
import Derived.Test.YtcimgbjliamaiaaWA
namespace Go.Proofs.Ytcimgbjliamaiaa
set_option maxRecDepth 100000
open Go.RowKit Go.Lib Go.ChangeShapes Go.WideShapes Go.ChangeAt

def leF (u v : Nat) : Bool := FloatKind.f64.format.order u v == some Ordering.lt || FloatKind.f64.format.order u v == some Ordering.eq
set_option maxHeartbeats 4000000 in
/-- Both are weights. -/
theorem order_both (a b c v n m : Nat) (K : Int) (p tv p1 p2 r : Bool) (w : World)
    (hA : Hid (∀ W : World, Calls Try.prog 9 #[] W fun e w' => e = .returned (.bool true) ∧ Below W.heap.size W w'))
    (hQ1 : Hid (∀ W : World, Calls Try.prog 11 #[.float .f64 a] W fun e w' => e = .returned (.tuple #[.int .i64 (n : Int), .bool true]) ∧ W = w'))
    (hQ2 : Hid (∀ W : World, Calls Try.prog 11 #[.float .f64 b] W fun e w' => e = .returned (.tuple #[.int .i64 (m : Int), .bool true]) ∧ W = w'))
    (hQ3 : Hid (∀ W : World, Calls Try.prog 11 #[.float .f64 v] W fun e w' => e = .returned (.tuple #[.int .i64 K, .bool tv]) ∧ W = w'))
    (hR : Hid (∀ W : World, Calls Try.prog 13 #[.float .f64 c] W fun e w' => e = .returned (.bool r) ∧ W = w'))
    (hadd : ∀ w : World, (binOp .add 24 (.float .f64 a) (.float .f64 a)).run Try.prog w = .ok (.float .f64 v) w)
    (hp : leF a b = p) (htv : leF v 4652007308841189376 = tv) (hp1 : leF a c = p1) (hp2 : leF c b = p2)
    (hn : n ≤ 1024000) (hpm : p = true → n ≤ m) (hK : tv = true → K = 2 * (n : Int) ∨ K = 2 * (n : Int) + 1) (hr : p1 = true → p2 = true → r = true) :
    Calls Try.prog 5 #[.int .u64 (a : Int), .int .u64 (b : Int), .int .u64 (c : Int)] w fun e w' => e = .returned (.bool true) ∧ Below w.heap.size w w' := by
  have ba := run_f64from a
  have bb := run_f64from b
  have bc := run_f64from c
  unfold leF at hp htv hp1 hp2
  have w1 : IntKind.i64.wrap (2 * (n : Int)) = 2 * (n : Int) := by rw [IntKind.wrap_i64]; omega
  have w2 : IntKind.i64.wrap (2 * (n : Int) + 1) = 2 * (n : Int) + 1 := by rw [IntKind.wrap_i64]; omega
  have w3 : (2 * (n : Int) + 1 != 2 * (n : Int)) = true := bne_iff_ne.2 (by omega)
  have w4 : (2 * (n : Int) + 1 == 2 * (n : Int)) = false := beq_eq_false_iff_ne.2 (by omega)
  have key : p = false ∨ p = true ∧ ¬ (m : Int) < (n : Int) := by
    cases p
    · exact .inl rfl
    · exact .inr ⟨rfl, by have := hpm rfl; omega⟩
  have key2 : (tv = true ∧ K = 2 * (n : Int)) ∨ (tv = true ∧ K = 2 * (n : Int) + 1) ∨ tv = false := by
    cases tv
    · exact .inr (.inr rfl)
    · rcases hK rfl with h | h
      · exact .inl ⟨rfl, h⟩
      · exact .inr (.inl ⟨rfl, h⟩)
  have key3 : p1 = false ∨ (p1 = true ∧ p2 = false) ∨ (p1 = true ∧ p2 = true ∧ r = true) := by
    cases p1
    · exact .inl rfl
    · cases p2
      · exact .inr (.inl ⟨rfl, rfl⟩)
      · exact .inr (.inr ⟨rfl, rfl, hr rfl rfl⟩)
  clear hpm hK hr
  rcases key with rfl | ⟨rfl, hnm⟩ <;> rcases key2 with ⟨rfl, rfl⟩ | ⟨rfl, rfl⟩ | rfl <;> rcases key3 with rfl | ⟨rfl, rfl⟩ | ⟨rfl, rfl, rfl⟩
  all_goals
    go_enter Try.func5, Try.ntmps5
    go_wp2_with (first
      | (with_reducible refine (hA.out w).mono ?_; rintro e w1 ⟨rfl, B1⟩)
      | (with_reducible refine (hQ1.out _).mono ?_; rintro e w' ⟨rfl, rfl⟩)
      | (with_reducible refine (hQ2.out _).mono ?_; rintro e w' ⟨rfl, rfl⟩)
      | (with_reducible refine (hQ3.out _).mono ?_; rintro e w' ⟨rfl, rfl⟩)
      | (with_reducible refine (hR.out _).mono ?_; rintro e w' ⟨rfl, rfl⟩))
    go_ret
    exact ⟨rfl, B1⟩
set_option maxHeartbeats 4000000 in
/-- One isn't. -/
theorem order_none (a b c n m : Nat) (t s : Bool) (w : World)
    (hA : Hid (∀ W : World, Calls Try.prog 9 #[] W fun e w' => e = .returned (.bool true) ∧ Below W.heap.size W w'))
    (hQ1 : Hid (∀ W : World, Calls Try.prog 11 #[.float .f64 a] W fun e w' => e = .returned (.tuple #[.int .i64 (n : Int), .bool t]) ∧ W = w'))
    (hQ2 : Hid (∀ W : World, Calls Try.prog 11 #[.float .f64 b] W fun e w' => e = .returned (.tuple #[.int .i64 (m : Int), .bool s]) ∧ W = w'))
    (hn : t = false → n = 0) (hm : s = false → m = 0) (hts : ¬ (t = true ∧ s = true)) :
    Calls Try.prog 5 #[.int .u64 (a : Int), .int .u64 (b : Int), .int .u64 (c : Int)] w fun e w' => e = .returned (.bool true) ∧ Below w.heap.size w w' := by
  have ba := run_f64from a
  have bb := run_f64from b
  have bc := run_f64from c
  have key : (t = false ∧ s = false ∧ n = 0 ∧ m = 0) ∨ (t = false ∧ s = true ∧ n = 0) ∨ (t = true ∧ s = false ∧ m = 0) := by
    cases t <;> cases s
    · exact .inl ⟨rfl, rfl, hn rfl, hm rfl⟩
    · exact .inr (.inl ⟨rfl, rfl, hn rfl⟩)
    · exact .inr (.inr ⟨rfl, rfl, hm rfl⟩)
    · exact absurd ⟨rfl, rfl⟩ hts
  clear hn hm hts
  rcases key with ⟨rfl, rfl, rfl, rfl⟩ | ⟨rfl, rfl, rfl⟩ | ⟨rfl, rfl, rfl⟩
  all_goals
    go_enter Try.func5, Try.ntmps5
    go_wp2_with (first
      | (with_reducible refine (hA.out w).mono ?_; rintro e w1 ⟨rfl, B1⟩)
      | (with_reducible refine (hQ1.out _).mono ?_; rintro e w' ⟨rfl, rfl⟩)
      | (with_reducible refine (hQ2.out _).mono ?_; rintro e w' ⟨rfl, rfl⟩))
    go_ret
    exact ⟨rfl, B1⟩
theorem weightOrder_walk (a : Nat) (ha : a < 18446744073709551616) (b : Nat) (hb : b < 18446744073709551616) (c : Nat) (hc : c < 18446744073709551616) (w : World) :
    Calls Try.prog 5 #[.int .u64 (a : Int), .int .u64 (b : Int), .int .u64 (c : Int)] w fun e w' => e = .returned (.bool true) ∧ Below w.heap.size w w' := by
  rw [← T64_eq] at ha hb hc
  by_cases h : wtW a = true ∧ wtW b = true
  · obtain ⟨wa, wb⟩ := h
    obtain ⟨v, hadd, hv, hle, hq⟩ := wt_twice ha wa
    have Q1 := fun W => wqu_any ha W
    have Q2 := fun W => wqu_any hb W
    rw [wa] at Q1
    rw [wb] at Q2
    exact order_both a b c v (quW a) (quW b) (quW v : Int) (leF a b) (wtW v) (leF a c) (leF c b) (wtW c) w (Lib.hid awake14) (Lib.hid Q1) (Lib.hid Q2) (Lib.hid fun W => wqu_any hv W) (Lib.hid fun W => wright_any hc W)
      (fun w => run_float_arith w .add 24 .f64 a a v hadd) rfl hle rfl rfl (qu_le a) (fun h => wt_mono ha hb wa wb h)
      (fun h => by have := hq h; omega) (fun h1 h2 => wt_between ha hb hc wa wb h1 h2)
  · exact order_none a b c (quW a) (quW b) (wtW a) (wtW b) w (Lib.hid awake14) (Lib.hid fun W => wqu_any ha W) (Lib.hid fun W => wqu_any hb W) no_qu no_qu h

theorem weightOrder_walks : WalksTrue 5 Try.f5 := by
  intro H enc W base args ds p hval hA
  rw [Try.params5] at hA hval
  obtain ⟨v0, vs0, d0, ds0, p0, q0, hargs, rfl, rfl, h0, r0⟩ := trodAll_cons hA
  obtain ⟨v1, vs1, d1, ds1, p1, q1, rfl, rfl, rfl, h1, r1⟩ := trodAll_cons r0
  obtain ⟨v2, vs2, d2, ds2, p2, q2, rfl, rfl, rfl, h2, r2⟩ := trodAll_cons r1
  obtain ⟨rfl, rfl, rfl⟩ := trodAll_nil r2
  obtain rfl : args = #[v0, v1, v2] := by cases args; simp_all
  obtain ⟨a0, rfl, rfl, rfl, w0⟩ := open_int Try.underlying22 (hval 0 22 v0 rfl rfl) h0
  obtain ⟨g0a, g0b⟩ := range_u64 w0
  obtain ⟨n0, rfl⟩ := Int.eq_ofNat_of_zero_le g0a
  obtain ⟨a1, rfl, rfl, rfl, w1⟩ := open_int Try.underlying22 (hval 1 22 v1 rfl rfl) h1
  obtain ⟨g1a, g1b⟩ := range_u64 w1
  obtain ⟨n1, rfl⟩ := Int.eq_ofNat_of_zero_le g1a
  obtain ⟨a2, rfl, rfl, rfl, w2⟩ := open_int Try.underlying22 (hval 2 22 v2 rfl rfl) h2
  obtain ⟨g2a, g2b⟩ := range_u64 w2
  obtain ⟨n2, rfl⟩ := Int.eq_ofNat_of_zero_le g2a
  exact weightOrder_walk n0 (by omega) n1 (by omega) n2 (by omega) W

theorem weightOrder_said : Rows.WeightOrderSaid :=
  OpenClaim.holds_of_wide 5 Try.f5 rfl rfl rfl rfl rfl rfl rfl ⟨rfl, rfl, rfl, rfl, rfl⟩ rfl rfl rfl rfl rfl (by kernel_rfl) Try.func5 (by kernel_rfl)
    (of_decide_eq_true (by kernel_rfl)) (by unfold Func.isWrapper; first | (rw [if_pos (by decide +kernel)]; kernel_rfl) | (rw [if_neg (by decide +kernel)]; exact ⟨rfl, rfl⟩))
    (fun os started H enc _ => law_lift (s := Rows.weightOrderSpec) Try.func5 (by kernel_rfl) rfl rfl (by intro H ds hd; match ds, hd with | [_, _, _], _ => exact ⟨rfl, rfl, rfl⟩) (by kernel_rfl) weightOrder_walks os started H enc
      (ChangeSpec.witness6 (enc := enc) (C := Try.checked) false ⟨#[], #[.int .u64 0, .int .u64 0, .int .u64 0], []⟩ 8 (by kernel_rfl) (by kernel_rfl) (by kernel_rfl) (by kernel_rfl)))

end Go.Proofs.Ytcimgbjliamaiaa
