/-
  math.Nextafter towards -1, of weights.
-/
import Derived.Test.YtcimgbjliamaiaaWA
namespace Go.Proofs.Ytcimgbjliamaiaa
set_option maxRecDepth 100000
open Go.RowKit Go.Lib Go.Shelf

theorem cs_1 : bits .or .u64 (bits .andNot .u64 1 9223372036854775808) (bits .and .u64 13830554455654793216 9223372036854775808) = 9223372036854775809 := by decide +kernel
set_option maxHeartbeats 1000000 in
theorem copysign_1 (w : World) : Calls Try.prog 28 #[.float .f64 1, .float .f64 13830554455654793216] w fun e w' => e = .returned (.float .f64 9223372036854775809) ∧ w = w' := by
  have hb : ∀ w : World, (callFunc 33 #[.float .f64 1]).run Try.prog w = .ok (.value (.int .u64 1)) w := run_f64bits 1
  have hb2 : ∀ w : World, (callFunc 33 #[.float .f64 13830554455654793216]).run Try.prog w = .ok (.value (.int .u64 13830554455654793216)) w := run_f64bits 13830554455654793216
  have hc : ∀ w : World, (callFunc 10 #[.int .u64 9223372036854775809]).run Try.prog w = .ok (.value (.float .f64 9223372036854775809)) w := run_f64from 9223372036854775809
  have c0 := cs_1
  go_enter Try.func28, Try.ntmps28
  go_wp2_with fail
  go_ret
  exact ⟨rfl, rfl⟩
theorem fM1 : (13830554455654793216 : Nat) < T64 ∧ finW 13830554455654793216 = true ∧ ngW 13830554455654793216 = true ∧ nanW 13830554455654793216 = false := by decide
/-- A weight above 0 against -1 and 0. -/
theorem next_facts {u : Nat} (hu : u < T64) (hf : finW u = true) (hn : ngW u = false) (h0 : rgW u ≠ 0) :
    (FloatKind.f64.format.order u 13830554455654793216 == some Ordering.eq) = false ∧ (FloatKind.f64.format.order 13830554455654793216 u == some Ordering.gt) = false ∧ (FloatKind.f64.format.order u 0 == some Ordering.gt) = true := by
  have e1 : FloatKind.f64.format.order u 13830554455654793216 = some (compare (sV (ngW u) (unitV (rgW u))) (sV (ngW 13830554455654793216) (unitV (rgW 13830554455654793216)))) := order_words hu fM1.1 hf fM1.2.1
  have e2 : FloatKind.f64.format.order 13830554455654793216 u = some (compare (sV (ngW 13830554455654793216) (unitV (rgW 13830554455654793216))) (sV (ngW u) (unitV (rgW u)))) := order_words fM1.1 hu fM1.2.1 hf
  have e3 : FloatKind.f64.format.order u 0 = some (compare (sV (ngW u) (unitV (rgW u))) (sV (ngW 0) (unitV (rgW 0)))) := order_words hu f0.1 hf f0.2.1
  have hp : unitV 0 < unitV (rgW u) := unitV_lt (by omega)
  rw [unitV_low (r := 0) (by decide)] at hp
  have s1 : sV (ngW u) (unitV (rgW u)) = ((unitV (rgW u) : Nat) : Int) := by rw [hn]; rfl
  obtain ⟨y, hy⟩ : ∃ y, unitV (rgW 13830554455654793216) = y := ⟨_, rfl⟩
  have s2 : sV (ngW 13830554455654793216) (unitV (rgW 13830554455654793216)) = -((y : Nat) : Int) := by rw [fM1.2.2.1, hy]; rfl
  have s3 : sV (ngW 0) (unitV (rgW 0)) = 0 := by rw [f0.2.2.1, f0.2.2.2, unitV_low (r := 0) (by decide)]; rfl
  rw [e1, e2, e3, s1, s2, s3]
  rw [Int.compare_eq_gt.2 (show -((y : Nat) : Int) < ((unitV (rgW u) : Nat) : Int) by omega), Int.compare_eq_lt.2 (show -((y : Nat) : Int) < ((unitV (rgW u) : Nat) : Int) by omega), Int.compare_eq_gt.2 (show (0 : Int) < ((unitV (rgW u) : Nat) : Int) by omega)]
  exact ⟨rfl, rfl, rfl⟩
set_option maxHeartbeats 2000000 in
theorem next_above {u k : Nat} (hu : u < T64) (hw : wtW u = true) (hn : ngW u = false) (h0 : rgW u ≠ 0) (hk : u = k + 1) (w : World) : Calls Try.prog 17 #[.float .f64 u, .float .f64 13830554455654793216] w fun e w' => e = .returned (.float .f64 k) ∧ w = w' := by
  obtain ⟨hf, ha, _⟩ := wt_fin hw
  obtain ⟨f1, f2, f3⟩ := next_facts hu hf hn h0
  have f4 := zero_order hu
  rw [decide_eq_false h0] at f4
  have I1 := fun W => isnan_any hu W
  rw [ha] at I1
  have I1 := Lib.hid I1
  have I2 := fun W => isnan_any fM1.1 W
  rw [fM1.2.2.2] at I2
  have I2 := Lib.hid I2
  have hb := run_f64bits u
  have hc := run_f64from k
  have hs : IntKind.u64.wrap ((u : Int) - 1) = (k : Int) := by rw [IntKind.wrap_u64]; rw [T64_eq] at hu; omega
  clear hu hw hn h0 hf ha hk
  go_enter Try.func17, Try.ntmps17
  go_wp2_with (first
    | (with_reducible refine (I1.out _).mono ?_; rintro e w' ⟨rfl, rfl⟩)
    | (with_reducible refine (I2.out _).mono ?_; rintro e w' ⟨rfl, rfl⟩))
  go_ret
  exact ⟨rfl, rfl⟩
set_option maxHeartbeats 2000000 in
theorem next_zero (w : World) : Calls Try.prog 17 #[.float .f64 0, .float .f64 13830554455654793216] w fun e w' => e = .returned (.float .f64 9223372036854775809) ∧ w = w' := by
  have f1 : (FloatKind.f64.format.order 0 13830554455654793216 == some Ordering.eq) = false := by decide +kernel
  have f2 : (FloatKind.f64.format.order 0 0 == some Ordering.eq) = true := by decide +kernel
  have I1 := fun W => isnan_any f0.1 W
  rw [show nanW 0 = false from by decide] at I1
  have I1 := Lib.hid I1
  have I2 := fun W => isnan_any fM1.1 W
  rw [fM1.2.2.2] at I2
  have I2 := Lib.hid I2
  have C := Lib.hid copysign_1
  have hc : ∀ w : World, (callFunc 10 #[.int .u64 1]).run Try.prog w = .ok (.value (.float .f64 1)) w := run_f64from 1
  go_enter Try.func17, Try.ntmps17
  go_wp2_with (first
    | (with_reducible refine (I1.out _).mono ?_; rintro e w' ⟨rfl, rfl⟩)
    | (with_reducible refine (I2.out _).mono ?_; rintro e w' ⟨rfl, rfl⟩)
    | (with_reducible refine (C.out _).mono ?_; rintro e w' ⟨rfl, rfl⟩))
  go_ret
  exact ⟨rfl, rfl⟩
end Go.Proofs.Ytcimgbjliamaiaa
