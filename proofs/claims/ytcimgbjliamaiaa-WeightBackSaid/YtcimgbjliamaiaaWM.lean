/-
  math.IsNaN, NaN, Inf, Copysign, Nextafter.
-/
import Derived.Test.YtcimgbjliamaiaaWR
namespace Go.Proofs.Ytcimgbjliamaiaa
set_option maxRecDepth 100000
open Go.RowKit Go.Lib

theorem isnan_order {u : Nat} (hu : u < T64) : (FloatKind.f64.format.order u u != some Ordering.eq) = nanW u := by
  cases h : nanW u
  · exact (congrArg (fun x => x != some Ordering.eq) (order_self hu h)).trans rfl
  · exact (congrArg (fun x => x != some Ordering.eq) (order_nan hu h u).1).trans rfl
set_option maxHeartbeats 1000000 in
theorem isnan_any {u : Nat} (hu : u < T64) (w : World) : Calls Try.prog 32 #[.float .f64 u] w fun e w' => e = .returned (.bool (nanW u)) ∧ w = w' := by
  have f := isnan_order hu
  go_enter Try.func32, Try.ntmps32
  go_wp2_with fail
  go_ret
  exact ⟨rfl, rfl⟩
set_option maxHeartbeats 1000000 in
theorem nan_any (w : World) : Calls Try.prog 29 #[] w fun e w' => e = .returned (.float .f64 9221120237041090561) ∧ w = w' := by
  have hb : ∀ w : World, (callFunc 10 #[.int .u64 9221120237041090561]).run Try.prog w = .ok (.value (.float .f64 9221120237041090561)) w := run_f64from 9221120237041090561
  go_enter Try.func29, Try.ntmps29
  go_wp2_with fail
  go_ret
  exact ⟨rfl, rfl⟩
set_option maxHeartbeats 1000000 in
theorem inf_up (w : World) : Calls Try.prog 27 #[.int .i64 1] w fun e w' => e = .returned (.float .f64 9218868437227405312) ∧ w = w' := by
  have hb : ∀ w : World, (callFunc 10 #[.int .u64 9218868437227405312]).run Try.prog w = .ok (.value (.float .f64 9218868437227405312)) w := run_f64from 9218868437227405312
  go_enter Try.func27, Try.ntmps27
  go_wp2_with fail
  go_ret
  exact ⟨rfl, rfl⟩
set_option maxHeartbeats 1000000 in
theorem inf_down (w : World) : Calls Try.prog 27 #[.int .i64 (-1)] w fun e w' => e = .returned (.float .f64 18442240474082181120) ∧ w = w' := by
  have hb : ∀ w : World, (callFunc 10 #[.int .u64 18442240474082181120]).run Try.prog w = .ok (.value (.float .f64 18442240474082181120)) w := run_f64from 18442240474082181120
  go_enter Try.func27, Try.ntmps27
  go_wp2_with fail
  go_ret
  exact ⟨rfl, rfl⟩
theorem cs_0 : bits .or .u64 (bits .andNot .u64 0 9223372036854775808) (bits .and .u64 13830554455654793216 9223372036854775808) = 9223372036854775808 := by decide +kernel
set_option maxHeartbeats 1000000 in
theorem copysign_0 (w : World) : Calls Try.prog 28 #[.float .f64 0, .float .f64 13830554455654793216] w fun e w' => e = .returned (.float .f64 9223372036854775808) ∧ w = w' := by
  have hb : ∀ w : World, (callFunc 33 #[.float .f64 0]).run Try.prog w = .ok (.value (.int .u64 0)) w := run_f64bits 0
  have hb2 : ∀ w : World, (callFunc 33 #[.float .f64 13830554455654793216]).run Try.prog w = .ok (.value (.int .u64 13830554455654793216)) w := run_f64bits 13830554455654793216
  have hc : ∀ w : World, (callFunc 10 #[.int .u64 9223372036854775808]).run Try.prog w = .ok (.value (.float .f64 9223372036854775808)) w := run_f64from 9223372036854775808
  have c0 := cs_0
  go_enter Try.func28, Try.ntmps28
  go_wp2_with fail
  go_ret
  exact ⟨rfl, rfl⟩
end Go.Proofs.Ytcimgbjliamaiaa
