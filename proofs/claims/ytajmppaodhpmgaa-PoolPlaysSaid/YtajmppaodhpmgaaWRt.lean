/-
  The program: Right, Quanta, Plain (split from WY: a seat may have them without Of).
-/
import Derived.Test.YtajmppaodhpmgaaWR
import Derived.Test.YtajmppaodhpmgaaWQ
import Derived.Test.YtajmppaodhpmgaaWO
import Derived.Laws.FloatArith
namespace Go.Proofs.Ytajmppaodhpmgaa
set_option maxRecDepth 100000
open Go.RowKit Go.Lib Go.Shelf

theorem right_facts {u : Nat} (hu : u < T64) : ∃ a b : Bool, (FloatKind.f64.format.order u 0 == some Ordering.gt || FloatKind.f64.format.order u 0 == some Ordering.eq) = a ∧ (FloatKind.f64.format.order u 4652007308841189376 == some Ordering.lt || FloatKind.f64.format.order u 4652007308841189376 == some Ordering.eq) = b ∧ (a && b) = wtW u :=
  ⟨_, _, rfl, rfl, right_cmp hu⟩
set_option maxHeartbeats 1000000 in
theorem wright_any {u : Nat} (hu : u < T64) (w : World) : Calls Try.prog 48 #[.float .f64 u] w fun e w' => e = .returned (.bool (wtW u)) ∧ w = w' := by
  obtain ⟨a, b, ha, hb, hab⟩ := right_facts hu
  rw [← hab]
  clear hab hu
  cases a
  · go_enter Try.func48, Try.ntmps48
    go_wp2_with fail
    go_ret
    exact ⟨rfl, rfl⟩
  · go_enter Try.func48, Try.ntmps48
    go_wp2_with fail
    go_ret
    exact ⟨rfl, rfl⟩
/-- int(x) of a number that is small enough. -/
theorem run_f2i {v q : Nat} (h : (Ieee.double.read v).toInt .zero = some (q : Int)) (hq : q ≤ 1024000) (w : World) : (convert 34 3 (.float .f64 v)).run Try.prog w = .ok (.int .i64 (q : Int)) w :=
  run_convert_float_int w 34 3 .f64 .i64 v (q : Int) (by kernel_rfl) (by kernel_rfl) (by
    unfold floatToIntVal
    have e : (FloatKind.f64.decode v).toInt .zero = some (q : Int) := h
    rw [e]
    have h1 : IntKind.i64.min = -9223372036854775808 := rfl
    have h2 : IntKind.i64.max = 9223372036854775807 := rfl
    simp only
    rw [if_pos ⟨by rw [h1]; omega, by rw [h2]; omega⟩])
set_option maxHeartbeats 1000000 in
theorem wqu_any {u : Nat} (hu : u < T64) (w : World) : Calls Try.prog 42 #[.float .f64 u] w fun e w' => e = .returned (.tuple #[.int .i64 (quW u : Int), .bool (wtW u)]) ∧ w = w' := by
  have hR := Lib.hid (wright_any hu w)
  cases hw : wtW u
  · have hq0 : quW u = 0 := by unfold quW; rw [if_neg (by rw [hw]; decide)]
    rw [hw] at hR
    rw [hq0]
    clear hq0 hw hu
    go_enter Try.func42, Try.ntmps42
    go_wp2_with (refine hR.out.mono ?_; rintro e w' ⟨rfl, rfl⟩)
    go_ret2
    exact ⟨rfl, rfl⟩
  · obtain ⟨v, hm, hi⟩ := qu_mul hu hw
    have hm2 : ∀ w : World, (binOp .mul 34 (.float .f64 u) (.float .f64 4652218415073722368)).run Try.prog w = .ok (.float .f64 v) w := fun w => run_float_arith w .mul 34 .f64 u 4652218415073722368 v hm
    have hi2 := run_f2i hi (qu_le u)
    obtain ⟨q, hqe⟩ : ∃ q, quW u = q := ⟨_, rfl⟩
    rw [hqe] at hi2
    rw [hqe]
    rw [hw] at hR
    clear hqe hw hu hm hi
    go_enter Try.func42, Try.ntmps42
    go_wp2_with (refine hR.out.mono ?_; rintro e w' ⟨rfl, rfl⟩)
    go_ret2
    exact ⟨rfl, rfl⟩
set_option maxHeartbeats 1000000 in
theorem wplain_any {u : Nat} (hu : u < T64) (w : World) : Calls Try.prog 46 #[.float .f64 u] w fun e w' => e = .returned (.float .f64 (plainW u)) ∧ w = w' := by
  have hz := zero_order hu
  unfold plainW
  by_cases h : rgW u = 0
  · rw [if_pos h]
    rw [decide_eq_true h] at hz
    clear h hu
    go_enter Try.func46, Try.ntmps46
    go_wp2_with fail
    go_ret
    exact ⟨rfl, rfl⟩
  · rw [if_neg h]
    rw [decide_eq_false h] at hz
    clear h hu
    go_enter Try.func46, Try.ntmps46
    go_wp2_with fail
    go_ret
    exact ⟨rfl, rfl⟩
end Go.Proofs.Ytajmppaodhpmgaa
