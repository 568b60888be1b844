/-
  The document's tick (stage 20).
-/
import Derived.Test.YtljmegmklfohjaaZMath
import Derived.Test.YtljmegmklfohjaaZIdle
namespace Go.Proofs.Ytljmegmklfohjaa
set_option maxRecDepth 100000
open Go.RowKit Go.Lib

theorem wZ (z : Int) (h1 : -9223372036854775808 ≤ z) (h2 : z ≤ 9223372036854775807) : IntKind.i64.wrap z = z := by rw [IntKind.wrap_i64]; omega
theorem rtick_any (z : Int) (W : World) : Calls Try.prog 24 #[.int .i64 z] W fun e w' => e = .returned (.int .i64 (tickZ z)) ∧ W = w' := by
  obtain ⟨t, ht⟩ : ∃ t, tickZ z = t := ⟨_, rfl⟩
  rw [ht]
  unfold tickZ at ht
  by_cases h1 : z < 0
  · rw [if_pos h1] at ht
    subst ht
    go_enter Try.func24, Try.ntmps24
    go_wp2_with fail
    go_ret
    exact ⟨rfl, rfl⟩
  · rw [if_neg h1] at ht
    by_cases h2 : 1099511627776 < z
    · rw [if_pos h2] at ht
      subst ht
      go_enter Try.func24, Try.ntmps24
      go_wp2_with fail
      go_ret
      exact ⟨rfl, rfl⟩
    · rw [if_neg h2] at ht
      subst ht
      go_enter Try.func24, Try.ntmps24
      go_wp2_with fail
      go_ret
      exact ⟨rfl, rfl⟩
end Go.Proofs.Ytljmegmklfohjaa
