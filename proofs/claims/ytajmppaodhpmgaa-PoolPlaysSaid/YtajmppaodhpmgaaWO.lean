/-
  A weight without a nought's sign; a float64 compared with 0. No program is walked here.
-/
import Derived.Test.YtajmppaodhpmgaaWI
namespace Go.Proofs.Ytajmppaodhpmgaa

/-- Of any float64: 0 of -0. -/
def plainW (u : Nat) : Nat := if rgW u = 0 then 0 else u
theorem zero_order {u : Nat} (hu : u < T64) : (FloatKind.f64.format.order u 0 == some Ordering.eq) = decide (rgW u = 0) := by
  cases hn : nanW u
  · rcases fin_or hn with hf | hi
    · have e : FloatKind.f64.format.order u 0 = some (compare (sV (ngW u) (unitV (rgW u))) (sV (ngW 0) (unitV (rgW 0)))) := order_words hu f0.1 hf f0.2.1
      rw [e, f0.2.2.1, f0.2.2.2, unitV_low (r := 0) (by decide)]
      by_cases h : rgW u = 0
      · rw [decide_eq_true h, h, unitV_low (r := 0) (by decide)]
        cases ngW u <;> rfl
      · have hp : unitV 0 < unitV (rgW u) := unitV_lt (by omega)
        rw [unitV_low (r := 0) (by decide)] at hp
        rw [decide_eq_false h]
        refine beq_eq_false_iff_ne.2 fun g => ?_
        have g2 := Int.compare_eq_eq.1 (Option.some.inj g)
        have e0 : sV false 0 = 0 := rfl
        rw [e0] at g2
        cases hs : ngW u
        · rw [hs] at g2
          have : ((unitV (rgW u) : Nat) : Int) = 0 := g2
          omega
        · rw [hs] at g2
          have : -((unitV (rgW u) : Nat) : Int) = 0 := g2
          omega
    · have e : FloatKind.f64.format.order u 0 = some (if ngW u then .lt else .gt) := (order_inf hu f0.1 hi f0.2.1).1
      rw [e, decide_eq_false (by rw [hi]; decide)]
      cases ngW u <;> rfl
  · have e : FloatKind.f64.format.order u 0 = none := (order_nan hu hn 0).1
    rw [e, decide_eq_false (by have := of_decide_eq_true hn; omega)]
    rfl
end Go.Proofs.Ytajmppaodhpmgaa
