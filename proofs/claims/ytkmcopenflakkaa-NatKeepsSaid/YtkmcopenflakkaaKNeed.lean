/-
  packet.need, by which reading gives up, and packet.isPort.
-/
import Derived.Test.YtkmcopenflakkaaKCell
import Derived.WalkLawsBesides
namespace Go.Proofs.Ytkmcopenflakkaa
open Go.RowKit Go.Lib
/-- The panic with which reading gives up. -/
def gave (k : Int) : List PanicEntry := [{ v := .iface 85 (.int .i64 k), recovered := false }]
set_option maxHeartbeats 400000 in
theorem need_yes (k : Int) (w : World) : Calls Try.prog 59 #[.bool true, .int .i64 k] w fun e w' => e = .returned (.tuple #[]) ∧ w = w' := by
  go_enter Try.func59, Try.ntmps59
  go_wp2_with fail
  go_end0
  exact ⟨rfl, rfl⟩
set_option maxHeartbeats 400000 in
theorem need_no (k : Int) (w : World) : Calls Try.prog 59 #[.bool false, .int .i64 k] w fun e w' => e = .panicked (gave k) ∧ w = w' := by
  go_enter Try.func59, Try.ntmps59
  go_wp2_with fail
  exact ⟨rfl, rfl, rfl⟩
def isPt (n : Int) : Bool := decide (n = 6 ∨ n = 17)
set_option maxHeartbeats 400000 in
theorem isport_any (n : Int) (w : World) : Calls Try.prog 61 #[.int .i64 n] w fun e w' => e = .returned (.bool (isPt n)) ∧ w = w' := by
  by_cases h1 : n = 6
  · subst h1
    go_enter Try.func61, Try.ntmps61
    go_wp2
    go_ret
    exact ⟨rfl, rfl⟩
  · have b1 : (n == 6) = false := beq_eq_false_iff_ne.2 h1
    by_cases h2 : n = 17
    · subst h2
      clear h1
      go_enter Try.func61, Try.ntmps61
      go_wp2
      go_ret
      exact ⟨rfl, rfl⟩
    · have b2 : (n == 17) = false := beq_eq_false_iff_ne.2 h2
      have e : isPt n = false := decide_eq_false (by omega)
      rw [e]
      clear h1 h2 e
      go_enter Try.func61, Try.ntmps61
      go_wp2
      go_ret
      exact ⟨rfl, rfl⟩
end Go.Proofs.Ytkmcopenflakkaa
