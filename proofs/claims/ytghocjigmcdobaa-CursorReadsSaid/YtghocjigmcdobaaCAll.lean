/-
  What an ask comes to at a reader, whatever its kind; the document's Ask of whatever kind, with a fault or without.
-/
import Derived.Test.YtghocjigmcdobaaCRAsk3
namespace Go.Proofs.Ytghocjigmcdobaa
open Go.RowKit Go.Lib

/-- What an ask comes to at a reader. -/
def asS (s : RS) (k z : Int) : RS := if k = 1 then s.num z else if k = 2 then s.look.next s.lookK else if k = 3 then s.take z else if k = 4 then s.text z else s.over
def asN (s : RS) (k z : Int) (b : Bool) : Nat := if k = 1 then s.numN z b else if k = 2 then s.lookN else 0
def asB (s : RS) (k z : Int) : List UInt8 := if k = 3 then s.takeB z else if k = 4 then s.textB z else []
/-- The kind as the document's Ask takes it. -/
def kd (k : Int) : Int := if k = 1 ∨ k = 2 ∨ k = 3 ∨ k = 4 then k else 5

theorem RS.text_xs (s : RS) (z : Int) : (s.text z).xs = s.xs := by
  unfold RS.text
  split
  · split
    · rfl
    · split <;> rfl
  · exact RS.look_xs s
theorem asS_xs (s : RS) (k z : Int) : (asS s k z).xs = s.xs := by
  unfold asS
  split
  · unfold RS.num; split; exact RS.next_xs _ _; exact RS.fail_xs _ _
  · split
    · rw [RS.next_xs, RS.look_xs]
    · split
      · unfold RS.take; split; exact RS.fail_xs _ _; exact RS.next_xs _ _
      · split
        · exact RS.text_xs _ _
        · unfold RS.over; split; exact RS.fail_xs _ _; rfl
/-- With a fault nothing turns. -/
theorem as_bad {s : RS} (hf : s.fe ≠ 0) (k z : Int) (b : Bool) : asS s k z = s ∧ asN s k z b = 0 ∧ asB s k z = [] := by
  obtain ⟨l1, l2, l3⟩ := RS.look_2 hf
  have hlf : s.look.fe ≠ 0 := by rw [l1]; exact hf
  refine ⟨?_, ?_, ?_⟩
  · unfold asS
    split
    · unfold RS.num; split; exact RS.next_yes hf _; exact RS.fail_yes hf _
    · split
      · rw [l1]; exact RS.next_yes hf _
      · split
        · unfold RS.take; split; exact RS.fail_yes hf _; exact RS.next_yes hf _
        · split
          · rw [(RS.text_bad hlf z).1, l1]
          · unfold RS.over; split; exact RS.fail_yes hf _; rfl
  · unfold asN
    split
    · unfold RS.numN; split; rw [RS.nextB_yes hf, getOf_nil]; rfl
    · split
      · exact l2
      · rfl
  · unfold asB
    split
    · unfold RS.takeB; split; rfl; exact RS.nextB_yes hf _
    · split
      · exact (RS.text_bad hlf z).2
      · rfl

theorem rask_all {w : World} {A : Option Addr} {cap : Nat} {s : RS} (h : RMay w A cap s) (k z : Int) (hz0 : -9223372036854775808 ≤ z) (hz1 : z ≤ 9223372036854775807) (big : Bool) :
    Calls Try.prog 24 #[rvOf A cap s, .int .i64 (kd k), .int .i64 z, .bool big] w (RGave w A cap (asS s k z) (asN s k z big) (asB s k z)) := by
  by_cases hf : s.fe = 0
  · by_cases h1 : k = 1
    · subst h1
      exact rask_num h hf z big
    · by_cases h2 : k = 2
      · subst h2
        exact rask_var h hf z big
      · by_cases h3 : k = 3
        · subst h3
          exact rask_take h hf z big
        · by_cases h4 : k = 4
          · subst h4
            exact rask_text h hf z hz0 hz1 big
          · have e : kd k = 5 := if_neg (by omega)
            have e1 : asS s k z = s.over := by unfold asS; rw [if_neg h1, if_neg h2, if_neg h3, if_neg h4]
            have e2 : asN s k z big = 0 := by unfold asN; rw [if_neg h1, if_neg h2]
            have e3 : asB s k z = [] := by unfold asB; rw [if_neg h3, if_neg h4]
            rw [e, e1, e2, e3]
            exact rask_end h hf z big
  · obtain ⟨e1, e2, e3⟩ := as_bad hf k z big
    rw [e1, e2, e3]
    exact rask_bad A cap s hf (kd k) z big w
end Go.Proofs.Ytghocjigmcdobaa
