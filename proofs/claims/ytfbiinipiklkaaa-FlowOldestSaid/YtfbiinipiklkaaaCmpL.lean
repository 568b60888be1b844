/-
  What strings.Compare tells, in the words of bytesLess (split from VP1). No program is walked here.
-/
import Derived.Test.YtfbiinipiklkaaaVEnc
import Derived.Shelf.Small.Strs
namespace Go.Proofs.Ytfbiinipiklkaaa
open Go.RowKit Go.Lib

theorem cmp_less : ∀ a b : List UInt8, decide (Lib.compareBytes a b < 0) = Op.bytesLess a b
  | [], [] => rfl
  | [], _ :: _ => rfl
  | _ :: _, [] => rfl
  | a :: r, b :: t => by
    unfold Lib.compareBytes Op.bytesLess
    by_cases h : a < b
    · rw [if_pos h, decide_eq_true h]
      rfl
    · rw [if_neg h, decide_eq_false h, Bool.false_or]
      by_cases h2 : b < a
      · rw [if_pos h2]
        have h3 : (a == b) = false := by
          apply Bool.eq_false_iff.2
          intro h4
          rw [beq_iff_eq] at h4
          subst h4
          exact absurd h2 (UInt8.lt_irrefl a)
        rw [h3]
        rfl
      · rw [if_neg h2, cmp_less r t]
        have h3 : a = b := by
          rcases Decidable.em (a = b) with h4 | h4
          · exact h4
          · rcases UInt8.lt_or_lt_of_ne h4 with h5 | h5
            · exact absurd h5 h
            · exact absurd h5 h2
        subst h3
        simp
theorem cmp_zero : ∀ {a b : List UInt8}, Lib.compareBytes a b = 0 → a = b
  | [], [], _ => rfl
  | [], _ :: _, h => by unfold Lib.compareBytes at h; cases h
  | _ :: _, [], h => by unfold Lib.compareBytes at h; cases h
  | a :: r, b :: t, h => by
    unfold Lib.compareBytes at h
    by_cases h1 : a < b
    · rw [if_pos h1] at h
      cases h
    · rw [if_neg h1] at h
      by_cases h2 : b < a
      · rw [if_pos h2] at h
        cases h
      · rw [if_neg h2] at h
        have h3 : a = b := by
          rcases Decidable.em (a = b) with h4 | h4
          · exact h4
          · rcases UInt8.lt_or_lt_of_ne h4 with h5 | h5
            · exact absurd h5 h1
            · exact absurd h5 h2
        rw [h3, cmp_zero h]
theorem cmp_same : ∀ a : List UInt8, Lib.compareBytes a a = 0
  | [] => rfl
  | a :: r => by
    unfold Lib.compareBytes
    rw [if_neg (UInt8.lt_irrefl a), if_neg (UInt8.lt_irrefl a)]
    exact cmp_same r
end Go.Proofs.Ytfbiinipiklkaaa
