/-
  Text, compared byte by byte. No program is walked here.
  Slices of shares and of names.
-/
import Derived.Test.YtfbiinipiklkaaaQB
import Derived.Test.YtfbiinipiklkaaaGSl
namespace Go.Proofs.Ytfbiinipiklkaaa
open Go.RowKit Go.Lib
theorem less_irr : ∀ x : List UInt8, Op.bytesLess x x = false
  | [] => rfl
  | a :: x => by
    unfold Op.bytesLess
    rw [less_irr x]
    simp
theorem less_trans : ∀ {x y z : List UInt8}, Op.bytesLess x y = true → Op.bytesLess y z = true → Op.bytesLess x z = true
  | x, y, [], _, h => by
    unfold Op.bytesLess at h
    cases h
  | x, [], c :: z, h, _ => by
    unfold Op.bytesLess at h
    cases h
  | [], b :: y, c :: z, _, _ => rfl
  | a :: x, b :: y, c :: z, h1, h2 => by
    unfold Op.bytesLess at h1 h2 ⊢
    simp only [Bool.or_eq_true, Bool.and_eq_true, decide_eq_true_eq, beq_iff_eq] at h1 h2 ⊢
    rcases h1 with h1 | ⟨rfl, h1⟩
    · rcases h2 with h2 | ⟨rfl, h2⟩
      · exact .inl (UInt8.lt_trans h1 h2)
      · exact .inl h1
    · rcases h2 with h2 | ⟨rfl, h2⟩
      · exact .inl h2
      · exact .inr ⟨rfl, less_trans h1 h2⟩
theorem less_other : ∀ {x y : List UInt8}, Op.bytesLess x y = false → x ≠ y → Op.bytesLess y x = true
  | [], [], _, h => absurd rfl h
  | [], _ :: _, h, _ => by
    unfold Op.bytesLess at h
    cases h
  | _ :: _, [], _, _ => rfl
  | a :: x, b :: y, h, hn => by
    unfold Op.bytesLess at h ⊢
    simp only [Bool.or_eq_false_iff, Bool.and_eq_false_iff, decide_eq_false_iff_not, Bool.or_eq_true, Bool.and_eq_true, decide_eq_true_eq, beq_iff_eq, beq_eq_false_iff_ne] at h ⊢
    obtain ⟨h1, h2⟩ := h
    by_cases hab : a = b
    · subst hab
      refine .inr ⟨rfl, less_other ?_ (fun e => hn (by rw [e]))⟩
      rcases h2 with h2 | h2
      · exact absurd rfl h2
      · exact h2
    · left
      rcases UInt8.lt_or_lt_of_ne hab with h3 | h3
      · exact absurd h3 h1
      · exact h3
/-- A share. -/
structure Shr where
  nm : List UInt8
  q : Int
end Go.Proofs.Ytfbiinipiklkaaa
namespace Go.Proofs.Ytfbiinipiklkaaa
set_option maxRecDepth 100000
open Go.RowKit Go.Lib
def strV (s : List UInt8) : Value := .string ⟨s.toArray⟩
end Go.Proofs.Ytfbiinipiklkaaa
