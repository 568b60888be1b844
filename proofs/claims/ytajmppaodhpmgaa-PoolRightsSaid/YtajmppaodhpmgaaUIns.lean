/-
  How an insertion goes along a list: what the document's add has behind k backends. No program is walked here.
-/
import Derived.Test.YtajmppaodhpmgaaUMath
namespace Go.Proofs.Ytajmppaodhpmgaa
open Go.RowKit Go.Lib

/-- None of them is greater. -/
def NoneUp (x : Bk) (l : List Bk) : Prop := ∀ y, y ∈ l → Op.bytesLess x.nm y.nm = false
theorem insB_none {x : Bk} : ∀ {l : List Bk}, NoneUp x l → insB x l = l ++ [x]
  | [], _ => rfl
  | y :: l, h => by
    have h1 := h y (List.mem_cons_self ..)
    unfold insB
    rw [if_neg (by rw [h1]; decide), insB_none (fun z hz => h z (List.mem_cons_of_mem _ hz))]
    rfl
theorem insB_now {x z : Bk} : ∀ {l : List Bk}, NoneUp x l → Op.bytesLess x.nm z.nm = true → insB x (l ++ [z]) = l ++ [x] ++ [z]
  | [], _, hz => by
    show insB x [z] = [x, z]
    unfold insB
    rw [if_pos hz]
  | y :: l, h, hz => by
    have h1 := h y (List.mem_cons_self ..)
    show insB x (y :: (l ++ [z])) = _
    unfold insB
    rw [if_neg (by rw [h1]; decide), insB_now (fun z hz => h z (List.mem_cons_of_mem _ hz)) hz]
    rfl
theorem insB_done {x z : Bk} : ∀ {l : List Bk}, ¬ NoneUp x l → insB x (l ++ [z]) = insB x l ++ [z]
  | [], h => absurd (fun y hy => by cases hy) h
  | y :: l, h => by
    show insB x (y :: (l ++ [z])) = insB x (y :: l) ++ [z]
    unfold insB
    by_cases h1 : Op.bytesLess x.nm y.nm = true
    · rw [if_pos h1, if_pos h1]
      rfl
    · rw [if_neg h1, if_neg h1, insB_done (fun hn => h (fun z hz => by
        rcases List.mem_cons.1 hz with rfl | hz
        · exact Bool.eq_false_iff.2 h1
        · exact hn z hz))]
      rfl
theorem NoneUp.snoc {x z : Bk} {l : List Bk} (h : NoneUp x l) (hz : Op.bytesLess x.nm z.nm = false) : NoneUp x (l ++ [z]) := by
  intro y hy
  rcases List.mem_append.1 hy with hy | hy
  · exact h y hy
  · rw [List.mem_singleton.1 hy]
    exact hz
theorem NoneUp.not_snoc {x z : Bk} {l : List Bk} (h : ¬ NoneUp x l) : ¬ NoneUp x (l ++ [z]) := fun hn => h (fun y hy => hn y (List.mem_append_left _ hy))
theorem NoneUp.not_now {x z : Bk} {l : List Bk} (hz : Op.bytesLess x.nm z.nm = true) : ¬ NoneUp x (l ++ [z]) := fun hn => by
  have h := hn z (List.mem_append_right _ (List.mem_singleton.2 rfl))
  rw [hz] at h
  cases h
/-- What the document's add has laid behind some: with the new one in its place if one of them is greater. -/
def laidB (x : Bk) (d : Bool) (l : List Bk) : List Bk := if d then insB x l else l
theorem laid_zero (x : Bk) : laidB x false [] = [] := rfl
theorem laid_end {x : Bk} {l : List Bk} : (¬ NoneUp x l → laidB x true l = insB x l) ∧ (NoneUp x l → laidB x false l ++ [x] = insB x l) :=
  ⟨fun _ => rfl, fun h => (insB_none h).symm⟩
end Go.Proofs.Ytajmppaodhpmgaa
