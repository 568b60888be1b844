/-
  Visits, for the walk of a Build: what a visit does to slots and credits. No program is walked here.
-/
import Derived.Test.YtmngagcekhlppaaVL2
namespace Go.Proofs.Ytmngagcekhlppaa
open Go.RowKit Go.Lib

theorem visit_div {n r i : Nat} (hi : i < n) : (r * n + i) / n = r := by
  rw [Nat.mul_comm, Nat.mul_add_div (by omega), Nat.div_eq_of_lt hi, Nat.add_zero]
theorem visit_mod {n r i : Nat} (hi : i < n) : (r * n + i) % n = i := by
  rw [Nat.mul_comm, Nat.mul_add_mod, Nat.mod_eq_of_lt hi]
theorem Tb.put_free {t : Tb} (S : List Int) (i : Nat) : freeN (t.put S i) ≤ freeN S := by
  unfold Tb.put
  split
  · rename_i k hk
    have h1 := List.find?_some hk
    rw [List.getD_eq_getElem?_getD] at h1
    cases h2 : S[t.ch i k]? with
    | none => rw [h2] at h1; simp at h1
    | some y =>
      rw [h2] at h1
      have h3 := free_set h2 (by simpa using h1) i
      omega
  · exact Nat.le_refl _
theorem Tb.free_succ (t : Tb) (v : Nat) : freeN (t.tab (v + 1)) ≤ freeN (t.tab v) := by
  conv => lhs; unfold Tb.tab
  split
  · exact t.put_free _ _
  · exact Nat.le_refl _
theorem Tb.free_le (t : Tb) {v w : Nat} (h : v ≤ w) : freeN (t.tab w) ≤ freeN (t.tab v) := by
  obtain ⟨d, rfl⟩ := Nat.le.dest h
  induction d with
  | zero => exact Nat.le_refl _
  | succ d ih => exact Nat.le_trans (t.free_succ (v + d)) (ih (by omega))
/-- A visit that takes: the slot, and one free slot less. -/
theorem Tb.visit_take {t : Tb} (ht : t.Ok) {v : Nat} (hf : 0 < freeN (t.tab v)) (hk : t.take v = true) : ∃ k x, k < t.m ∧ (t.tab v)[t.ch (v % t.n) k]? = some x ∧ x < 0 ∧ (∀ j, j < k → ∃ y, (t.tab v)[t.ch (v % t.n) j]? = some y ∧ 0 ≤ y) ∧ t.tab (v + 1) = (t.tab v).set (t.ch (v % t.n) k) (v % t.n : Nat) ∧ freeN (t.tab v) = freeN (t.tab (v + 1)) + 1 := by
  obtain ⟨k, x, h1, h2, h3, h4, h5⟩ := t.tab_take ht hf hk
  refine ⟨k, x, h1, h2, h3, h4, h5, ?_⟩
  rw [h5]
  exact free_set h2 h3 _
/-- All gone through once more: at least one slot was taken. -/
theorem Tb.free_round {t : Tb} (ht : t.Ok) {r : Nat} (hf : 0 < freeN (t.tab (r * t.n))) : freeN (t.tab (r * t.n + t.n)) < freeN (t.tab (r * t.n)) := by
  obtain ⟨i, hi, hq⟩ := ht.top
  have h1 := t.free_le (show r * t.n ≤ r * t.n + i by omega)
  have h2 := t.free_le (show r * t.n + i + 1 ≤ r * t.n + t.n by omega)
  rcases Nat.eq_zero_or_pos (freeN (t.tab (r * t.n + i))) with h0 | h0
  · have := t.free_succ (r * t.n + i)
    omega
  · have hk : t.take (r * t.n + i) = true := by
      unfold Tb.take
      rw [visit_mod hi, hq]
      exact decide_eq_true (by omega)
    obtain ⟨k, x, _, _, _, _, _, h8⟩ := t.visit_take ht h0 hk
    omega
/-- A table without a free slot is the whole one. -/
theorem Tb.full_out {t : Tb} (ht : t.Ok) {v : Nat} (h : freeN (t.tab v) = 0) : t.tab v = t.out := by
  rcases Nat.le_total v (t.n * t.m) with h1 | h1
  · obtain ⟨d, hd⟩ := Nat.le.dest h1
    unfold Tb.out
    rw [← hd, t.tab_full h d]
  · obtain ⟨d, hd⟩ := Nat.le.dest h1
    have h2 := t.tab_full (t.out_full ht) d
    rw [hd] at h2
    exact h2
theorem Tb.tab_zero (t : Tb) : t.tab 0 = List.replicate t.m (-1) := rfl
theorem Tb.free_zero0 (t : Tb) : freeN (t.tab 0) = t.m := by
  unfold Tb.tab freeN
  rw [List.countP_replicate]
  rfl
/-- The credit behind a visit, as the program has it. -/
theorem Tb.credit {t : Tb} (ht : t.Ok) {r i : Nat} (hi : i < t.n) : (t.take (r * t.n + i) = decide (t.G ≤ r * t.q i % t.G + t.q i)) ∧ ((r + 1) * t.q i % t.G = if t.G ≤ r * t.q i % t.G + t.q i then r * t.q i % t.G + t.q i - t.G else r * t.q i % t.G + t.q i) := by
  refine ⟨?_, turn_mod ht.g0 (ht.le i hi) r⟩
  unfold Tb.take
  rw [visit_mod hi, visit_div hi]
/-- Credits ahead of visit r * n + i: of name i, and behind the visit. -/
theorem credL_at {t : Tb} {r i : Nat} (hi : i < t.n) : (credL t (r * t.n + i))[i]? = some ((r * t.q i % t.G : Nat) : Int) := by
  have h := credL_own (t := t) (by omega) (r * t.n + i)
  rw [visit_mod hi, visit_div hi] at h
  exact h
theorem credL_next {t : Tb} {r i : Nat} (hi : i < t.n) : (credL t (r * t.n + i)).set i (((r + 1) * t.q i % t.G : Nat) : Int) = credL t (r * t.n + i + 1) := by
  have h := credL_succ (t := t) (by omega) (r * t.n + i) rfl
  rw [visit_mod hi, visit_div hi] at h
  exact h
end Go.Proofs.Ytmngagcekhlppaa
