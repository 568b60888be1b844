/-
  Plain mathematics of stage 14: float64 numbers as whole numbers of their least unit, 2 to the power of -1074. No program is walked here.
-/
import Derived.Laws.FloatArith
import Derived.Test.YtcimgbjliamaiaaRows
namespace Go.Proofs.Ytcimgbjliamaiaa
open Ieee

/-- So many rungs to a binade; so many units has a rung. -/
def B52 : Nat := 4503599627370496
theorem B52_pow : B52 = 2 ^ 52 := rfl
def unitV (r : Nat) : Nat := if r < B52 then r else (B52 + r % B52) * 2 ^ (r / B52 - 1)
/-- The rung of so many units (if it has one). -/
def rungOf (N : Nat) : Nat := (N.log2 - 52) * B52 + N / 2 ^ (N.log2 - 52)
/-- Has a number of so many units just one rung? -/
def fine (N : Nat) : Prop := 2 ^ (N.log2 - 52) ∣ N
theorem infR : double.infRung = 2047 * B52 := rfl
theorem binR : double.binade = B52 := rfl
theorem leastR : double.leastPlace = -1074 := rfl
theorem signR : double.signWeight = 2048 * B52 := rfl
theorem log2_lt {n k : Nat} (h : n ≠ 0) : n.log2 < k ↔ n < 2 ^ k := Nat.log2_lt h
theorem log2_of {n k : Nat} (h1 : 2 ^ k ≤ n) (h2 : n < 2 ^ (k + 1)) : n.log2 = k := by
  have h0 : n ≠ 0 := by have := Nat.two_pow_pos k; omega
  have a := (Nat.log2_lt h0 (k := k + 1)).2 h2
  have b : ¬ n.log2 < k := fun h => by have := (Nat.log2_lt h0).1 h; omega
  omega
theorem log2_bounds {n : Nat} (h : n ≠ 0) : 2 ^ n.log2 ≤ n ∧ n < 2 ^ (n.log2 + 1) := ⟨Nat.log2_self_le h, Nat.lt_log2_self⟩
theorem log2_mul {n : Nat} (h : n ≠ 0) (k : Nat) : (n * 2 ^ k).log2 = n.log2 + k := by
  obtain ⟨h1, h2⟩ := log2_bounds h
  refine log2_of ?_ ?_
  · rw [Nat.pow_add]; exact Nat.mul_le_mul_right _ h1
  · rw [show n.log2 + k + 1 = n.log2 + 1 + k by omega, Nat.pow_add]; exact Nat.mul_lt_mul_of_pos_right h2 (Nat.two_pow_pos k)
theorem unitV_low {r : Nat} (h : r < B52) : unitV r = r := if_pos h
theorem unitV_high {r : Nat} (h : B52 ≤ r) : unitV r = (B52 + r % B52) * 2 ^ (r / B52 - 1) := if_neg (by omega)
theorem unitV_log {r : Nat} (h : B52 ≤ r) : (unitV r).log2 = 52 + (r / B52 - 1) := by
  rw [unitV_high h, log2_mul (by have := B52_pow; unfold B52 at *; omega)]
  have : r % B52 < B52 := Nat.mod_lt _ (by decide)
  rw [log2_of (k := 52) (by rw [← B52_pow]; omega) (by rw [show (2 : Nat) ^ (52 + 1) = B52 + B52 from rfl]; omega)]
theorem unitV_pos {r : Nat} (h : r ≠ 0) : unitV r ≠ 0 := by
  by_cases hr : r < B52
  · rw [unitV_low hr]; exact h
  · rw [unitV_high (by omega)]
    have := Nat.two_pow_pos (r / B52 - 1)
    exact Nat.mul_ne_zero (by unfold B52; omega) (by omega)
theorem unitV_fine (r : Nat) : fine (unitV r) := by
  unfold fine
  by_cases hr : r < B52
  · rw [unitV_low hr]
    have : r.log2 - 52 = 0 := by
      by_cases h0 : r = 0
      · subst h0; rfl
      · have := (log2_lt h0 (k := 52)).2 (by rw [← B52_pow]; exact hr)
        omega
    rw [this]
    exact Nat.one_dvd _
  · rw [unitV_log (by omega), Nat.add_sub_cancel_left, unitV_high (by omega)]
    exact Nat.dvd_mul_left _ _
theorem rung_unit (r : Nat) : rungOf (unitV r) = r := by
  unfold rungOf
  by_cases hr : r < B52
  · rw [unitV_low hr]
    have : r.log2 - 52 = 0 := by
      by_cases h0 : r = 0
      · subst h0; rfl
      · have := (log2_lt h0 (k := 52)).2 (by rw [← B52_pow]; exact hr)
        omega
    rw [this]
    simp
  · have h2 : B52 ≤ r := by omega
    rw [unitV_log h2, Nat.add_sub_cancel_left, unitV_high h2, Nat.mul_div_cancel _ (Nat.two_pow_pos _)]
    have h1 : 1 ≤ r / B52 := (Nat.le_div_iff_mul_le (by decide)).2 (by omega)
    have hd := Nat.div_add_mod r B52
    obtain ⟨q, hq⟩ : ∃ q, r / B52 = q + 1 := ⟨r / B52 - 1, by omega⟩
    rw [hq] at hd ⊢
    rw [Nat.mul_add, Nat.mul_one] at hd
    rw [Nat.add_sub_cancel, Nat.mul_comm q]
    omega
theorem unit_rung {N : Nat} (h : fine N) : unitV (rungOf N) = N := by
  unfold fine at h
  by_cases h53 : N < 2 ^ 53
  · have h0 : N.log2 - 52 = 0 := by
      by_cases hz : N = 0
      · subst hz; rfl
      · have := (log2_lt hz (k := 53)).2 h53
        omega
    have hr : rungOf N = N := by unfold rungOf; rw [h0]; simp
    rw [hr]
    by_cases hl : N < B52
    · exact unitV_low hl
    · rw [unitV_high (by omega)]
      have hd : N / B52 = 1 := by
        refine Nat.div_eq_of_lt_le (by omega) ?_
        rw [show (1 + 1) * B52 = 2 ^ 53 from rfl]; exact h53
      have hm := Nat.div_add_mod N B52
      rw [hd] at hm ⊢
      simp
      omega
  · have hz : N ≠ 0 := by have := Nat.two_pow_pos 53; omega
    obtain ⟨b1, b2⟩ := log2_bounds hz
    have hL : 53 ≤ N.log2 := by
      by_cases hl : 53 ≤ N.log2
      · exact hl
      · exact absurd ((log2_lt hz (k := 53)).1 (by omega)) h53
    obtain ⟨t, ht⟩ : ∃ t, N.log2 = 52 + t := ⟨N.log2 - 52, by omega⟩
    rw [ht, Nat.add_sub_cancel_left] at h
    obtain ⟨c, hc⟩ := h
    rw [ht] at b1 b2
    have hc1 : B52 ≤ c := by
      rw [hc, show (2 : Nat) ^ (52 + t) = 2 ^ t * B52 by rw [Nat.pow_add, ← B52_pow, Nat.mul_comm]] at b1
      exact Nat.le_of_mul_le_mul_left b1 (Nat.two_pow_pos t)
    have hc2 : c < 2 * B52 := by
      rw [hc, show (2 : Nat) ^ (52 + t + 1) = 2 ^ t * (2 * B52) by rw [show 52 + t + 1 = t + 53 by omega, Nat.pow_add]; rfl] at b2
      exact Nat.lt_of_mul_lt_mul_left b2
    have hr : rungOf N = t * B52 + c := by
      unfold rungOf
      rw [ht, Nat.add_sub_cancel_left, hc, Nat.mul_div_cancel_left _ (Nat.two_pow_pos t)]
    have hdv : (t * B52 + c) / B52 = t + 1 := by
      rw [Nat.add_comm, Nat.add_mul_div_right _ _ (by decide)]
      have : c / B52 = 1 := Nat.div_eq_of_lt_le (by omega) (by omega)
      omega
    have hmd : (t * B52 + c) % B52 = c - B52 := by
      rw [Nat.add_comm, Nat.add_mul_mod_self_right, Nat.mod_eq_sub_mod hc1, Nat.mod_eq_of_lt (by omega)]
    rw [hr, unitV_high (by have := Nat.zero_le (t * B52); omega), hdv, hmd, Nat.add_sub_cancel, hc, show B52 + (c - B52) = c by omega, Nat.mul_comm]
/-- More rungs, more units. -/
theorem unitV_lt {r s : Nat} (h : r < s) : unitV r < unitV s := by
  by_cases hs : s < B52
  · rw [unitV_low hs, unitV_low (by omega)]; exact h
  · by_cases hr : r < B52
    · rw [unitV_low hr, unitV_high (by omega)]
      have h1 := Nat.two_pow_pos (s / B52 - 1)
      have h2 : B52 * 1 ≤ (B52 + s % B52) * 2 ^ (s / B52 - 1) := Nat.mul_le_mul (by omega) h1
      omega
    · rw [unitV_high (by omega), unitV_high (by omega)]
      have hdr := Nat.div_add_mod r B52
      have hds := Nat.div_add_mod s B52
      have hmr : r % B52 < B52 := Nat.mod_lt _ (by decide)
      have h1 : 1 ≤ r / B52 := (Nat.le_div_iff_mul_le (by decide)).2 (by omega)
      have hle : r / B52 ≤ s / B52 := Nat.div_le_div_right (by omega)
      by_cases he : r / B52 = s / B52
      · rw [he] at hdr ⊢
        exact Nat.mul_lt_mul_of_pos_right (by omega) (Nat.two_pow_pos _)
      · obtain ⟨k, hk⟩ : ∃ k, s / B52 - 1 = (r / B52 - 1) + 1 + k := ⟨s / B52 - 1 - (r / B52), by omega⟩
        rw [hk, Nat.pow_add, Nat.pow_add]
        have h3 : (B52 + r % B52) * 2 ^ (r / B52 - 1) < (2 * B52) * 2 ^ (r / B52 - 1) := Nat.mul_lt_mul_of_pos_right (by omega) (Nat.two_pow_pos _)
        have h4 : (2 * B52) * 2 ^ (r / B52 - 1) ≤ (B52 + s % B52) * (2 ^ (r / B52 - 1) * 2 ^ 1 * 2 ^ k) := by
          have hk1 := Nat.two_pow_pos k
          calc (2 * B52) * 2 ^ (r / B52 - 1) = B52 * (2 ^ (r / B52 - 1) * 2 * 1) := by rw [Nat.mul_one, Nat.mul_comm 2 B52, Nat.mul_assoc, Nat.mul_comm 2]
            _ ≤ (B52 + s % B52) * (2 ^ (r / B52 - 1) * 2 * 2 ^ k) := Nat.mul_le_mul (by omega) (Nat.mul_le_mul_left _ hk1)
        omega
theorem unitV_le {r s : Nat} (h : r ≤ s) : unitV r ≤ unitV s := by
  rcases Nat.lt_or_eq_of_le h with h | h
  · exact Nat.le_of_lt (unitV_lt h)
  · rw [h]; exact Nat.le_refl _
theorem unitV_lt_iff {r s : Nat} : unitV r < unitV s ↔ r < s := by
  refine ⟨fun h => ?_, unitV_lt⟩
  by_cases hr : r < s
  · exact hr
  · have := unitV_le (r := s) (s := r) (by omega)
    omega
/-- A rung of a finite number, read. -/
theorem read_fin (neg : Bool) {r : Nat} (h : r < 2047 * B52) : ∃ m i, double.read (double.word neg r) = .number neg m i ∧ (-1074 : Int) ≤ i ∧ m * 2 ^ (i + 1074).toNat = unitV r ∧ m < 2 * B52 := by
  have hs : double.word neg r / double.signWeight % 2 = (if neg then 1 else 0) ∧ double.word neg r % double.signWeight = r := by
    rw [signR]
    unfold Format.word
    cases neg with
    | true =>
      rw [if_pos rfl, signR]
      refine ⟨?_, ?_⟩
      · rw [Nat.add_div_left _ (by decide), Nat.div_eq_of_lt (by omega)]; rfl
      · rw [Nat.add_mod_left, Nat.mod_eq_of_lt (by omega)]
    | false =>
      rw [if_neg (by decide)]
      refine ⟨?_, Nat.mod_eq_of_lt (by omega)⟩
      rw [Nat.div_eq_of_lt (by omega)]; rfl
  unfold Format.read
  simp only
  rw [hs.1, hs.2, binR, infR, leastR]
  have hn : ((if neg = true then 1 else 0) == 1) = neg := by cases neg <;> rfl
  rw [hn]
  by_cases hr : r < B52
  · rw [if_pos hr]
    exact ⟨_, _, rfl, Int.le_refl _, by rw [unitV_low hr]; simp, by omega⟩
  · rw [if_neg hr, if_pos h]
    refine ⟨_, _, rfl, by omega, ?_, by have : r % B52 < B52 := Nat.mod_lt _ (by decide); omega⟩
    rw [unitV_high (by omega)]
    congr 2
    omega
theorem read_inf (neg : Bool) : double.read (double.word neg (2047 * B52)) = .infinity neg := by cases neg <;> decide
end Go.Proofs.Ytcimgbjliamaiaa
