/-
  Plain mathematics of stage 14: what is exact in float64 (products and quotients by 1024, sums, whole parts), and how numbers stand to each other. No program is walked here.
-/
import Derived.Test.YtcimgbjliamaiaaWF
namespace Go.Proofs.Ytcimgbjliamaiaa
open Ieee

/-- 1074, as an exponent that nobody works out. -/
def K74 : Nat := 1074
theorem K74_eq : K74 = 1074 := rfl
attribute [irreducible] K74
theorem cut_exact (way : Toward) (neg : Bool) (c k : Nat) : way.cut neg (c * 2 ^ k) k = c := by
  by_cases hc : c = 0
  · subst hc
    unfold Toward.cut
    simp only [Nat.zero_mul, Nat.zero_div, Nat.zero_mod, Nat.mul_zero]
    cases way <;> simp
  · have hg : 1 <<< min k ((c * 2 ^ k).log2 + 2) = 2 ^ k := by
      rw [log2_mul hc, Nat.min_eq_left (by omega), Nat.one_shiftLeft]
    have hp := Nat.two_pow_pos k
    have hb : (2 ^ k == 0) = false := beq_eq_false_iff_ne.2 (by omega)
    unfold Toward.cut
    simp only [hg, Nat.mul_mod_left, Nat.mul_div_cancel _ hp, Nat.mul_zero]
    cases way <;> simp [hb]
theorem cut_zero (neg : Bool) (n k : Nat) : Toward.zero.cut neg n k = n / 2 ^ k := by
  unfold Toward.cut
  simp only [Bool.toNat_false, Nat.add_zero]
  rw [Nat.one_shiftLeft]
  by_cases hk : k ≤ n.log2 + 2
  · rw [Nat.min_eq_left hk]
  · rw [Nat.min_eq_right (by omega)]
    have h1 : n < 2 ^ (n.log2 + 2) := Nat.lt_trans Nat.lt_log2_self (Nat.pow_lt_pow_right (by decide) (by omega))
    have h2 : n < 2 ^ k := Nat.lt_trans h1 (Nat.pow_lt_pow_right (by decide) (by omega))
    rw [Nat.div_eq_of_lt h1, Nat.div_eq_of_lt h2]
/-- A number that has a rung is written as that; one too great as an infinity. -/
theorem nearest_exact (neg : Bool) {M : Nat} {p : Int} {N a b : Nat} (hv : M * 2 ^ a = N * 2 ^ b) (hp : p + 1074 = (a : Int) - (b : Int)) (hf : fine N) :
    double.nearest neg M p = double.word neg (min (rungOf N) (2047 * B52)) := by
  by_cases hM : M = 0
  · have hN : N = 0 := by
      rw [hM, Nat.zero_mul] at hv
      rcases Nat.mul_eq_zero.1 hv.symm with h | h
      · exact h
      · have := Nat.two_pow_pos b; omega
    subst hN
    unfold Format.nearest
    rw [if_pos hM]
    rfl
  · have hN : N ≠ 0 := fun h => by
      rw [h, Nat.zero_mul] at hv
      rcases Nat.mul_eq_zero.1 hv with h | h
      · exact hM h
      · have := Nat.two_pow_pos a; omega
    have hlog : M.log2 + a = N.log2 + b := by rw [← log2_mul hM, ← log2_mul hN, hv]
    unfold fine at hf
    obtain ⟨t, ht⟩ : ∃ t, N.log2 - 52 = t := ⟨_, rfl⟩
    rw [ht] at hf
    obtain ⟨c, hc⟩ := hf
    have hrung : rungOf N = t * B52 + c := by
      unfold rungOf
      rw [ht]
      congr 1
      rw [hc, Nat.mul_div_cancel_left _ (Nat.two_pow_pos t)]
    unfold Format.nearest
    rw [if_neg hM, leastR, binR, infR]
    have hfb : (double.fractionBits : Int) = 52 := rfl
    rw [hfb]
    have hlast : max (p + (M.log2 : Int) - 52) (-1074) = -1074 + (t : Int) := by omega
    simp only [hlast]
    have h1 : (-1074 + (t : Int) - -1074).toNat = t := by omega
    rw [h1, hrung]
    congr 3
    by_cases hk : b + t ≤ a
    · obtain ⟨k, hk'⟩ : ∃ k, a = b + t + k := ⟨a - b - t, by omega⟩
      have e1 : (p - (-1074 + (t : Int))).toNat = k := by omega
      have e2 : (-1074 + (t : Int) - p).toNat = 0 := by omega
      rw [e1, e2, Nat.shiftLeft_eq]
      have h0 := cut_exact .even neg (M * 2 ^ k) 0
      rw [Nat.pow_zero, Nat.mul_one] at h0
      rw [h0]
      have h2 : M * 2 ^ k * 2 ^ (b + t) = c * 2 ^ (b + t) := by
        rw [Nat.mul_assoc, ← Nat.pow_add, Nat.add_comm k, ← hk', hv, hc, Nat.pow_add, Nat.mul_comm (2 ^ t) c, Nat.mul_assoc, Nat.mul_comm (2 ^ t)]
      exact Nat.eq_of_mul_eq_mul_right (Nat.two_pow_pos _) h2
    · obtain ⟨k, hk'⟩ : ∃ k, b + t = a + k := ⟨b + t - a, by omega⟩
      have e1 : (p - (-1074 + (t : Int))).toNat = 0 := by omega
      have e2 : (-1074 + (t : Int) - p).toNat = k := by omega
      rw [e1, e2, Nat.shiftLeft_zero]
      have h2 : M * 2 ^ a = c * 2 ^ k * 2 ^ a := by
        rw [hv, hc, Nat.mul_comm (2 ^ t) c, Nat.mul_assoc, ← Nat.pow_add, Nat.add_comm t, hk', Nat.pow_add, Nat.mul_assoc, Nat.mul_comm (2 ^ a)]
      have h3 : M = c * 2 ^ k := Nat.eq_of_mul_eq_mul_right (Nat.two_pow_pos _) h2
      rw [h3]
      exact cut_exact .even neg c k
/-- Units with their sign. -/
def sV (neg : Bool) (V : Nat) : Int := if neg then -(V : Int) else (V : Int)
theorem signed_eq (neg : Bool) (m k : Nat) : signed neg m k = sV neg (m * 2 ^ k) := by unfold signed sV; rw [Nat.shiftLeft_eq]
theorem sV_mul (neg : Bool) (V k : Nat) : sV neg (V * k) = sV neg V * (k : Int) := by
  unfold sV
  cases neg <;> simp [Int.neg_mul]
theorem compare_scale (a b : Int) {c : Nat} (hc : 0 < c) : compare (a * (c : Int)) (b * (c : Int)) = compare a b := by
  have hc' : (0 : Int) < (c : Int) := by omega
  rcases Int.lt_trichotomy a b with h | h | h
  · rw [Int.compare_eq_lt.2 h, Int.compare_eq_lt.2 (Int.mul_lt_mul_of_pos_right h hc')]
  · subst h; rw [Int.compare_eq_eq.2 rfl, Int.compare_eq_eq.2 rfl]
  · rw [Int.compare_eq_gt.2 h, Int.compare_eq_gt.2 (Int.mul_lt_mul_of_pos_right h hc')]
/-- How finite numbers stand to each other. -/
theorem order_fin (s t : Bool) {r q : Nat} (hr : r < 2047 * B52) (hq : q < 2047 * B52) : double.order (double.word s r) (double.word t q) = some (compare (sV s (unitV r)) (sV t (unitV q))) := by
  obtain ⟨m, i, e1, i0, v1, _⟩ := read_fin s hr
  obtain ⟨n, j, e2, j0, v2, _⟩ := read_fin t hq
  unfold Format.order
  rw [e1, e2]
  unfold Datum.order
  simp only
  obtain ⟨b, hb⟩ : ∃ b, min i j = b := ⟨_, rfl⟩
  rw [hb]
  have hbi : b ≤ i ∧ b ≤ j ∧ -1074 ≤ b := by omega
  rw [signed_eq, signed_eq]
  obtain ⟨d, hd⟩ : ∃ d, (b + 1074).toNat = d := ⟨_, rfl⟩
  have hi : (i + 1074).toNat = (i - b).toNat + d := by omega
  have hj : (j + 1074).toNat = (j - b).toNat + d := by omega
  rw [hi, Nat.pow_add, ← Nat.mul_assoc] at v1
  rw [hj, Nat.pow_add, ← Nat.mul_assoc] at v2
  rw [← v1, ← v2, sV_mul s _ (2 ^ d), sV_mul t _ (2 ^ d), compare_scale _ _ (Nat.two_pow_pos d)]
/-- 1024, 1000 and 0 as words. -/
theorem w1024 : (4652218415073722368 : Nat) = double.word false (1033 * B52) := rfl
theorem w1000 : (4652007308841189376 : Nat) = double.word false 4652007308841189376 := rfl
theorem w0 : (0 : Nat) = double.word false 0 := rfl
theorem read1024 : double.read 4652218415073722368 = .number false B52 (-42) := by decide
theorem unit1000 : unitV 4652007308841189376 = 1000 * 2 ^ K74 := by rw [K74_eq]; decide +kernel
theorem fine_mul {N : Nat} (h : fine N) (k : Nat) : fine (N * 2 ^ k) := by
  by_cases h0 : N = 0
  · subst h0; unfold fine; rw [Nat.zero_mul]; exact Nat.dvd_zero _
  · unfold fine at h ⊢
    rw [log2_mul h0]
    by_cases h52 : 52 ≤ N.log2
    · rw [show N.log2 + k - 52 = N.log2 - 52 + k by omega, Nat.pow_add]
      exact Nat.mul_dvd_mul h (Nat.dvd_refl _)
    · exact Nat.dvd_trans (Nat.pow_dvd_pow 2 (by omega)) (Nat.dvd_mul_left _ _)
theorem fine_small {N : Nat} (h : N < 2 ^ 53) (k : Nat) : fine (N * 2 ^ k) := by
  refine fine_mul ?_ k
  unfold fine
  by_cases h0 : N = 0
  · subst h0; exact Nat.dvd_zero _
  · have := (log2_lt h0 (k := 53)).2 h
    rw [show N.log2 - 52 = 0 by omega]
    exact Nat.one_dvd _
/-- 1024 times a number. -/
theorem mul_1024 (neg : Bool) {r : Nat} (hr : r < 2047 * B52) : double.mul (double.word neg r) 4652218415073722368 = some (double.word neg (min (rungOf (unitV r * 1024)) (2047 * B52))) := by
  obtain ⟨m, i, e1, i0, v1, _⟩ := read_fin neg hr
  unfold Format.mul
  rw [e1, read1024]
  unfold Datum.product
  simp only [Option.map_some, Format.write]
  rw [show (neg ^^ false) = neg by cases neg <;> rfl]
  congr 1
  refine nearest_exact neg (a := (i + 1074).toNat) (b := 42) ?_ (by omega) (by have := fine_mul (unitV_fine r) 10; exact this)
  rw [Nat.mul_right_comm, v1]
  show unitV r * B52 = unitV r * 1024 * 2 ^ 42
  rw [Nat.mul_assoc]
  rfl
/-- The whole part. -/
theorem toInt_word (neg : Bool) {r : Nat} (hr : r < 2047 * B52) : (double.read (double.word neg r)).toInt .zero = some (sV neg (unitV r / 2 ^ K74)) := by
  obtain ⟨m, i, e1, i0, v1, _⟩ := read_fin neg hr
  rw [e1]
  have h74 := K74_eq
  unfold Datum.toInt Datum.integral
  simp only
  rw [cut_zero, signed_eq, Nat.pow_zero, Nat.mul_one, Nat.shiftLeft_eq]
  congr 2
  by_cases hi : 0 ≤ i
  · have h1 : (-i).toNat = 0 := by omega
    have h2 : (i + 1074).toNat = i.toNat + K74 := by omega
    rw [h1, Nat.pow_zero, Nat.div_one, ← v1, h2, Nat.pow_add, ← Nat.mul_assoc, Nat.mul_div_cancel _ (Nat.two_pow_pos _)]
  · have h1 : i.toNat = 0 := by omega
    obtain ⟨k, hk⟩ : ∃ k : Nat, (i + 1074).toNat = k := ⟨_, rfl⟩
    have h2 : K74 = k + (-i).toNat := by omega
    rw [hk] at v1
    rw [h1, Nat.pow_zero, Nat.mul_one, ← v1]
    rw [show (2 : Nat) ^ K74 = 2 ^ k * 2 ^ (-i).toNat by rw [← Nat.pow_add, ← h2]]
    rw [← Nat.div_div_eq_div_mul, Nat.mul_div_cancel _ (Nat.two_pow_pos _)]
/-- A whole number as a float64. -/
theorem of_int {q : Nat} (h : q < 2 ^ 53) : floatOfInt .f64 (q : Int) = double.word false (min (rungOf (q * 2 ^ K74)) (2047 * B52)) := by
  unfold floatOfInt FloatKind.nearest FloatKind.encode
  show double.write (.number (decide ((q : Int) < 0)) (q : Int).natAbs 0) = _
  have h1 : decide ((q : Int) < 0) = false := decide_eq_false (by omega)
  rw [h1]
  show double.nearest false (q : Int).natAbs 0 = _
  rw [Int.natAbs_natCast]
  exact nearest_exact false (a := K74) (b := 0) (by rw [Nat.pow_zero, Nat.mul_one]) (by have := K74_eq; omega) (fine_small h K74)
/-- A number that has 1024 times as many units, by 1024. -/
theorem div_1024 (neg : Bool) {r N : Nat} (hr : r < 2047 * B52) (hN : unitV r = N * 2 ^ 10) (hf : fine N) : double.div (double.word neg r) 4652218415073722368 = some (double.word neg (min (rungOf N) (2047 * B52))) := by
  obtain ⟨m, i, e1, i0, v1, hm⟩ := read_fin neg hr
  unfold Format.div
  rw [e1, read1024]
  unfold Datum.quotient
  simp only
  rw [if_neg (show ¬ B52 = 0 by decide)]
  simp only [Option.map_some, Format.write]
  rw [show (neg ^^ false) = neg by cases neg <;> rfl, show double.fractionBits + 2 = 54 from rfl, show B52.log2 = 52 from log2_of (by decide) (by decide)]
  have hl : m.log2 ≤ 52 := by
    by_cases h0 : m = 0
    · subst h0; decide
    · have := (log2_lt h0 (k := 53)).2 (by have : (2 : Nat) ^ 53 = 2 * B52 := rfl; omega)
      omega
  obtain ⟨k, hk⟩ : ∃ k, 54 + 52 - m.log2 = 52 + k := ⟨54 + 52 - m.log2 - 52, by omega⟩
  rw [hk, Nat.shiftLeft_eq, show m * 2 ^ (52 + k) = B52 * (m * 2 ^ k) by rw [Nat.pow_add, ← B52_pow, ← Nat.mul_assoc, ← Nat.mul_assoc, Nat.mul_comm m]]
  rw [Nat.mul_div_cancel_left _ (by decide), Nat.mul_mod_right]
  have hb : ((0 : Nat) != 0).toNat = 0 := rfl
  rw [hb, Nat.add_zero]
  congr 1
  refine nearest_exact neg (a := (i + 1074).toNat) (b := k + 11) ?_ (by omega) hf
  rw [hN] at v1
  rw [show 2 * (m * 2 ^ k) * 2 ^ (i + 1074).toNat = m * 2 ^ (i + 1074).toNat * (2 * 2 ^ k) by rw [← Nat.mul_assoc, Nat.mul_right_comm _ (2 ^ k), Nat.mul_comm 2 m, Nat.mul_right_comm m 2, Nat.mul_assoc (m * _)]]
  rw [v1, Nat.mul_assoc, show (2 : Nat) ^ 10 * (2 * 2 ^ k) = 2 ^ (k + 11) by rw [Nat.pow_add, Nat.mul_comm (2 ^ k), ← Nat.mul_assoc]]
/-- Twice a number. -/
theorem add_self (neg : Bool) {r : Nat} (hr : r < 2047 * B52) : double.add (double.word neg r) (double.word neg r) = some (double.word neg (min (rungOf (unitV r * 2)) (2047 * B52))) := by
  obtain ⟨m, i, e1, i0, v1, hm⟩ := read_fin neg hr
  unfold Format.add
  rw [e1]
  unfold Datum.sum
  simp only [Option.map_some, Format.write]
  have hs : signed neg m (i - min i i).toNat + signed neg m (i - min i i).toNat = sV neg (m * 2) := by
    rw [signed_eq]
    have : (i - min i i).toNat = 0 := by omega
    rw [this, Nat.pow_zero, Nat.mul_one, sV_mul]
    omega
  rw [hs]
  have hneg : (if sV neg (m * 2) = 0 then neg && neg else decide (sV neg (m * 2) < 0)) = neg := by
    cases neg with
    | true =>
      have e : sV true (m * 2) = -((m * 2 : Nat) : Int) := rfl
      rw [e]
      by_cases h0 : m = 0
      · subst h0; rfl
      · rw [if_neg (by omega)]; exact decide_eq_true (by omega)
    | false =>
      have e : sV false (m * 2) = ((m * 2 : Nat) : Int) := rfl
      rw [e]
      by_cases h0 : m = 0
      · subst h0; rfl
      · rw [if_neg (by omega)]; exact decide_eq_false (by omega)
  have habs : (sV neg (m * 2)).natAbs = m * 2 := by
    cases neg with
    | true => show (-((m * 2 : Nat) : Int)).natAbs = m * 2; rw [Int.natAbs_neg, Int.natAbs_natCast]
    | false => exact Int.natAbs_natCast _
  rw [hneg, habs]
  congr 1
  refine nearest_exact neg (a := (i + 1074).toNat) (b := 0) ?_ (by omega) (by have := fine_mul (unitV_fine r) 1; exact this)
  rw [Nat.mul_right_comm, v1, Nat.pow_zero, Nat.mul_one]
end Go.Proofs.Ytcimgbjliamaiaa
