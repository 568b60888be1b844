/-
  Plain mathematics of stage 14: float64 numbers as whole numbers of their least unit, 2 to the power of -1074. No program is walked here.
  Plain mathematics of stage 14: what is exact in float64 (products and quotients by 1024, sums, whole parts), and how numbers stand to each other. No program is walked here.
  Plain mathematics of stage 14: words of float64 by sign and rung; which are weights, how many quanta they have; the same by the word's bits. No program is walked here.
  Plain mathematics of stage 14: the weight of so many quanta, and the number ahead of it; greater weights; twice a weight; the document's answer by bits. No program is walked here.
-/
import Derived.Laws.FloatArith
import Derived.Test.YtajmppaodhpmgaaRows
namespace Go.Proofs.Ytajmppaodhpmgaa
open Ieee

/-- So many rungs to a binade; so many units has a rung. -/
def B52 : Nat := 4503599627370496
theorem B52_pow : B52 = 2 ^ 52 := rfl
def unitV (r : Nat) : Nat := if r < B52 then r else (B52 + r % B52) * 2 ^ (r / B52 - 1)
/-- The rung of so many units (if it has one). -/
def rungOf (N : Nat) : Nat := (N.log2 - 52) * B52 + N / 2 ^ (N.log2 - 52)
/-- Has a number of so many units just one rung? -/
def fine (N : Nat) : Prop := 2 ^ (N.log2 - 52) ∣ N
theorem infR : double.infRung = 2047 * B52 := rfl
theorem binR : double.binade = B52 := rfl
theorem leastR : double.leastPlace = -1074 := rfl
theorem signR : double.signWeight = 2048 * B52 := rfl
theorem log2_lt {n k : Nat} (h : n ≠ 0) : n.log2 < k ↔ n < 2 ^ k := Nat.log2_lt h
theorem log2_of {n k : Nat} (h1 : 2 ^ k ≤ n) (h2 : n < 2 ^ (k + 1)) : n.log2 = k := by
  have h0 : n ≠ 0 := by have := Nat.two_pow_pos k; omega
  have a := (Nat.log2_lt h0 (k := k + 1)).2 h2
  have b : ¬ n.log2 < k := fun h => by have := (Nat.log2_lt h0).1 h; omega
  omega
theorem log2_bounds {n : Nat} (h : n ≠ 0) : 2 ^ n.log2 ≤ n ∧ n < 2 ^ (n.log2 + 1) := ⟨Nat.log2_self_le h, Nat.lt_log2_self⟩
theorem log2_mul {n : Nat} (h : n ≠ 0) (k : Nat) : (n * 2 ^ k).log2 = n.log2 + k := by
  obtain ⟨h1, h2⟩ := log2_bounds h
  refine log2_of ?_ ?_
  · rw [Nat.pow_add]; exact Nat.mul_le_mul_right _ h1
  · rw [show n.log2 + k + 1 = n.log2 + 1 + k by omega, Nat.pow_add]; exact Nat.mul_lt_mul_of_pos_right h2 (Nat.two_pow_pos k)
theorem unitV_low {r : Nat} (h : r < B52) : unitV r = r := if_pos h
theorem unitV_high {r : Nat} (h : B52 ≤ r) : unitV r = (B52 + r % B52) * 2 ^ (r / B52 - 1) := if_neg (by omega)
theorem unitV_log {r : Nat} (h : B52 ≤ r) : (unitV r).log2 = 52 + (r / B52 - 1) := by
  rw [unitV_high h, log2_mul (by have := B52_pow; unfold B52 at *; omega)]
  have : r % B52 < B52 := Nat.mod_lt _ (by decide)
  rw [log2_of (k := 52) (by rw [← B52_pow]; omega) (by rw [show (2 : Nat) ^ (52 + 1) = B52 + B52 from rfl]; omega)]
theorem unitV_pos {r : Nat} (h : r ≠ 0) : unitV r ≠ 0 := by
  by_cases hr : r < B52
  · rw [unitV_low hr]; exact h
  · rw [unitV_high (by omega)]
    have := Nat.two_pow_pos (r / B52 - 1)
    exact Nat.mul_ne_zero (by unfold B52; omega) (by omega)
theorem unitV_fine (r : Nat) : fine (unitV r) := by
  unfold fine
  by_cases hr : r < B52
  · rw [unitV_low hr]
    have : r.log2 - 52 = 0 := by
      by_cases h0 : r = 0
      · subst h0; rfl
      · have := (log2_lt h0 (k := 52)).2 (by rw [← B52_pow]; exact hr)
        omega
    rw [this]
    exact Nat.one_dvd _
  · rw [unitV_log (by omega), Nat.add_sub_cancel_left, unitV_high (by omega)]
    exact Nat.dvd_mul_left _ _
theorem rung_unit (r : Nat) : rungOf (unitV r) = r := by
  unfold rungOf
  by_cases hr : r < B52
  · rw [unitV_low hr]
    have : r.log2 - 52 = 0 := by
      by_cases h0 : r = 0
      · subst h0; rfl
      · have := (log2_lt h0 (k := 52)).2 (by rw [← B52_pow]; exact hr)
        omega
    rw [this]
    simp
  · have h2 : B52 ≤ r := by omega
    rw [unitV_log h2, Nat.add_sub_cancel_left, unitV_high h2, Nat.mul_div_cancel _ (Nat.two_pow_pos _)]
    have h1 : 1 ≤ r / B52 := (Nat.le_div_iff_mul_le (by decide)).2 (by omega)
    have hd := Nat.div_add_mod r B52
    obtain ⟨q, hq⟩ : ∃ q, r / B52 = q + 1 := ⟨r / B52 - 1, by omega⟩
    rw [hq] at hd ⊢
    rw [Nat.mul_add, Nat.mul_one] at hd
    rw [Nat.add_sub_cancel, Nat.mul_comm q]
    omega
theorem unit_rung {N : Nat} (h : fine N) : unitV (rungOf N) = N := by
  unfold fine at h
  by_cases h53 : N < 2 ^ 53
  · have h0 : N.log2 - 52 = 0 := by
      by_cases hz : N = 0
      · subst hz; rfl
      · have := (log2_lt hz (k := 53)).2 h53
        omega
    have hr : rungOf N = N := by unfold rungOf; rw [h0]; simp
    rw [hr]
    by_cases hl : N < B52
    · exact unitV_low hl
    · rw [unitV_high (by omega)]
      have hd : N / B52 = 1 := by
        refine Nat.div_eq_of_lt_le (by omega) ?_
        rw [show (1 + 1) * B52 = 2 ^ 53 from rfl]; exact h53
      have hm := Nat.div_add_mod N B52
      rw [hd] at hm ⊢
      simp
      omega
  · have hz : N ≠ 0 := by have := Nat.two_pow_pos 53; omega
    obtain ⟨b1, b2⟩ := log2_bounds hz
    have hL : 53 ≤ N.log2 := by
      by_cases hl : 53 ≤ N.log2
      · exact hl
      · exact absurd ((log2_lt hz (k := 53)).1 (by omega)) h53
    obtain ⟨t, ht⟩ : ∃ t, N.log2 = 52 + t := ⟨N.log2 - 52, by omega⟩
    rw [ht, Nat.add_sub_cancel_left] at h
    obtain ⟨c, hc⟩ := h
    rw [ht] at b1 b2
    have hc1 : B52 ≤ c := by
      rw [hc, show (2 : Nat) ^ (52 + t) = 2 ^ t * B52 by rw [Nat.pow_add, ← B52_pow, Nat.mul_comm]] at b1
      exact Nat.le_of_mul_le_mul_left b1 (Nat.two_pow_pos t)
    have hc2 : c < 2 * B52 := by
      rw [hc, show (2 : Nat) ^ (52 + t + 1) = 2 ^ t * (2 * B52) by rw [show 52 + t + 1 = t + 53 by omega, Nat.pow_add]; rfl] at b2
      exact Nat.lt_of_mul_lt_mul_left b2
    have hr : rungOf N = t * B52 + c := by
      unfold rungOf
      rw [ht, Nat.add_sub_cancel_left, hc, Nat.mul_div_cancel_left _ (Nat.two_pow_pos t)]
    have hdv : (t * B52 + c) / B52 = t + 1 := by
      rw [Nat.add_comm, Nat.add_mul_div_right _ _ (by decide)]
      have : c / B52 = 1 := Nat.div_eq_of_lt_le (by omega) (by omega)
      omega
    have hmd : (t * B52 + c) % B52 = c - B52 := by
      rw [Nat.add_comm, Nat.add_mul_mod_self_right, Nat.mod_eq_sub_mod hc1, Nat.mod_eq_of_lt (by omega)]
    rw [hr, unitV_high (by have := Nat.zero_le (t * B52); omega), hdv, hmd, Nat.add_sub_cancel, hc, show B52 + (c - B52) = c by omega, Nat.mul_comm]
/-- More rungs, more units. -/
theorem unitV_lt {r s : Nat} (h : r < s) : unitV r < unitV s := by
  by_cases hs : s < B52
  · rw [unitV_low hs, unitV_low (by omega)]; exact h
  · by_cases hr : r < B52
    · rw [unitV_low hr, unitV_high (by omega)]
      have h1 := Nat.two_pow_pos (s / B52 - 1)
      have h2 : B52 * 1 ≤ (B52 + s % B52) * 2 ^ (s / B52 - 1) := Nat.mul_le_mul (by omega) h1
      omega
    · rw [unitV_high (by omega), unitV_high (by omega)]
      have hdr := Nat.div_add_mod r B52
      have hds := Nat.div_add_mod s B52
      have hmr : r % B52 < B52 := Nat.mod_lt _ (by decide)
      have h1 : 1 ≤ r / B52 := (Nat.le_div_iff_mul_le (by decide)).2 (by omega)
      have hle : r / B52 ≤ s / B52 := Nat.div_le_div_right (by omega)
      by_cases he : r / B52 = s / B52
      · rw [he] at hdr ⊢
        exact Nat.mul_lt_mul_of_pos_right (by omega) (Nat.two_pow_pos _)
      · obtain ⟨k, hk⟩ : ∃ k, s / B52 - 1 = (r / B52 - 1) + 1 + k := ⟨s / B52 - 1 - (r / B52), by omega⟩
        rw [hk, Nat.pow_add, Nat.pow_add]
        have h3 : (B52 + r % B52) * 2 ^ (r / B52 - 1) < (2 * B52) * 2 ^ (r / B52 - 1) := Nat.mul_lt_mul_of_pos_right (by omega) (Nat.two_pow_pos _)
        have h4 : (2 * B52) * 2 ^ (r / B52 - 1) ≤ (B52 + s % B52) * (2 ^ (r / B52 - 1) * 2 ^ 1 * 2 ^ k) := by
          have hk1 := Nat.two_pow_pos k
          calc (2 * B52) * 2 ^ (r / B52 - 1) = B52 * (2 ^ (r / B52 - 1) * 2 * 1) := by rw [Nat.mul_one, Nat.mul_comm 2 B52, Nat.mul_assoc, Nat.mul_comm 2]
            _ ≤ (B52 + s % B52) * (2 ^ (r / B52 - 1) * 2 * 2 ^ k) := Nat.mul_le_mul (by omega) (Nat.mul_le_mul_left _ hk1)
        omega
theorem unitV_le {r s : Nat} (h : r ≤ s) : unitV r ≤ unitV s := by
  rcases Nat.lt_or_eq_of_le h with h | h
  · exact Nat.le_of_lt (unitV_lt h)
  · rw [h]; exact Nat.le_refl _
theorem unitV_lt_iff {r s : Nat} : unitV r < unitV s ↔ r < s := by
  refine ⟨fun h => ?_, unitV_lt⟩
  by_cases hr : r < s
  · exact hr
  · have := unitV_le (r := s) (s := r) (by omega)
    omega
/-- A rung of a finite number, read. -/
theorem read_fin (neg : Bool) {r : Nat} (h : r < 2047 * B52) : ∃ m i, double.read (double.word neg r) = .number neg m i ∧ (-1074 : Int) ≤ i ∧ m * 2 ^ (i + 1074).toNat = unitV r ∧ m < 2 * B52 := by
  have hs : double.word neg r / double.signWeight % 2 = (if neg then 1 else 0) ∧ double.word neg r % double.signWeight = r := by
    rw [signR]
    unfold Format.word
    cases neg with
    | true =>
      rw [if_pos rfl, signR]
      refine ⟨?_, ?_⟩
      · rw [Nat.add_div_left _ (by decide), Nat.div_eq_of_lt (by omega)]; rfl
      · rw [Nat.add_mod_left, Nat.mod_eq_of_lt (by omega)]
    | false =>
      rw [if_neg (by decide)]
      refine ⟨?_, Nat.mod_eq_of_lt (by omega)⟩
      rw [Nat.div_eq_of_lt (by omega)]; rfl
  unfold Format.read
  simp only
  rw [hs.1, hs.2, binR, infR, leastR]
  have hn : ((if neg = true then 1 else 0) == 1) = neg := by cases neg <;> rfl
  rw [hn]
  by_cases hr : r < B52
  · rw [if_pos hr]
    exact ⟨_, _, rfl, Int.le_refl _, by rw [unitV_low hr]; simp, by omega⟩
  · rw [if_neg hr, if_pos h]
    refine ⟨_, _, rfl, by omega, ?_, by have : r % B52 < B52 := Nat.mod_lt _ (by decide); omega⟩
    rw [unitV_high (by omega)]
    congr 2
    omega
theorem read_inf (neg : Bool) : double.read (double.word neg (2047 * B52)) = .infinity neg := by cases neg <;> decide
end Go.Proofs.Ytajmppaodhpmgaa
namespace Go.Proofs.Ytajmppaodhpmgaa
open Ieee

/-- 1074, as an exponent that nobody works out. -/
def K74 : Nat := 1074
theorem K74_eq : K74 = 1074 := rfl
attribute [irreducible] K74
theorem cut_exact (way : Toward) (neg : Bool) (c k : Nat) : way.cut neg (c * 2 ^ k) k = c := by
  by_cases hc : c = 0
  · subst hc
    unfold Toward.cut
    simp only [Nat.zero_mul, Nat.zero_div, Nat.zero_mod, Nat.mul_zero]
    cases way <;> simp
  · have hg : 1 <<< min k ((c * 2 ^ k).log2 + 2) = 2 ^ k := by
      rw [log2_mul hc, Nat.min_eq_left (by omega), Nat.one_shiftLeft]
    have hp := Nat.two_pow_pos k
    have hb : (2 ^ k == 0) = false := beq_eq_false_iff_ne.2 (by omega)
    unfold Toward.cut
    simp only [hg, Nat.mul_mod_left, Nat.mul_div_cancel _ hp, Nat.mul_zero]
    cases way <;> simp [hb]
theorem cut_zero (neg : Bool) (n k : Nat) : Toward.zero.cut neg n k = n / 2 ^ k := by
  unfold Toward.cut
  simp only [Bool.toNat_false, Nat.add_zero]
  rw [Nat.one_shiftLeft]
  by_cases hk : k ≤ n.log2 + 2
  · rw [Nat.min_eq_left hk]
  · rw [Nat.min_eq_right (by omega)]
    have h1 : n < 2 ^ (n.log2 + 2) := Nat.lt_trans Nat.lt_log2_self (Nat.pow_lt_pow_right (by decide) (by omega))
    have h2 : n < 2 ^ k := Nat.lt_trans h1 (Nat.pow_lt_pow_right (by decide) (by omega))
    rw [Nat.div_eq_of_lt h1, Nat.div_eq_of_lt h2]
/-- A number that has a rung is written as that; one too great as an infinity. -/
theorem nearest_exact (neg : Bool) {M : Nat} {p : Int} {N a b : Nat} (hv : M * 2 ^ a = N * 2 ^ b) (hp : p + 1074 = (a : Int) - (b : Int)) (hf : fine N) :
    double.nearest neg M p = double.word neg (min (rungOf N) (2047 * B52)) := by
  by_cases hM : M = 0
  · have hN : N = 0 := by
      rw [hM, Nat.zero_mul] at hv
      rcases Nat.mul_eq_zero.1 hv.symm with h | h
      · exact h
      · have := Nat.two_pow_pos b; omega
    subst hN
    unfold Format.nearest
    rw [if_pos hM]
    rfl
  · have hN : N ≠ 0 := fun h => by
      rw [h, Nat.zero_mul] at hv
      rcases Nat.mul_eq_zero.1 hv with h | h
      · exact hM h
      · have := Nat.two_pow_pos a; omega
    have hlog : M.log2 + a = N.log2 + b := by rw [← log2_mul hM, ← log2_mul hN, hv]
    unfold fine at hf
    obtain ⟨t, ht⟩ : ∃ t, N.log2 - 52 = t := ⟨_, rfl⟩
    rw [ht] at hf
    obtain ⟨c, hc⟩ := hf
    have hrung : rungOf N = t * B52 + c := by
      unfold rungOf
      rw [ht]
      congr 1
      rw [hc, Nat.mul_div_cancel_left _ (Nat.two_pow_pos t)]
    unfold Format.nearest
    rw [if_neg hM, leastR, binR, infR]
    have hfb : (double.fractionBits : Int) = 52 := rfl
    rw [hfb]
    have hlast : max (p + (M.log2 : Int) - 52) (-1074) = -1074 + (t : Int) := by omega
    simp only [hlast]
    have h1 : (-1074 + (t : Int) - -1074).toNat = t := by omega
    rw [h1, hrung]
    congr 3
    by_cases hk : b + t ≤ a
    · obtain ⟨k, hk'⟩ : ∃ k, a = b + t + k := ⟨a - b - t, by omega⟩
      have e1 : (p - (-1074 + (t : Int))).toNat = k := by omega
      have e2 : (-1074 + (t : Int) - p).toNat = 0 := by omega
      rw [e1, e2, Nat.shiftLeft_eq]
      have h0 := cut_exact .even neg (M * 2 ^ k) 0
      rw [Nat.pow_zero, Nat.mul_one] at h0
      rw [h0]
      have h2 : M * 2 ^ k * 2 ^ (b + t) = c * 2 ^ (b + t) := by
        rw [Nat.mul_assoc, ← Nat.pow_add, Nat.add_comm k, ← hk', hv, hc, Nat.pow_add, Nat.mul_comm (2 ^ t) c, Nat.mul_assoc, Nat.mul_comm (2 ^ t)]
      exact Nat.eq_of_mul_eq_mul_right (Nat.two_pow_pos _) h2
    · obtain ⟨k, hk'⟩ : ∃ k, b + t = a + k := ⟨b + t - a, by omega⟩
      have e1 : (p - (-1074 + (t : Int))).toNat = 0 := by omega
      have e2 : (-1074 + (t : Int) - p).toNat = k := by omega
      rw [e1, e2, Nat.shiftLeft_zero]
      have h2 : M * 2 ^ a = c * 2 ^ k * 2 ^ a := by
        rw [hv, hc, Nat.mul_comm (2 ^ t) c, Nat.mul_assoc, ← Nat.pow_add, Nat.add_comm t, hk', Nat.pow_add, Nat.mul_assoc, Nat.mul_comm (2 ^ a)]
      have h3 : M = c * 2 ^ k := Nat.eq_of_mul_eq_mul_right (Nat.two_pow_pos _) h2
      rw [h3]
      exact cut_exact .even neg c k
/-- Units with their sign. -/
def sV (neg : Bool) (V : Nat) : Int := if neg then -(V : Int) else (V : Int)
theorem signed_eq (neg : Bool) (m k : Nat) : signed neg m k = sV neg (m * 2 ^ k) := by unfold signed sV; rw [Nat.shiftLeft_eq]
theorem sV_mul (neg : Bool) (V k : Nat) : sV neg (V * k) = sV neg V * (k : Int) := by
  unfold sV
  cases neg <;> simp [Int.neg_mul]
theorem compare_scale (a b : Int) {c : Nat} (hc : 0 < c) : compare (a * (c : Int)) (b * (c : Int)) = compare a b := by
  have hc' : (0 : Int) < (c : Int) := by omega
  rcases Int.lt_trichotomy a b with h | h | h
  · rw [Int.compare_eq_lt.2 h, Int.compare_eq_lt.2 (Int.mul_lt_mul_of_pos_right h hc')]
  · subst h; rw [Int.compare_eq_eq.2 rfl, Int.compare_eq_eq.2 rfl]
  · rw [Int.compare_eq_gt.2 h, Int.compare_eq_gt.2 (Int.mul_lt_mul_of_pos_right h hc')]
/-- How finite numbers stand to each other. -/
theorem order_fin (s t : Bool) {r q : Nat} (hr : r < 2047 * B52) (hq : q < 2047 * B52) : double.order (double.word s r) (double.word t q) = some (compare (sV s (unitV r)) (sV t (unitV q))) := by
  obtain ⟨m, i, e1, i0, v1, _⟩ := read_fin s hr
  obtain ⟨n, j, e2, j0, v2, _⟩ := read_fin t hq
  unfold Format.order
  rw [e1, e2]
  unfold Datum.order
  simp only
  obtain ⟨b, hb⟩ : ∃ b, min i j = b := ⟨_, rfl⟩
  rw [hb]
  have hbi : b ≤ i ∧ b ≤ j ∧ -1074 ≤ b := by omega
  rw [signed_eq, signed_eq]
  obtain ⟨d, hd⟩ : ∃ d, (b + 1074).toNat = d := ⟨_, rfl⟩
  have hi : (i + 1074).toNat = (i - b).toNat + d := by omega
  have hj : (j + 1074).toNat = (j - b).toNat + d := by omega
  rw [hi, Nat.pow_add, ← Nat.mul_assoc] at v1
  rw [hj, Nat.pow_add, ← Nat.mul_assoc] at v2
  rw [← v1, ← v2, sV_mul s _ (2 ^ d), sV_mul t _ (2 ^ d), compare_scale _ _ (Nat.two_pow_pos d)]
/-- 1024, 1000 and 0 as words. -/
theorem w1024 : (4652218415073722368 : Nat) = double.word false (1033 * B52) := rfl
theorem w1000 : (4652007308841189376 : Nat) = double.word false 4652007308841189376 := rfl
theorem w0 : (0 : Nat) = double.word false 0 := rfl
theorem read1024 : double.read 4652218415073722368 = .number false B52 (-42) := by decide
theorem unit1000 : unitV 4652007308841189376 = 1000 * 2 ^ K74 := by rw [K74_eq]; decide +kernel
theorem fine_mul {N : Nat} (h : fine N) (k : Nat) : fine (N * 2 ^ k) := by
  by_cases h0 : N = 0
  · subst h0; unfold fine; rw [Nat.zero_mul]; exact Nat.dvd_zero _
  · unfold fine at h ⊢
    rw [log2_mul h0]
    by_cases h52 : 52 ≤ N.log2
    · rw [show N.log2 + k - 52 = N.log2 - 52 + k by omega, Nat.pow_add]
      exact Nat.mul_dvd_mul h (Nat.dvd_refl _)
    · exact Nat.dvd_trans (Nat.pow_dvd_pow 2 (by omega)) (Nat.dvd_mul_left _ _)
theorem fine_small {N : Nat} (h : N < 2 ^ 53) (k : Nat) : fine (N * 2 ^ k) := by
  refine fine_mul ?_ k
  unfold fine
  by_cases h0 : N = 0
  · subst h0; exact Nat.dvd_zero _
  · have := (log2_lt h0 (k := 53)).2 h
    rw [show N.log2 - 52 = 0 by omega]
    exact Nat.one_dvd _
/-- 1024 times a number. -/
theorem mul_1024 (neg : Bool) {r : Nat} (hr : r < 2047 * B52) : double.mul (double.word neg r) 4652218415073722368 = some (double.word neg (min (rungOf (unitV r * 1024)) (2047 * B52))) := by
  obtain ⟨m, i, e1, i0, v1, _⟩ := read_fin neg hr
  unfold Format.mul
  rw [e1, read1024]
  unfold Datum.product
  simp only [Option.map_some, Format.write]
  rw [show (neg ^^ false) = neg by cases neg <;> rfl]
  congr 1
  refine nearest_exact neg (a := (i + 1074).toNat) (b := 42) ?_ (by omega) (by have := fine_mul (unitV_fine r) 10; exact this)
  rw [Nat.mul_right_comm, v1]
  show unitV r * B52 = unitV r * 1024 * 2 ^ 42
  rw [Nat.mul_assoc]
  rfl
/-- The whole part. -/
theorem toInt_word (neg : Bool) {r : Nat} (hr : r < 2047 * B52) : (double.read (double.word neg r)).toInt .zero = some (sV neg (unitV r / 2 ^ K74)) := by
  obtain ⟨m, i, e1, i0, v1, _⟩ := read_fin neg hr
  rw [e1]
  have h74 := K74_eq
  unfold Datum.toInt Datum.integral
  simp only
  rw [cut_zero, signed_eq, Nat.pow_zero, Nat.mul_one, Nat.shiftLeft_eq]
  congr 2
  by_cases hi : 0 ≤ i
  · have h1 : (-i).toNat = 0 := by omega
    have h2 : (i + 1074).toNat = i.toNat + K74 := by omega
    rw [h1, Nat.pow_zero, Nat.div_one, ← v1, h2, Nat.pow_add, ← Nat.mul_assoc, Nat.mul_div_cancel _ (Nat.two_pow_pos _)]
  · have h1 : i.toNat = 0 := by omega
    obtain ⟨k, hk⟩ : ∃ k : Nat, (i + 1074).toNat = k := ⟨_, rfl⟩
    have h2 : K74 = k + (-i).toNat := by omega
    rw [hk] at v1
    rw [h1, Nat.pow_zero, Nat.mul_one, ← v1]
    rw [show (2 : Nat) ^ K74 = 2 ^ k * 2 ^ (-i).toNat by rw [← Nat.pow_add, ← h2]]
    rw [← Nat.div_div_eq_div_mul, Nat.mul_div_cancel _ (Nat.two_pow_pos _)]
/-- A whole number as a float64. -/
theorem of_int {q : Nat} (h : q < 2 ^ 53) : floatOfInt .f64 (q : Int) = double.word false (min (rungOf (q * 2 ^ K74)) (2047 * B52)) := by
  unfold floatOfInt FloatKind.nearest FloatKind.encode
  show double.write (.number (decide ((q : Int) < 0)) (q : Int).natAbs 0) = _
  have h1 : decide ((q : Int) < 0) = false := decide_eq_false (by omega)
  rw [h1]
  show double.nearest false (q : Int).natAbs 0 = _
  rw [Int.natAbs_natCast]
  exact nearest_exact false (a := K74) (b := 0) (by rw [Nat.pow_zero, Nat.mul_one]) (by have := K74_eq; omega) (fine_small h K74)
/-- A number that has 1024 times as many units, by 1024. -/
theorem div_1024 (neg : Bool) {r N : Nat} (hr : r < 2047 * B52) (hN : unitV r = N * 2 ^ 10) (hf : fine N) : double.div (double.word neg r) 4652218415073722368 = some (double.word neg (min (rungOf N) (2047 * B52))) := by
  obtain ⟨m, i, e1, i0, v1, hm⟩ := read_fin neg hr
  unfold Format.div
  rw [e1, read1024]
  unfold Datum.quotient
  simp only
  rw [if_neg (show ¬ B52 = 0 by decide)]
  simp only [Option.map_some, Format.write]
  rw [show (neg ^^ false) = neg by cases neg <;> rfl, show double.fractionBits + 2 = 54 from rfl, show B52.log2 = 52 from log2_of (by decide) (by decide)]
  have hl : m.log2 ≤ 52 := by
    by_cases h0 : m = 0
    · subst h0; decide
    · have := (log2_lt h0 (k := 53)).2 (by have : (2 : Nat) ^ 53 = 2 * B52 := rfl; omega)
      omega
  obtain ⟨k, hk⟩ : ∃ k, 54 + 52 - m.log2 = 52 + k := ⟨54 + 52 - m.log2 - 52, by omega⟩
  rw [hk, Nat.shiftLeft_eq, show m * 2 ^ (52 + k) = B52 * (m * 2 ^ k) by rw [Nat.pow_add, ← B52_pow, ← Nat.mul_assoc, ← Nat.mul_assoc, Nat.mul_comm m]]
  rw [Nat.mul_div_cancel_left _ (by decide), Nat.mul_mod_right]
  have hb : ((0 : Nat) != 0).toNat = 0 := rfl
  rw [hb, Nat.add_zero]
  congr 1
  refine nearest_exact neg (a := (i + 1074).toNat) (b := k + 11) ?_ (by omega) hf
  rw [hN] at v1
  rw [show 2 * (m * 2 ^ k) * 2 ^ (i + 1074).toNat = m * 2 ^ (i + 1074).toNat * (2 * 2 ^ k) by rw [← Nat.mul_assoc, Nat.mul_right_comm _ (2 ^ k), Nat.mul_comm 2 m, Nat.mul_right_comm m 2, Nat.mul_assoc (m * _)]]
  rw [v1, Nat.mul_assoc, show (2 : Nat) ^ 10 * (2 * 2 ^ k) = 2 ^ (k + 11) by rw [Nat.pow_add, Nat.mul_comm (2 ^ k), ← Nat.mul_assoc]]
/-- Twice a number. -/
theorem add_self (neg : Bool) {r : Nat} (hr : r < 2047 * B52) : double.add (double.word neg r) (double.word neg r) = some (double.word neg (min (rungOf (unitV r * 2)) (2047 * B52))) := by
  obtain ⟨m, i, e1, i0, v1, hm⟩ := read_fin neg hr
  unfold Format.add
  rw [e1]
  unfold Datum.sum
  simp only [Option.map_some, Format.write]
  have hs : signed neg m (i - min i i).toNat + signed neg m (i - min i i).toNat = sV neg (m * 2) := by
    rw [signed_eq]
    have : (i - min i i).toNat = 0 := by omega
    rw [this, Nat.pow_zero, Nat.mul_one, sV_mul]
    omega
  rw [hs]
  have hneg : (if sV neg (m * 2) = 0 then neg && neg else decide (sV neg (m * 2) < 0)) = neg := by
    cases neg with
    | true =>
      have e : sV true (m * 2) = -((m * 2 : Nat) : Int) := rfl
      rw [e]
      by_cases h0 : m = 0
      · subst h0; rfl
      · rw [if_neg (by omega)]; exact decide_eq_true (by omega)
    | false =>
      have e : sV false (m * 2) = ((m * 2 : Nat) : Int) := rfl
      rw [e]
      by_cases h0 : m = 0
      · subst h0; rfl
      · rw [if_neg (by omega)]; exact decide_eq_false (by omega)
  have habs : (sV neg (m * 2)).natAbs = m * 2 := by
    cases neg with
    | true => show (-((m * 2 : Nat) : Int)).natAbs = m * 2; rw [Int.natAbs_neg, Int.natAbs_natCast]
    | false => exact Int.natAbs_natCast _
  rw [hneg, habs]
  congr 1
  refine nearest_exact neg (a := (i + 1074).toNat) (b := 0) ?_ (by omega) (by have := fine_mul (unitV_fine r) 1; exact this)
  rw [Nat.mul_right_comm, v1, Nat.pow_zero, Nat.mul_one]
end Go.Proofs.Ytajmppaodhpmgaa
namespace Go.Proofs.Ytajmppaodhpmgaa
open Ieee

/-- The sign and the rung of a word. -/
def ngW (u : Nat) : Bool := decide (2048 * B52 ≤ u)
def rgW (u : Nat) : Nat := u % (2048 * B52)
def T64 : Nat := 4096 * B52
theorem T64_eq : T64 = 18446744073709551616 := rfl
theorem rg_lt (u : Nat) : rgW u < 2048 * B52 := Nat.mod_lt _ (by decide)
theorem word_of {u : Nat} (h : u < T64) : u = double.word (ngW u) (rgW u) := by
  unfold ngW rgW Format.word
  rw [signR]
  unfold T64 at h
  by_cases hn : 2048 * B52 ≤ u
  · rw [decide_eq_true hn, if_pos rfl, Nat.mod_eq_sub_mod hn, Nat.mod_eq_of_lt (by omega)]; omega
  · rw [decide_eq_false hn, if_neg (by decide), Nat.mod_eq_of_lt (by omega)]
theorem of_word (n : Bool) {r : Nat} (h : r < 2048 * B52) : ngW (double.word n r) = n ∧ rgW (double.word n r) = r ∧ double.word n r < T64 := by
  unfold ngW rgW Format.word T64
  rw [signR]
  cases n with
  | true =>
    rw [if_pos rfl]
    exact ⟨decide_eq_true (by omega), by rw [Nat.add_mod_left, Nat.mod_eq_of_lt h], by omega⟩
  | false =>
    rw [if_neg (by decide)]
    exact ⟨decide_eq_false (by omega), Nat.mod_eq_of_lt h, by omega⟩
/-- Is a word a NaN; is it finite? -/
def nanW (u : Nat) : Bool := decide (2047 * B52 < rgW u)
def finW (u : Nat) : Bool := decide (rgW u < 2047 * B52)
theorem read_nan (n : Bool) {r : Nat} (h : 2047 * B52 < r) (h2 : r < 2048 * B52) : double.read (double.word n r) = .nan n (r - 2047 * B52) := by
  have hs : double.word n r / double.signWeight % 2 = (if n then 1 else 0) ∧ double.word n r % double.signWeight = r := by
    rw [signR]
    unfold Format.word
    cases n with
    | true =>
      rw [if_pos rfl, signR]
      refine ⟨?_, ?_⟩
      · rw [Nat.add_div_left _ (by decide), Nat.div_eq_of_lt (by omega)]; rfl
      · rw [Nat.add_mod_left, Nat.mod_eq_of_lt (by omega)]
    | false =>
      rw [if_neg (by decide)]
      refine ⟨?_, Nat.mod_eq_of_lt (by omega)⟩
      rw [Nat.div_eq_of_lt (by omega)]; rfl
  unfold Format.read
  simp only
  rw [hs.1, hs.2, binR, infR]
  have hn : ((if n = true then 1 else 0) == 1) = n := by cases n <;> rfl
  rw [hn, if_neg (by omega), if_neg (by omega), if_neg (by omega)]
theorem order_nan {u : Nat} (h : u < T64) (hn : nanW u = true) (y : Nat) : double.order u y = none ∧ double.order y u = none := by
  have e := read_nan (ngW u) (of_decide_eq_true hn) (rg_lt u)
  rw [← word_of h] at e
  unfold Format.order
  rw [e]
  unfold Datum.order
  refine ⟨rfl, ?_⟩
  cases double.read y <;> rfl
theorem fin_or {u : Nat} (h : nanW u = false) : finW u = true ∨ rgW u = 2047 * B52 := by
  have := of_decide_eq_false h
  by_cases hf : rgW u < 2047 * B52
  · exact .inl (decide_eq_true hf)
  · exact .inr (by omega)
/-- Finite words stand as their units do. -/
theorem order_words {u v : Nat} (hu : u < T64) (hv : v < T64) (fu : finW u = true) (fv : finW v = true) : double.order u v = some (compare (sV (ngW u) (unitV (rgW u))) (sV (ngW v) (unitV (rgW v)))) := by
  have := order_fin (ngW u) (ngW v) (of_decide_eq_true fu) (of_decide_eq_true fv)
  rwa [← word_of hu, ← word_of hv] at this
theorem order_inf {u v : Nat} (hu : u < T64) (hv : v < T64) (iu : rgW u = 2047 * B52) (fv : finW v = true) : double.order u v = some (if ngW u then .lt else .gt) ∧ double.order v u = some (if ngW u then .gt else .lt) := by
  have e := read_inf (ngW u)
  rw [← iu, ← word_of hu] at e
  obtain ⟨m, i, e2, _⟩ := read_fin (ngW v) (of_decide_eq_true fv)
  rw [← word_of hv] at e2
  unfold Format.order
  rw [e, e2]
  exact ⟨rfl, rfl⟩
theorem order_self {u : Nat} (h : u < T64) (hn : nanW u = false) : double.order u u = some .eq := by
  rcases fin_or hn with hf | hi
  · rw [order_words h h hf hf, Int.compare_eq_eq.2 rfl]
  · have e := read_inf (ngW u)
    rw [← hi, ← word_of h] at e
    unfold Format.order
    rw [e]
    cases ngW u <;> rfl
/-- The program's comparisons. -/
def geC (c : Option Ordering) : Bool := c == some .gt || c == some .eq
def leC (c : Option Ordering) : Bool := c == some .lt || c == some .eq
theorem ge_some (a b : Int) : geC (some (compare a b)) = decide (b ≤ a) := by
  unfold geC
  rcases Int.lt_trichotomy a b with h | h | h
  · rw [Int.compare_eq_lt.2 h]; exact (decide_eq_false (by omega)).symm
  · rw [Int.compare_eq_eq.2 h]; exact (decide_eq_true (by omega)).symm
  · rw [Int.compare_eq_gt.2 h]; exact (decide_eq_true (by omega)).symm
theorem le_some (a b : Int) : leC (some (compare a b)) = decide (a ≤ b) := by
  unfold leC
  rcases Int.lt_trichotomy a b with h | h | h
  · rw [Int.compare_eq_lt.2 h]; exact (decide_eq_true (by omega)).symm
  · rw [Int.compare_eq_eq.2 h]; exact (decide_eq_true (by omega)).symm
  · rw [Int.compare_eq_gt.2 h]; exact (decide_eq_false (by omega)).symm
def W1000 : Nat := 4652007308841189376
theorem f0 : (0 : Nat) < T64 ∧ finW 0 = true ∧ ngW 0 = false ∧ rgW 0 = 0 := by decide
theorem f1000 : W1000 < T64 ∧ finW W1000 = true ∧ ngW W1000 = false ∧ rgW W1000 = W1000 := by decide
/-- Is a word a weight? How many quanta has it? -/
def wtW (u : Nat) : Bool := decide (rgW u = 0) || (!ngW u && decide (rgW u ≤ W1000))
def quW (u : Nat) : Nat := if wtW u = true then unitV (rgW u) / 2 ^ (K74 - 10) else 0
theorem wt_fin {u : Nat} (h : wtW u = true) : finW u = true ∧ nanW u = false ∧ rgW u ≤ W1000 := by
  have hr : rgW u ≤ W1000 := by
    unfold wtW at h
    simp only [Bool.or_eq_true, Bool.and_eq_true, decide_eq_true_eq] at h
    rcases h with h | h
    · omega
    · exact h.2
  have : W1000 < 2047 * B52 := by decide
  exact ⟨decide_eq_true (by omega), decide_eq_false (by omega), hr⟩
/-- Right, by two comparisons. -/
theorem right_cmp {u : Nat} (h : u < T64) : (geC (double.order u 0) && leC (double.order u W1000)) = wtW u := by
  cases hn : nanW u with
  | true =>
    rw [(order_nan h hn 0).1, (order_nan h hn W1000).1]
    have := of_decide_eq_true hn
    have h2 : W1000 < 2047 * B52 := by decide
    unfold wtW
    rw [decide_eq_false (by omega), decide_eq_false (by omega)]
    cases ngW u <;> rfl
  | false =>
    rcases fin_or hn with hf | hi
    · rw [order_words h f0.1 hf f0.2.1, order_words h f1000.1 hf f1000.2.1, ge_some, le_some, f0.2.2.1, f0.2.2.2, f1000.2.2.1, f1000.2.2.2]
      have hz : unitV 0 = 0 := unitV_low (by decide)
      rw [hz]
      unfold wtW
      have hle : ∀ r, decide (unitV r ≤ unitV W1000) = decide (r ≤ W1000) := fun r => by
        rw [decide_eq_decide]
        constructor
        · intro hh
          by_cases hr : r ≤ W1000
          · exact hr
          · have := unitV_lt (r := W1000) (s := r) (by omega); omega
        · exact fun hh => unitV_le hh
      cases ngW u with
      | false =>
        have e1 : decide (sV false 0 ≤ sV false (unitV (rgW u))) = true := decide_eq_true (by show (0 : Int) ≤ ((unitV (rgW u) : Nat) : Int); omega)
        have e2 : decide (sV false (unitV (rgW u)) ≤ sV false (unitV W1000)) = decide (unitV (rgW u) ≤ unitV W1000) := by
          rw [decide_eq_decide]; show ((unitV (rgW u) : Nat) : Int) ≤ ((unitV W1000 : Nat) : Int) ↔ _; omega
        rw [e1, e2, hle]
        by_cases h0 : rgW u = 0
        · rw [h0]; decide
        · rw [decide_eq_false h0]; rfl
      | true =>
        have e2 : decide (sV true (unitV (rgW u)) ≤ sV false (unitV W1000)) = true := decide_eq_true (by show -((unitV (rgW u) : Nat) : Int) ≤ ((unitV W1000 : Nat) : Int); omega)
        have e1 : decide (sV false 0 ≤ sV true (unitV (rgW u))) = decide (rgW u = 0) := by
          rw [decide_eq_decide]
          show (0 : Int) ≤ -((unitV (rgW u) : Nat) : Int) ↔ _
          constructor
          · intro hh
            by_cases h0 : rgW u = 0
            · exact h0
            · have := unitV_pos h0; omega
          · intro hh; rw [hh, hz]; omega
        rw [e1, e2]
        cases decide (rgW u = 0) <;> rfl
    · rw [(order_inf h f0.1 hi f0.2.1).1, (order_inf h f1000.1 hi f1000.2.1).1]
      unfold wtW
      have h2 : W1000 < 2047 * B52 := by decide
      have h3 : (0 : Nat) < 2047 * B52 := by decide
      rw [decide_eq_false (by omega), decide_eq_false (by omega)]
      cases ngW u <;> rfl
theorem unit_le {u : Nat} (h : wtW u = true) : unitV (rgW u) ≤ 1000 * 2 ^ K74 := by rw [← unit1000]; exact unitV_le (wt_fin h).2.2
theorem K74_split : (2 : Nat) ^ K74 = 2 ^ (K74 - 10) * 2 ^ 10 := by
  rw [← Nat.pow_add]
  congr 1
  have := K74_eq
  omega
theorem qu_le (u : Nat) : quW u ≤ 1024000 := by
  unfold quW
  split
  · rename_i h
    have := unit_le h
    rw [K74_split] at this
    refine Nat.le_of_lt_succ ((Nat.div_lt_iff_lt_mul (Nat.two_pow_pos _)).2 ?_)
    have hp := Nat.two_pow_pos (K74 - 10)
    generalize 2 ^ (K74 - 10) = Q at *
    omega
  · omega
/-- 1024 times a weight has a word; its whole part is the quanta. -/
theorem qu_mul {u : Nat} (h : u < T64) (hw : wtW u = true) : ∃ v, double.mul u 4652218415073722368 = some v ∧ (double.read v).toInt .zero = some ((quW u : Nat) : Int) := by
  obtain ⟨hf, _, hr⟩ := wt_fin hw
  have hf' := of_decide_eq_true hf
  have hm := mul_1024 (ngW u) hf'
  rw [← word_of h] at hm
  have hfin := fine_mul (unitV_fine (rgW u)) 10
  have hfin' : fine (unitV (rgW u) * 1024) := hfin
  -- 1024000 is finite
  have hlt : rungOf (unitV (rgW u) * 1024) < 2047 * B52 := by
    have h1 : unitV (rungOf (unitV (rgW u) * 1024)) < unitV (2046 * B52) := by
      rw [unit_rung hfin']
      have h2 : unitV (rgW u) * 1024 ≤ unitV W1000 * 1024 := Nat.mul_le_mul_right _ (unitV_le hr)
      exact Nat.lt_of_le_of_lt h2 (by decide +kernel)
    have := unitV_lt_iff.1 h1
    have h3 : 2046 * B52 < 2047 * B52 := by decide
    omega
  rw [Nat.min_eq_left (by omega)] at hm
  refine ⟨_, hm, ?_⟩
  rw [toInt_word (ngW u) hlt, unit_rung hfin']
  congr 1
  have e : unitV (rgW u) * 1024 / 2 ^ K74 = quW u := by
    unfold quW
    rw [if_pos hw, K74_split, show (1024 : Nat) = 2 ^ 10 from rfl, Nat.mul_div_mul_right _ _ (by decide)]
  rw [e]
  by_cases h0 : rgW u = 0
  · have : quW u = 0 := by unfold quW; rw [if_pos hw, h0, unitV_low (by decide), Nat.zero_div]
    rw [this]
    cases ngW u <;> rfl
  · have : ngW u = false := by
      unfold wtW at hw
      rw [decide_eq_false h0] at hw
      cases hn : ngW u
      · rfl
      · rw [hn] at hw; cases hw
    rw [this]
    rfl
end Go.Proofs.Ytajmppaodhpmgaa
namespace Go.Proofs.Ytajmppaodhpmgaa
open Ieee

/-- The word of the weight of so many quanta. -/
def ofW (q : Nat) : Nat := rungOf (q * 2 ^ (K74 - 10))
theorem w_pos (r : Nat) : double.word false r = r := rfl
theorem of_fine {q : Nat} (h : q < 2 ^ 53) : fine (q * 2 ^ (K74 - 10)) := fine_small h _
theorem of_units {q : Nat} (h : q < 2 ^ 53) : unitV (ofW q) = q * 2 ^ (K74 - 10) := unit_rung (of_fine h)
theorem of_le {q : Nat} (h : q ≤ 1024000) : ofW q ≤ W1000 := by
  have h53 : q < 2 ^ 53 := Nat.lt_of_le_of_lt h (by decide)
  by_cases hh : ofW q ≤ W1000
  · exact hh
  · have h1 := unitV_lt (r := W1000) (s := ofW q) (by omega)
    rw [of_units h53] at h1
    have h2 : unitV W1000 = 1000 * 2 ^ K74 := unit1000
    rw [h2, K74_split] at h1
    have h3 : q * 2 ^ (K74 - 10) ≤ 1024000 * 2 ^ (K74 - 10) := Nat.mul_le_mul_right _ h
    generalize 2 ^ (K74 - 10) = Q at *
    omega
theorem of_word_ {q : Nat} (h : q ≤ 1024000) : ofW q < T64 ∧ ngW (ofW q) = false ∧ rgW (ofW q) = ofW q := by
  have h1 := of_le h
  have h2 : W1000 < 2047 * B52 := by decide
  have := of_word false (r := ofW q) (by omega)
  rw [w_pos] at this
  exact ⟨this.2.2, this.1, this.2.1⟩
theorem of_right {q : Nat} (h : q ≤ 1024000) : wtW (ofW q) = true := by
  obtain ⟨_, h2, h3⟩ := of_word_ h
  unfold wtW
  rw [h2, h3, decide_eq_true (of_le h)]
  cases decide (ofW q = 0) <;> rfl
theorem of_quanta {q : Nat} (h : q ≤ 1024000) : quW (ofW q) = q := by
  unfold quW
  rw [if_pos (of_right h), (of_word_ h).2.2, of_units (Nat.lt_of_le_of_lt h (by decide)), Nat.mul_div_cancel _ (Nat.two_pow_pos _)]
/-- A whole number by 1024. -/
theorem of_div {q : Nat} (h : q ≤ 1024000) : double.div (floatOfInt .f64 (q : Int)) 4652218415073722368 = some (ofW q) := by
  have h53 : q < 2 ^ 53 := Nat.lt_of_le_of_lt h (by decide)
  rw [of_int h53]
  have hf : fine (q * 2 ^ K74) := fine_small h53 _
  have hu := unit_rung hf
  have hlt : rungOf (q * 2 ^ K74) < 2047 * B52 := by
    have h1 : unitV (rungOf (q * 2 ^ K74)) < unitV (2046 * B52) := by
      rw [hu]
      refine Nat.lt_of_le_of_lt (Nat.mul_le_mul_right _ h) ?_
      rw [K74_eq]
      decide +kernel
    have := unitV_lt_iff.1 h1
    have h3 : 2046 * B52 < 2047 * B52 := by decide
    omega
  rw [Nat.min_eq_left (by omega)]
  rw [div_1024 false hlt (N := q * 2 ^ (K74 - 10)) (by rw [hu, K74_split, Nat.mul_assoc]) (of_fine h53)]
  have h2 : W1000 < 2047 * B52 := by decide
  have := of_le h
  unfold ofW at this
  rw [Nat.min_eq_left (by omega), w_pos]
  rfl
theorem of_zero : ofW 0 = 0 := by unfold ofW; rw [Nat.zero_mul]; rfl
theorem of_pos {q : Nat} (h : q ≤ 1024000) (h0 : q ≠ 0) : ofW q ≠ 0 := fun e => by
  have := of_quanta h
  rw [e] at this
  have h1 : quW 0 = 0 := by decide +kernel
  omega
/-- The number ahead of it has one quantum less. -/
theorem of_pred {q : Nat} (h : q ≤ 1024000) (h0 : q ≠ 0) : wtW (ofW q - 1) = true ∧ quW (ofW q - 1) = q - 1 := by
  have h53 : q < 2 ^ 53 := Nat.lt_of_le_of_lt h (by decide)
  have hp := of_pos h h0
  have hl := of_le h
  have h2 : W1000 < 2047 * B52 := by decide
  have hw := of_word false (r := ofW q - 1) (by omega)
  rw [w_pos] at hw
  have hr : wtW (ofW q - 1) = true := by
    unfold wtW
    rw [hw.1, hw.2.1, decide_eq_true (show ofW q - 1 ≤ W1000 by omega)]
    cases decide (ofW q - 1 = 0) <;> rfl
  refine ⟨hr, ?_⟩
  unfold quW
  rw [if_pos hr, hw.2.1]
  have h1 : unitV (ofW q - 1) < q * 2 ^ (K74 - 10) := by rw [← of_units h53]; exact unitV_lt (by omega)
  have h3 : (q - 1) * 2 ^ (K74 - 10) ≤ unitV (ofW q - 1) := by
    rw [← of_units (q := q - 1) (by omega)]
    refine unitV_le ?_
    have : ofW (q - 1) < ofW q := unitV_lt_iff.1 (by rw [of_units h53, of_units (by omega)]; exact Nat.mul_lt_mul_of_pos_right (by omega) (Nat.two_pow_pos _))
    omega
  refine Nat.div_eq_of_lt_le h3 ?_
  rw [Nat.sub_add_cancel (by omega)]
  exact h1
/-- Weights are no less than nought, and stand as their units do. -/
theorem wt_sV {u : Nat} (h : wtW u = true) : sV (ngW u) (unitV (rgW u)) = ((unitV (rgW u) : Nat) : Int) := by
  unfold wtW at h
  by_cases h0 : rgW u = 0
  · rw [h0, show unitV 0 = 0 from unitV_low (by decide)]
    cases ngW u <;> rfl
  · rw [decide_eq_false h0] at h
    cases hn : ngW u
    · rfl
    · rw [hn] at h; cases h
theorem wt_order {u v : Nat} (hu : u < T64) (hv : v < T64) (wu : wtW u = true) (wv : wtW v = true) : leC (double.order u v) = decide (unitV (rgW u) ≤ unitV (rgW v)) := by
  rw [order_words hu hv (wt_fin wu).1 (wt_fin wv).1, le_some, wt_sV wu, wt_sV wv, decide_eq_decide]
  omega
theorem wt_mono {u v : Nat} (hu : u < T64) (hv : v < T64) (wu : wtW u = true) (wv : wtW v = true) (h : leC (double.order u v) = true) : quW u ≤ quW v := by
  rw [wt_order hu hv wu wv] at h
  unfold quW
  rw [if_pos wu, if_pos wv]
  exact Nat.div_le_div_right (of_decide_eq_true h)
/-- What stands between two weights is one. -/
theorem wt_between {u v z : Nat} (hu : u < T64) (hv : v < T64) (hz : z < T64) (wu : wtW u = true) (wv : wtW v = true) (h1 : leC (double.order u z) = true) (h2 : leC (double.order z v) = true) : wtW z = true := by
  cases hn : nanW z with
  | true => rw [(order_nan hz hn u).2] at h1; cases h1
  | false =>
    rcases fin_or hn with hf | hi
    · rw [order_words hu hz (wt_fin wu).1 hf, le_some, wt_sV wu] at h1
      rw [order_words hz hv hf (wt_fin wv).1, le_some, wt_sV wv] at h2
      have a1 := of_decide_eq_true h1
      have a2 := of_decide_eq_true h2
      unfold wtW
      by_cases h0 : rgW z = 0
      · rw [decide_eq_true h0]; rfl
      · have hp := unitV_pos h0
        cases hg : ngW z with
        | true =>
          rw [hg] at a1
          have a1' : ((unitV (rgW u) : Nat) : Int) ≤ -((unitV (rgW z) : Nat) : Int) := a1
          omega
        | false =>
          rw [hg] at a2
          have a2' : ((unitV (rgW z) : Nat) : Int) ≤ ((unitV (rgW v) : Nat) : Int) := a2
          have hvr := (wt_fin wv).2.2
          have hle : rgW z ≤ W1000 := by
            by_cases hh : rgW z ≤ W1000
            · exact hh
            · have := unitV_lt (r := rgW v) (s := rgW z) (by omega)
              omega
          rw [decide_eq_true hle]
          cases decide (rgW z = 0) <;> rfl
    · rw [(order_inf hz hu hi (wt_fin wu).1).2] at h1
      rw [(order_inf hz hv hi (wt_fin wv).1).1] at h2
      cases hg : ngW z
      · rw [hg] at h2; exact absurd h2 (by decide)
      · rw [hg] at h1; exact absurd h1 (by decide)
/-- Twice a weight. -/
theorem wt_twice {u : Nat} (hu : u < T64) (wu : wtW u = true) : ∃ v, double.add u u = some v ∧ v < T64 ∧ leC (double.order v W1000) = wtW v ∧ (wtW v = true → quW v = 2 * quW u ∨ quW v = 2 * quW u + 1) := by
  obtain ⟨hf, _, hr⟩ := wt_fin wu
  have ha := add_self (ngW u) (of_decide_eq_true hf)
  rw [← word_of hu] at ha
  have hfin : fine (unitV (rgW u) * 2) := fine_mul (unitV_fine (rgW u)) 1
  have hlt : rungOf (unitV (rgW u) * 2) < 2047 * B52 := by
    have h1 : unitV (rungOf (unitV (rgW u) * 2)) < unitV (2046 * B52) := by
      rw [unit_rung hfin]
      have h2 : unitV (rgW u) * 2 ≤ unitV W1000 * 2 := Nat.mul_le_mul_right _ (unitV_le hr)
      exact Nat.lt_of_le_of_lt h2 (by decide +kernel)
    have := unitV_lt_iff.1 h1
    have h3 : 2046 * B52 < 2047 * B52 := by decide
    omega
  rw [Nat.min_eq_left (by omega)] at ha
  obtain ⟨o1, o2, o3⟩ := of_word (ngW u) (r := rungOf (unitV (rgW u) * 2)) (by omega)
  refine ⟨_, ha, o3, ?_, fun hv => ?_⟩
  · have hge : geC (double.order (double.word (ngW u) (rungOf (unitV (rgW u) * 2))) 0) = true := by
      rw [order_words o3 f0.1 (by unfold finW; rw [o2]; exact decide_eq_true hlt) f0.2.1, ge_some, o1, o2, f0.2.2.1, f0.2.2.2, unit_rung hfin, show unitV 0 = 0 from unitV_low (by decide), sV_mul, wt_sV wu]
      exact decide_eq_true (by show (0 : Int) ≤ _; omega)
    have := right_cmp o3
    rw [hge, Bool.true_and] at this
    exact this
  · unfold quW
    rw [if_pos hv, if_pos wu, o2, unit_rung hfin]
    have hp := Nat.two_pow_pos (K74 - 10)
    generalize 2 ^ (K74 - 10) = Q at *
    generalize unitV (rgW u) = V at *
    have h1 := Nat.div_add_mod V Q
    have h2 := Nat.mod_lt V hp
    by_cases h3 : V % Q * 2 < Q
    · left
      refine Nat.div_eq_of_lt_le ?_ ?_
      · rw [Nat.mul_comm (2 * _), Nat.mul_comm 2, ← Nat.mul_assoc]; omega
      · rw [Nat.add_mul, Nat.one_mul, Nat.mul_comm (2 * _), Nat.mul_comm 2, ← Nat.mul_assoc]; omega
    · right
      refine Nat.div_eq_of_lt_le ?_ ?_
      · rw [Nat.add_mul, Nat.one_mul, Nat.mul_comm (2 * _), Nat.mul_comm 2, ← Nat.mul_assoc]; omega
      · rw [Nat.add_mul, Nat.add_mul, Nat.one_mul, Nat.mul_comm (2 * _), Nat.mul_comm 2, ← Nat.mul_assoc]; omega
/-- The document's answer, by exponent and fraction. -/
def exW (u : Nat) : Nat := rgW u / B52
def frW (u : Nat) : Nat := rgW u % B52
def maW (u : Nat) : Nat := if exW u = 0 then frW u else frW u + B52
def loW (u : Nat) : Nat := if exW u = 0 then 1074 else 1075 - exW u
theorem ex_lt (u : Nat) : exW u < 2048 := (Nat.div_lt_iff_lt_mul (by decide)).2 (rg_lt u)
theorem fr_lt (u : Nat) : frW u < B52 := Nat.mod_lt _ (by decide)
theorem ex_fr (u : Nat) : rgW u = exW u * B52 + frW u := by unfold exW frW; rw [Nat.mul_comm]; exact (Nat.div_add_mod _ _).symm
theorem ma_lt (u : Nat) : maW u < 2 ^ 53 := by
  have := fr_lt u
  have h : (2 : Nat) ^ 53 = 2 * B52 := rfl
  unfold maW
  split <;> omega
theorem ma_units {u : Nat} (h : exW u ≤ 1074) : unitV (rgW u) * 2 ^ loW u = maW u * 2 ^ K74 := by
  have h74 := K74_eq
  have hd := ex_fr u
  have hfr := fr_lt u
  by_cases h0 : exW u = 0
  · have hr : rgW u = frW u := by rw [hd, h0]; omega
    unfold loW maW
    rw [if_pos h0, if_pos h0, hr, unitV_low hfr, ← h74]
  · unfold loW maW
    rw [if_neg h0, if_neg h0]
    have hb : B52 ≤ rgW u := by
      have : 1 * B52 ≤ exW u * B52 := Nat.mul_le_mul_right _ (by omega)
      omega
    rw [unitV_high hb]
    show (B52 + frW u) * 2 ^ (exW u - 1) * 2 ^ (1075 - exW u) = _
    rw [Nat.mul_assoc, ← Nat.pow_add, show exW u - 1 + (1075 - exW u) = K74 by omega, Nat.add_comm]
theorem ref_high {u : Nat} (h : 1033 ≤ exW u) : wtW u = false := by
  have hd := ex_fr u
  have h1 : 1033 * B52 ≤ exW u * B52 := Nat.mul_le_mul_right _ h
  have h2 : W1000 < 1033 * B52 := by decide
  have h3 : 0 < B52 := by decide
  unfold wtW
  rw [decide_eq_false (by omega), decide_eq_false (by omega)]
  cases ngW u <;> rfl
theorem ref_zero {u : Nat} (h1 : exW u = 0) (h2 : frW u = 0) : wtW u = true ∧ quW u = 0 := by
  have hr : rgW u = 0 := by rw [ex_fr u, h1, h2]; rfl
  have hw : wtW u = true := by unfold wtW; rw [hr]; rfl
  refine ⟨hw, ?_⟩
  unfold quW
  rw [if_pos hw, hr, unitV_low (by decide), Nat.zero_div]
theorem ref_neg {u : Nat} (h : ¬ (exW u = 0 ∧ frW u = 0)) (hn : ngW u = true) : wtW u = false := by
  have hr : rgW u ≠ 0 := fun e => by
    apply h
    unfold exW frW
    rw [e]
    exact ⟨rfl, rfl⟩
  unfold wtW
  rw [decide_eq_false hr, hn]
  rfl
theorem ref_le {u : Nat} (h : exW u ≤ 1032) : (rgW u ≤ W1000) ↔ maW u ≤ 1000 * 2 ^ loW u := by
  have e := ma_units (u := u) (by omega)
  have hu : unitV W1000 = 1000 * 2 ^ K74 := unit1000
  have h1 : rgW u ≤ W1000 ↔ unitV (rgW u) ≤ unitV W1000 := by
    constructor
    · exact fun hh => unitV_le hh
    · intro hh
      by_cases hr : rgW u ≤ W1000
      · exact hr
      · have := unitV_lt (r := W1000) (s := rgW u) (by omega); omega
  rw [h1, hu]
  have p1 := Nat.two_pow_pos (loW u)
  have p2 := Nat.two_pow_pos K74
  constructor
  · intro hh
    have h2 : maW u * 2 ^ K74 ≤ 1000 * 2 ^ loW u * 2 ^ K74 := by rw [← e, Nat.mul_right_comm]; exact Nat.mul_le_mul_right _ hh
    exact Nat.le_of_mul_le_mul_right h2 p2
  · intro hh
    have h2 : unitV (rgW u) * 2 ^ loW u ≤ 1000 * 2 ^ K74 * 2 ^ loW u := by rw [e, Nat.mul_right_comm 1000]; exact Nat.mul_le_mul_right _ hh
    exact Nat.le_of_mul_le_mul_right h2 p1
theorem ref_wt {u : Nat} (h : exW u ≤ 1032) (hn : ngW u = false) : wtW u = decide (maW u ≤ 1000 * 2 ^ loW u) := by
  unfold wtW
  rw [hn]
  have := ref_le h
  have h2 : decide (rgW u ≤ W1000) = decide (maW u ≤ 1000 * 2 ^ loW u) := decide_eq_decide.2 this
  rw [← h2]
  by_cases h0 : rgW u = 0
  · rw [h0]; rfl
  · rw [decide_eq_false h0]; rfl
/-- How the document asks it. -/
theorem ref_ask (M l : Nat) : M ≤ 1000 * 2 ^ l ↔ ¬ (1000 < M / 2 ^ l ∨ M / 2 ^ l = 1000 ∧ M % 2 ^ l ≠ 0) := by
  have hp := Nat.two_pow_pos l
  have h1 := Nat.div_add_mod M (2 ^ l)
  have h2 := Nat.mod_lt M hp
  generalize 2 ^ l = Q at *
  generalize hq : M / Q = q at *
  generalize M % Q = r at *
  constructor
  · intro h hh
    rcases hh with hh | ⟨hh, h3⟩
    · have : Q * 1001 ≤ Q * q := Nat.mul_le_mul_left _ hh
      omega
    · subst hh; omega
  · intro h
    by_cases hh : 1000 < q
    · exact absurd (.inl hh) h
    · by_cases h3 : q = 1000
      · subst h3
        by_cases h4 : r = 0
        · omega
        · exact absurd (.inr ⟨rfl, h4⟩) h
      · have : Q * q ≤ Q * 999 := Nat.mul_le_mul_left _ (by omega)
        omega
theorem ref_low {u : Nat} (h : 63 ≤ loW u) : maW u ≤ 1000 * 2 ^ loW u := by
  have h1 := ma_lt u
  have h2 : (2 : Nat) ^ 53 ≤ 2 ^ loW u := Nat.pow_le_pow_right (by decide) (by omega)
  omega
theorem ref_qu {u : Nat} (h : exW u ≤ 1032) (hw : wtW u = true) : quW u = maW u / 2 ^ (loW u - 10) := by
  have e := ma_units (u := u) (by omega)
  have h74 := K74_eq
  have hlo : 10 ≤ loW u := by unfold loW; split <;> omega
  obtain ⟨k, hk⟩ : ∃ k, loW u = k + 10 := ⟨loW u - 10, by omega⟩
  unfold quW
  rw [if_pos hw, hk, Nat.add_sub_cancel]
  rw [hk, K74_split, Nat.pow_add, ← Nat.mul_assoc, ← Nat.mul_assoc] at e
  have e2 : unitV (rgW u) * 2 ^ k = maW u * 2 ^ (K74 - 10) := Nat.eq_of_mul_eq_mul_right (by decide) e
  rw [← Nat.mul_div_mul_right _ _ (Nat.two_pow_pos k), e2, Nat.mul_comm (2 ^ (K74 - 10)), Nat.mul_div_mul_right _ _ (Nat.two_pow_pos _)]
theorem ref_small {u : Nat} (h : exW u ≤ 1032) (hw : wtW u = true) (hl : 70 < loW u) : quW u = 0 := by
  rw [ref_qu h hw]
  have h1 := ma_lt u
  have h2 : (2 : Nat) ^ 53 ≤ 2 ^ (loW u - 10) := Nat.pow_le_pow_right (by decide) (by omega)
  exact Nat.div_eq_of_lt (by omega)
/-- The bits of a number, of each NaN the same. -/
def canW (u : Nat) : Nat := if nanW u = true then 9221120237041090560 else u
theorem can_lt {u : Nat} (h : u < T64) : canW u < T64 := by
  unfold canW
  split
  · decide
  · exact h
theorem can_can (u : Nat) : canW (canW u) = canW u := by
  by_cases h : nanW u = true
  · have e : canW u = 9221120237041090560 := if_pos h
    rw [e]
    decide
  · have e : canW u = u := if_neg h
    rw [e, e]
end Go.Proofs.Ytajmppaodhpmgaa
