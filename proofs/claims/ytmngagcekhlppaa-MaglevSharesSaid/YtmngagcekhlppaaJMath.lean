/-
  Plain mathematics of stage 16: primes by trial, the next one, choices; a size's choices reach each place once. No program is walked here.
-/
import Derived.Test.YtmngagcekhlppaaHMath
namespace Go.Proofs.Ytmngagcekhlppaa
open Go.RowKit Go.Lib
/-- No divisor from d on, as far as its square reaches. -/
def tr (n : Nat) : Nat → Nat → Bool
  | 0, _ => true
  | f + 1, d => if n < d * d then true else if n % d = 0 then false else tr n f (d + 1)
def primeB (n : Nat) : Bool := decide (2 ≤ n) && tr n n 2
theorem tr_iff (n : Nat) : ∀ f d : Nat, tr n f d = true ↔ ∀ e, d ≤ e → e < d + f → e * e ≤ n → n % e ≠ 0
  | 0, d => by
    refine ⟨fun _ e h1 h2 _ => absurd h2 (by omega), fun _ => rfl⟩
  | f + 1, d => by
    unfold tr
    split
    · rename_i h
      refine ⟨fun _ e h1 _ h3 => ?_, fun _ => rfl⟩
      have := Nat.mul_le_mul h1 h1
      omega
    · split
      · rename_i h h0
        refine ⟨fun h => (by cases h), fun hh => ?_⟩
        exact absurd h0 (hh d (Nat.le_refl _) (by omega) (by omega))
      · rename_i h h0
        rw [tr_iff n f (d + 1)]
        constructor
        · intro hh e h1 h2 h3
          rcases Nat.eq_or_lt_of_le h1 with rfl | h4
          · exact h0
          · exact hh e h4 (by omega) h3
        · intro hh e h1 h2 h3
          exact hh e (by omega) (by omega) h3
/-- A prime is what has no divisor but 1 and itself. -/
theorem primeB_iff (n : Nat) : primeB n = true ↔ 2 ≤ n ∧ ∀ e, 2 ≤ e → e * e ≤ n → n % e ≠ 0 := by
  unfold primeB
  rw [Bool.and_eq_true, decide_eq_true_eq, tr_iff]
  constructor
  · rintro ⟨h1, h2⟩
    refine ⟨h1, fun e h3 h4 => h2 e h3 ?_ h4⟩
    have := Nat.mul_le_mul h3 (Nat.le_refl e)
    omega
  · rintro ⟨h1, h2⟩
    exact ⟨h1, fun e h3 _ h4 => h2 e h3 h4⟩
theorem primeB_no {n : Nat} (d : Nat) (h1 : 2 ≤ d) (h2 : d * d ≤ n) (h3 : n % d = 0) : primeB n = false := by
  apply Bool.eq_false_iff.2
  intro h
  exact ((primeB_iff n).1 h).2 d h1 h2 h3
/-- No product of two numbers above 1 is a prime. -/
theorem primeB_mul {a b : Nat} (ha : 2 ≤ a) (hb : 2 ≤ b) : primeB (a * b) = false := by
  rcases Nat.le_total a b with h | h
  · exact primeB_no a ha (Nat.mul_le_mul_left a h) (Nat.mul_mod_right a b)
  · exact primeB_no b hb (Nat.mul_le_mul_right b h) (Nat.mul_mod_left a b)
/-- What divides a prime is 1 or it. -/
theorem prime_dvd {p d : Nat} (hp : primeB p = true) (hd : d ∣ p) : d = 1 ∨ d = p := by
  obtain ⟨h2, hh⟩ := (primeB_iff p).1 hp
  obtain ⟨c, hc⟩ := hd
  have h0 : d ≠ 0 := by
    rintro rfl
    rw [Nat.zero_mul] at hc
    omega
  have c0 : c ≠ 0 := by
    rintro rfl
    rw [Nat.mul_zero] at hc
    omega
  rcases Nat.lt_or_ge d 2 with h | h
  · left; omega
  · rcases Nat.lt_or_ge c 2 with k | k
    · right
      obtain rfl : c = 1 := by omega
      rw [hc, Nat.mul_one]
    · exfalso
      rcases Nat.le_total d c with l | l
      · exact hh d h (by rw [hc]; exact Nat.mul_le_mul_left d l) (by rw [hc]; exact Nat.mul_mod_right d c)
      · exact hh c k (by rw [hc]; exact Nat.mul_le_mul_right c l) (by rw [hc]; exact Nat.mul_mod_left d c)
theorem prime_coprime {p s : Nat} (hp : primeB p = true) (h1 : 1 ≤ s) (h2 : s < p) : Nat.Coprime p s := by
  rcases prime_dvd hp (Nat.gcd_dvd_left p s) with h | h
  · exact h
  · exfalso
    have := Nat.le_of_dvd (by omega) (Nat.gcd_dvd_right p s)
    omega
theorem p_big : primeB 65537 = true := by decide +kernel
/-- The first prime from p on, among f numbers; 0, if there is none. -/
def nx : Nat → Nat → Nat
  | 0, _ => 0
  | f + 1, p => if primeB p = true then p else nx f (p + 1)
def lowN (z : Int) : Nat := if z < 2 then 2 else z.toNat
def nextN (z : Int) : Nat := nx (65538 - lowN z) (lowN z)
theorem nx_yes : ∀ (f p : Nat), nx f p ≠ 0 → primeB (nx f p) = true ∧ p ≤ nx f p ∧ nx f p < p + f ∧ ∀ i, p ≤ i → i < nx f p → primeB i = false
  | 0, _, h => absurd rfl h
  | f + 1, p, h => by
    unfold nx at h ⊢
    split
    · rename_i hp
      exact ⟨hp, Nat.le_refl _, by omega, fun i h1 h2 => absurd h2 (by omega)⟩
    · rename_i hp
      rw [if_neg hp] at h
      obtain ⟨h1, h2, h3, h4⟩ := nx_yes f (p + 1) h
      refine ⟨h1, by omega, by omega, fun i h5 h6 => ?_⟩
      rcases Nat.eq_or_lt_of_le h5 with rfl | h7
      · exact Bool.eq_false_iff.2 hp
      · exact h4 i h7 h6
theorem nx_some : ∀ (f p q : Nat), p ≤ q → q < p + f → 0 < q → primeB q = true → nx f p ≠ 0
  | 0, p, q, h1, h2, _, _ => absurd h2 (by omega)
  | f + 1, p, q, h1, h2, h3, h4 => by
    unfold nx
    split
    · rename_i hp
      have := ((primeB_iff p).1 hp).1
      omega
    · rename_i hp
      rcases Nat.eq_or_lt_of_le h1 with rfl | h5
      · exact absurd h4 hp
      · exact nx_some f (p + 1) q h5 (by omega) h3 h4
theorem nx_none : ∀ (f p : Nat), nx f p = 0 → 2 ≤ p → ∀ i, p ≤ i → i < p + f → primeB i = false
  | 0, _, _, _, i, h1, h2 => absurd h2 (by omega)
  | f + 1, p, h, hp, i, h1, h2 => by
    unfold nx at h
    split at h
    · omega
    · rename_i hq
      rcases Nat.eq_or_lt_of_le h1 with rfl | h3
      · exact Bool.eq_false_iff.2 hq
      · exact nx_none f (p + 1) h (by omega) i h3 (by omega)
/-- A size. -/
structure SizeN (p : Nat) : Prop where
  prime : primeB p = true
  most : p ≤ 65537
theorem SizeN.two {p : Nat} (h : SizeN p) : 2 ≤ p := ((primeB_iff p).1 h.prime).1
theorem lowN_two (z : Int) : 2 ≤ lowN z := by unfold lowN; split <;> omega
theorem nextN_size {z : Int} (h : z ≤ 65537) : SizeN (nextN z) ∧ z ≤ nextN z ∧ lowN z ≤ nextN z := by
  have hl : lowN z ≤ 65537 := by unfold lowN; split <;> omega
  have h2 := lowN_two z
  have hz : z ≤ lowN z := by unfold lowN; split <;> omega
  obtain ⟨h3, h4, h5, _⟩ := nx_yes _ _ (nx_some (65538 - lowN z) (lowN z) 65537 hl (by omega) (by decide) p_big)
  unfold nextN
  exact ⟨⟨h3, by omega⟩, by omega, h4⟩
theorem nextN_between {z : Int} (h : z ≤ 65537) (i : Nat) (h1 : z ≤ i) (h2 : i < nextN z) : primeB i = false := by
  have hl : lowN z ≤ 65537 := by unfold lowN; split <;> omega
  obtain ⟨_, _, _, h6⟩ := nx_yes _ _ (nx_some (65538 - lowN z) (lowN z) 65537 hl (by omega) (by decide) p_big)
  rcases Nat.lt_or_ge i (lowN z) with h3 | h3
  · unfold lowN at h3
    split at h3
    · apply Bool.eq_false_iff.2
      intro hp
      have := ((primeB_iff i).1 hp).1
      omega
    · omega
  · exact h6 i h3 h2
/-- A name's offset and skip; the i-th choice. -/
def offN (key name : List UInt8) (p : Nat) : Nat := hashW key (name ++ [0]) % p
def skN (key name : List UInt8) (p : Nat) : Nat := hashW key (name ++ [1]) % (p - 1) + 1
def chN (a b p i : Nat) : Nat := (a + i * b) % p
def allN (a b p : Nat) : List Nat := (List.range p).map (chN a b p)
theorem offN_lt {p : Nat} (h : SizeN p) (key name : List UInt8) : offN key name p < p := Nat.mod_lt _ (by have := h.two; omega)
theorem skN_lt {p : Nat} (h : SizeN p) (key name : List UInt8) : 1 ≤ skN key name p ∧ skN key name p < p := by
  have h2 := h.two
  have := Nat.mod_lt (hashW key (name ++ [1])) (show 0 < p - 1 by omega)
  unfold skN
  omega
theorem chN_lt {p : Nat} (h : 2 ≤ p) (a b i : Nat) : chN a b p i < p := Nat.mod_lt _ (by omega)
theorem chN_zero {a p : Nat} (h : a < p) (b : Nat) : chN a b p 0 = a := by
  unfold chN
  rw [Nat.zero_mul, Nat.add_zero, Nat.mod_eq_of_lt h]
theorem chN_succ {a b p : Nat} (h2 : 2 ≤ p) (hb : b < p) (i : Nat) : chN a b p (i + 1) = if chN a b p i + b < p then chN a b p i + b else chN a b p i + b - p := by
  have h1 := chN_lt h2 a b i
  have e : chN a b p (i + 1) = (chN a b p i + b) % p := by
    unfold chN
    rw [Nat.mod_add_mod, Nat.add_mul, Nat.one_mul, Nat.add_assoc]
  rw [e]
  split
  · rename_i h
    exact Nat.mod_eq_of_lt h
  · rename_i h
    rw [Nat.mod_eq_sub_mod (by omega), Nat.mod_eq_of_lt (by omega)]
theorem chN_size {a b p : Nat} (i : Nat) : chN a b p (i + p) = chN a b p i := by
  unfold chN
  rw [Nat.add_mul, ← Nat.add_assoc, Nat.mul_comm p b, Nat.add_mul_mod_self_right]
/-- Each place once. -/
theorem chN_inj {a b p i j : Nat} (hp : primeB p = true) (hb : 1 ≤ b) (hb2 : b < p) (hj : j < p) (hij : i < j) : chN a b p i ≠ chN a b p j := by
  intro h
  unfold chN at h
  have h1 : (a + i * b) % p = (a + i * b + (j - i) * b) % p := by
    rw [h]
    congr 1
    rw [Nat.add_assoc, ← Nat.add_mul, show i + (j - i) = j by omega]
  have h2 : (j - i) * b % p = 0 := by
    have h3 := (Nat.sub_mod_eq_zero_of_mod_eq h1.symm)
    rwa [Nat.add_sub_cancel_left] at h3
  have h3 : p ∣ (j - i) * b := Nat.dvd_of_mod_eq_zero h2
  have h4 : p ∣ (j - i) := (prime_coprime hp hb hb2).dvd_of_dvd_mul_right h3
  have := Nat.le_of_dvd (by omega) h4
  omega
theorem allN_len (a b p : Nat) : (allN a b p).length = p := by simp [allN]
theorem allN_get (a b : Nat) {p i : Nat} (h : i < p) : (allN a b p)[i]? = some (chN a b p i) := by simp [allN, h]
/-- Which places were reached by the first k. -/
def seenN (a b p k x : Nat) : Bool := (List.range k).any fun i => chN a b p i == x
def seenL (a b p k : Nat) : List Bool := (List.range p).map (seenN a b p k)
theorem seenL_len (a b p k : Nat) : (seenL a b p k).length = p := by simp [seenL]
theorem seenL_get (a b : Nat) {p x : Nat} (k : Nat) (h : x < p) : (seenL a b p k)[x]? = some (seenN a b p k x) := by simp [seenL, h]
theorem seenL_zero (a b p : Nat) : seenL a b p 0 = List.replicate p false := by
  apply List.ext_getElem?
  intro i
  by_cases h : i < p
  · rw [seenL_get a b 0 h, List.getElem?_replicate, if_pos h]; rfl
  · rw [List.getElem?_eq_none (by rw [seenL_len]; omega), List.getElem?_eq_none (by rw [List.length_replicate]; omega)]
theorem seenN_fresh {a b p k : Nat} (hp : primeB p = true) (hb : 1 ≤ b) (hb2 : b < p) (hk : k < p) : seenN a b p k (chN a b p k) = false := by
  apply Bool.eq_false_iff.2
  intro h
  unfold seenN at h
  obtain ⟨i, hi, he⟩ := List.any_eq_true.1 h
  exact chN_inj hp hb hb2 hk (List.mem_range.1 hi) (by simpa using he)
theorem seenL_set {a b p k : Nat} : (seenL a b p k).set (chN a b p k) true = seenL a b p (k + 1) := by
  apply List.ext_getElem?
  intro i
  by_cases h : i < p
  · rw [seenL_get a b (k + 1) h, List.getElem?_set, seenL_len, seenL_get a b k h]
    have e : seenN a b p (k + 1) i = (seenN a b p k i || chN a b p k == i) := by
      unfold seenN
      rw [List.range_succ, List.any_append]
      simp
    rw [e]
    by_cases hc : chN a b p k = i
    · rw [if_pos hc, if_pos (by rw [hc]; exact h), hc]; simp
    · rw [if_neg hc, show (chN a b p k == i) = false from beq_eq_false_iff_ne.2 hc, Bool.or_false]
  · rw [List.getElem?_eq_none (by rw [List.length_set, seenL_len]; omega), List.getElem?_eq_none (by rw [seenL_len]; omega)]
end Go.Proofs.Ytmngagcekhlppaa
