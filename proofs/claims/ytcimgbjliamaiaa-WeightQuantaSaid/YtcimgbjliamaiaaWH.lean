/-
  Plain mathematics of stage 14: words of float64 by sign and rung; which are weights, how many quanta they have; the same by the word's bits. No program is walked here.
-/
import Derived.Test.YtcimgbjliamaiaaWG
namespace Go.Proofs.Ytcimgbjliamaiaa
open Ieee

/-- The sign and the rung of a word. -/
def ngW (u : Nat) : Bool := decide (2048 * B52 ≤ u)
def rgW (u : Nat) : Nat := u % (2048 * B52)
def T64 : Nat := 4096 * B52
theorem T64_eq : T64 = 18446744073709551616 := rfl
theorem rg_lt (u : Nat) : rgW u < 2048 * B52 := Nat.mod_lt _ (by decide)
theorem word_of {u : Nat} (h : u < T64) : u = double.word (ngW u) (rgW u) := by
  unfold ngW rgW Format.word
  rw [signR]
  unfold T64 at h
  by_cases hn : 2048 * B52 ≤ u
  · rw [decide_eq_true hn, if_pos rfl, Nat.mod_eq_sub_mod hn, Nat.mod_eq_of_lt (by omega)]; omega
  · rw [decide_eq_false hn, if_neg (by decide), Nat.mod_eq_of_lt (by omega)]
theorem of_word (n : Bool) {r : Nat} (h : r < 2048 * B52) : ngW (double.word n r) = n ∧ rgW (double.word n r) = r ∧ double.word n r < T64 := by
  unfold ngW rgW Format.word T64
  rw [signR]
  cases n with
  | true =>
    rw [if_pos rfl]
    exact ⟨decide_eq_true (by omega), by rw [Nat.add_mod_left, Nat.mod_eq_of_lt h], by omega⟩
  | false =>
    rw [if_neg (by decide)]
    exact ⟨decide_eq_false (by omega), Nat.mod_eq_of_lt h, by omega⟩
/-- Is a word a NaN; is it finite? -/
def nanW (u : Nat) : Bool := decide (2047 * B52 < rgW u)
def finW (u : Nat) : Bool := decide (rgW u < 2047 * B52)
theorem read_nan (n : Bool) {r : Nat} (h : 2047 * B52 < r) (h2 : r < 2048 * B52) : double.read (double.word n r) = .nan n (r - 2047 * B52) := by
  have hs : double.word n r / double.signWeight % 2 = (if n then 1 else 0) ∧ double.word n r % double.signWeight = r := by
    rw [signR]
    unfold Format.word
    cases n with
    | true =>
      rw [if_pos rfl, signR]
      refine ⟨?_, ?_⟩
      · rw [Nat.add_div_left _ (by decide), Nat.div_eq_of_lt (by omega)]; rfl
      · rw [Nat.add_mod_left, Nat.mod_eq_of_lt (by omega)]
    | false =>
      rw [if_neg (by decide)]
      refine ⟨?_, Nat.mod_eq_of_lt (by omega)⟩
      rw [Nat.div_eq_of_lt (by omega)]; rfl
  unfold Format.read
  simp only
  rw [hs.1, hs.2, binR, infR]
  have hn : ((if n = true then 1 else 0) == 1) = n := by cases n <;> rfl
  rw [hn, if_neg (by omega), if_neg (by omega), if_neg (by omega)]
theorem order_nan {u : Nat} (h : u < T64) (hn : nanW u = true) (y : Nat) : double.order u y = none ∧ double.order y u = none := by
  have e := read_nan (ngW u) (of_decide_eq_true hn) (rg_lt u)
  rw [← word_of h] at e
  unfold Format.order
  rw [e]
  unfold Datum.order
  refine ⟨rfl, ?_⟩
  cases double.read y <;> rfl
theorem fin_or {u : Nat} (h : nanW u = false) : finW u = true ∨ rgW u = 2047 * B52 := by
  have := of_decide_eq_false h
  by_cases hf : rgW u < 2047 * B52
  · exact .inl (decide_eq_true hf)
  · exact .inr (by omega)
/-- Finite words stand as their units do. -/
theorem order_words {u v : Nat} (hu : u < T64) (hv : v < T64) (fu : finW u = true) (fv : finW v = true) : double.order u v = some (compare (sV (ngW u) (unitV (rgW u))) (sV (ngW v) (unitV (rgW v)))) := by
  have := order_fin (ngW u) (ngW v) (of_decide_eq_true fu) (of_decide_eq_true fv)
  rwa [← word_of hu, ← word_of hv] at this
theorem order_inf {u v : Nat} (hu : u < T64) (hv : v < T64) (iu : rgW u = 2047 * B52) (fv : finW v = true) : double.order u v = some (if ngW u then .lt else .gt) ∧ double.order v u = some (if ngW u then .gt else .lt) := by
  have e := read_inf (ngW u)
  rw [← iu, ← word_of hu] at e
  obtain ⟨m, i, e2, _⟩ := read_fin (ngW v) (of_decide_eq_true fv)
  rw [← word_of hv] at e2
  unfold Format.order
  rw [e, e2]
  exact ⟨rfl, rfl⟩
theorem order_self {u : Nat} (h : u < T64) (hn : nanW u = false) : double.order u u = some .eq := by
  rcases fin_or hn with hf | hi
  · rw [order_words h h hf hf, Int.compare_eq_eq.2 rfl]
  · have e := read_inf (ngW u)
    rw [← hi, ← word_of h] at e
    unfold Format.order
    rw [e]
    cases ngW u <;> rfl
/-- The program's comparisons. -/
def geC (c : Option Ordering) : Bool := c == some .gt || c == some .eq
def leC (c : Option Ordering) : Bool := c == some .lt || c == some .eq
theorem ge_some (a b : Int) : geC (some (compare a b)) = decide (b ≤ a) := by
  unfold geC
  rcases Int.lt_trichotomy a b with h | h | h
  · rw [Int.compare_eq_lt.2 h]; exact (decide_eq_false (by omega)).symm
  · rw [Int.compare_eq_eq.2 h]; exact (decide_eq_true (by omega)).symm
  · rw [Int.compare_eq_gt.2 h]; exact (decide_eq_true (by omega)).symm
theorem le_some (a b : Int) : leC (some (compare a b)) = decide (a ≤ b) := by
  unfold leC
  rcases Int.lt_trichotomy a b with h | h | h
  · rw [Int.compare_eq_lt.2 h]; exact (decide_eq_true (by omega)).symm
  · rw [Int.compare_eq_eq.2 h]; exact (decide_eq_true (by omega)).symm
  · rw [Int.compare_eq_gt.2 h]; exact (decide_eq_false (by omega)).symm
def W1000 : Nat := 4652007308841189376
theorem f0 : (0 : Nat) < T64 ∧ finW 0 = true ∧ ngW 0 = false ∧ rgW 0 = 0 := by decide
theorem f1000 : W1000 < T64 ∧ finW W1000 = true ∧ ngW W1000 = false ∧ rgW W1000 = W1000 := by decide
/-- Is a word a weight? How many quanta has it? -/
def wtW (u : Nat) : Bool := decide (rgW u = 0) || (!ngW u && decide (rgW u ≤ W1000))
def quW (u : Nat) : Nat := if wtW u = true then unitV (rgW u) / 2 ^ (K74 - 10) else 0
theorem wt_fin {u : Nat} (h : wtW u = true) : finW u = true ∧ nanW u = false ∧ rgW u ≤ W1000 := by
  have hr : rgW u ≤ W1000 := by
    unfold wtW at h
    simp only [Bool.or_eq_true, Bool.and_eq_true, decide_eq_true_eq] at h
    rcases h with h | h
    · omega
    · exact h.2
  have : W1000 < 2047 * B52 := by decide
  exact ⟨decide_eq_true (by omega), decide_eq_false (by omega), hr⟩
/-- Right, by two comparisons. -/
theorem right_cmp {u : Nat} (h : u < T64) : (geC (double.order u 0) && leC (double.order u W1000)) = wtW u := by
  cases hn : nanW u with
  | true =>
    rw [(order_nan h hn 0).1, (order_nan h hn W1000).1]
    have := of_decide_eq_true hn
    have h2 : W1000 < 2047 * B52 := by decide
    unfold wtW
    rw [decide_eq_false (by omega), decide_eq_false (by omega)]
    cases ngW u <;> rfl
  | false =>
    rcases fin_or hn with hf | hi
    · rw [order_words h f0.1 hf f0.2.1, order_words h f1000.1 hf f1000.2.1, ge_some, le_some, f0.2.2.1, f0.2.2.2, f1000.2.2.1, f1000.2.2.2]
      have hz : unitV 0 = 0 := unitV_low (by decide)
      rw [hz]
      unfold wtW
      have hle : ∀ r, decide (unitV r ≤ unitV W1000) = decide (r ≤ W1000) := fun r => by
        rw [decide_eq_decide]
        constructor
        · intro hh
          by_cases hr : r ≤ W1000
          · exact hr
          · have := unitV_lt (r := W1000) (s := r) (by omega); omega
        · exact fun hh => unitV_le hh
      cases ngW u with
      | false =>
        have e1 : decide (sV false 0 ≤ sV false (unitV (rgW u))) = true := decide_eq_true (by show (0 : Int) ≤ ((unitV (rgW u) : Nat) : Int); omega)
        have e2 : decide (sV false (unitV (rgW u)) ≤ sV false (unitV W1000)) = decide (unitV (rgW u) ≤ unitV W1000) := by
          rw [decide_eq_decide]; show ((unitV (rgW u) : Nat) : Int) ≤ ((unitV W1000 : Nat) : Int) ↔ _; omega
        rw [e1, e2, hle]
        by_cases h0 : rgW u = 0
        · rw [h0]; decide
        · rw [decide_eq_false h0]; rfl
      | true =>
        have e2 : decide (sV true (unitV (rgW u)) ≤ sV false (unitV W1000)) = true := decide_eq_true (by show -((unitV (rgW u) : Nat) : Int) ≤ ((unitV W1000 : Nat) : Int); omega)
        have e1 : decide (sV false 0 ≤ sV true (unitV (rgW u))) = decide (rgW u = 0) := by
          rw [decide_eq_decide]
          show (0 : Int) ≤ -((unitV (rgW u) : Nat) : Int) ↔ _
          constructor
          · intro hh
            by_cases h0 : rgW u = 0
            · exact h0
            · have := unitV_pos h0; omega
          · intro hh; rw [hh, hz]; omega
        rw [e1, e2]
        cases decide (rgW u = 0) <;> rfl
    · rw [(order_inf h f0.1 hi f0.2.1).1, (order_inf h f1000.1 hi f1000.2.1).1]
      unfold wtW
      have h2 : W1000 < 2047 * B52 := by decide
      have h3 : (0 : Nat) < 2047 * B52 := by decide
      rw [decide_eq_false (by omega), decide_eq_false (by omega)]
      cases ngW u <;> rfl
theorem unit_le {u : Nat} (h : wtW u = true) : unitV (rgW u) ≤ 1000 * 2 ^ K74 := by rw [← unit1000]; exact unitV_le (wt_fin h).2.2
theorem K74_split : (2 : Nat) ^ K74 = 2 ^ (K74 - 10) * 2 ^ 10 := by
  rw [← Nat.pow_add]
  congr 1
  have := K74_eq
  omega
theorem qu_le (u : Nat) : quW u ≤ 1024000 := by
  unfold quW
  split
  · rename_i h
    have := unit_le h
    rw [K74_split] at this
    refine Nat.le_of_lt_succ ((Nat.div_lt_iff_lt_mul (Nat.two_pow_pos _)).2 ?_)
    have hp := Nat.two_pow_pos (K74 - 10)
    generalize 2 ^ (K74 - 10) = Q at *
    omega
  · omega
/-- 1024 times a weight has a word; its whole part is the quanta. -/
theorem qu_mul {u : Nat} (h : u < T64) (hw : wtW u = true) : ∃ v, double.mul u 4652218415073722368 = some v ∧ (double.read v).toInt .zero = some ((quW u : Nat) : Int) := by
  obtain ⟨hf, _, hr⟩ := wt_fin hw
  have hf' := of_decide_eq_true hf
  have hm := mul_1024 (ngW u) hf'
  rw [← word_of h] at hm
  have hfin := fine_mul (unitV_fine (rgW u)) 10
  have hfin' : fine (unitV (rgW u) * 1024) := hfin
  -- 1024000 is finite
  have hlt : rungOf (unitV (rgW u) * 1024) < 2047 * B52 := by
    have h1 : unitV (rungOf (unitV (rgW u) * 1024)) < unitV (2046 * B52) := by
      rw [unit_rung hfin']
      have h2 : unitV (rgW u) * 1024 ≤ unitV W1000 * 1024 := Nat.mul_le_mul_right _ (unitV_le hr)
      exact Nat.lt_of_le_of_lt h2 (by decide +kernel)
    have := unitV_lt_iff.1 h1
    have h3 : 2046 * B52 < 2047 * B52 := by decide
    omega
  rw [Nat.min_eq_left (by omega)] at hm
  refine ⟨_, hm, ?_⟩
  rw [toInt_word (ngW u) hlt, unit_rung hfin']
  congr 1
  have e : unitV (rgW u) * 1024 / 2 ^ K74 = quW u := by
    unfold quW
    rw [if_pos hw, K74_split, show (1024 : Nat) = 2 ^ 10 from rfl, Nat.mul_div_mul_right _ _ (by decide)]
  rw [e]
  by_cases h0 : rgW u = 0
  · have : quW u = 0 := by unfold quW; rw [if_pos hw, h0, unitV_low (by decide), Nat.zero_div]
    rw [this]
    cases ngW u <;> rfl
  · have : ngW u = false := by
      unfold wtW at hw
      rw [decide_eq_false h0] at hw
      cases hn : ngW u
      · rfl
      · rw [hn] at hw; cases hw
    rw [this]
    rfl
end Go.Proofs.Ytcimgbjliamaiaa
