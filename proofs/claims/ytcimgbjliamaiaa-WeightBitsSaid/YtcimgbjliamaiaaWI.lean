/-
  Plain mathematics of stage 14: the weight of so many quanta, and the number ahead of it; greater weights; twice a weight; the document's answer by bits. No program is walked here.
-/
import Derived.Test.YtcimgbjliamaiaaWH
namespace Go.Proofs.Ytcimgbjliamaiaa
open Ieee

/-- The word of the weight of so many quanta. -/
def ofW (q : Nat) : Nat := rungOf (q * 2 ^ (K74 - 10))
theorem w_pos (r : Nat) : double.word false r = r := rfl
theorem of_fine {q : Nat} (h : q < 2 ^ 53) : fine (q * 2 ^ (K74 - 10)) := fine_small h _
theorem of_units {q : Nat} (h : q < 2 ^ 53) : unitV (ofW q) = q * 2 ^ (K74 - 10) := unit_rung (of_fine h)
theorem of_le {q : Nat} (h : q ≤ 1024000) : ofW q ≤ W1000 := by
  have h53 : q < 2 ^ 53 := Nat.lt_of_le_of_lt h (by decide)
  by_cases hh : ofW q ≤ W1000
  · exact hh
  · have h1 := unitV_lt (r := W1000) (s := ofW q) (by omega)
    rw [of_units h53] at h1
    have h2 : unitV W1000 = 1000 * 2 ^ K74 := unit1000
    rw [h2, K74_split] at h1
    have h3 : q * 2 ^ (K74 - 10) ≤ 1024000 * 2 ^ (K74 - 10) := Nat.mul_le_mul_right _ h
    generalize 2 ^ (K74 - 10) = Q at *
    omega
theorem of_word_ {q : Nat} (h : q ≤ 1024000) : ofW q < T64 ∧ ngW (ofW q) = false ∧ rgW (ofW q) = ofW q := by
  have h1 := of_le h
  have h2 : W1000 < 2047 * B52 := by decide
  have := of_word false (r := ofW q) (by omega)
  rw [w_pos] at this
  exact ⟨this.2.2, this.1, this.2.1⟩
theorem of_right {q : Nat} (h : q ≤ 1024000) : wtW (ofW q) = true := by
  obtain ⟨_, h2, h3⟩ := of_word_ h
  unfold wtW
  rw [h2, h3, decide_eq_true (of_le h)]
  cases decide (ofW q = 0) <;> rfl
theorem of_quanta {q : Nat} (h : q ≤ 1024000) : quW (ofW q) = q := by
  unfold quW
  rw [if_pos (of_right h), (of_word_ h).2.2, of_units (Nat.lt_of_le_of_lt h (by decide)), Nat.mul_div_cancel _ (Nat.two_pow_pos _)]
/-- A whole number by 1024. -/
theorem of_div {q : Nat} (h : q ≤ 1024000) : double.div (floatOfInt .f64 (q : Int)) 4652218415073722368 = some (ofW q) := by
  have h53 : q < 2 ^ 53 := Nat.lt_of_le_of_lt h (by decide)
  rw [of_int h53]
  have hf : fine (q * 2 ^ K74) := fine_small h53 _
  have hu := unit_rung hf
  have hlt : rungOf (q * 2 ^ K74) < 2047 * B52 := by
    have h1 : unitV (rungOf (q * 2 ^ K74)) < unitV (2046 * B52) := by
      rw [hu]
      refine Nat.lt_of_le_of_lt (Nat.mul_le_mul_right _ h) ?_
      rw [K74_eq]
      decide +kernel
    have := unitV_lt_iff.1 h1
    have h3 : 2046 * B52 < 2047 * B52 := by decide
    omega
  rw [Nat.min_eq_left (by omega)]
  rw [div_1024 false hlt (N := q * 2 ^ (K74 - 10)) (by rw [hu, K74_split, Nat.mul_assoc]) (of_fine h53)]
  have h2 : W1000 < 2047 * B52 := by decide
  have := of_le h
  unfold ofW at this
  rw [Nat.min_eq_left (by omega), w_pos]
  rfl
theorem of_zero : ofW 0 = 0 := by unfold ofW; rw [Nat.zero_mul]; rfl
theorem of_pos {q : Nat} (h : q ≤ 1024000) (h0 : q ≠ 0) : ofW q ≠ 0 := fun e => by
  have := of_quanta h
  rw [e] at this
  have h1 : quW 0 = 0 := by decide +kernel
  omega
/-- The number ahead of it has one quantum less. -/
theorem of_pred {q : Nat} (h : q ≤ 1024000) (h0 : q ≠ 0) : wtW (ofW q - 1) = true ∧ quW (ofW q - 1) = q - 1 := by
  have h53 : q < 2 ^ 53 := Nat.lt_of_le_of_lt h (by decide)
  have hp := of_pos h h0
  have hl := of_le h
  have h2 : W1000 < 2047 * B52 := by decide
  have hw := of_word false (r := ofW q - 1) (by omega)
  rw [w_pos] at hw
  have hr : wtW (ofW q - 1) = true := by
    unfold wtW
    rw [hw.1, hw.2.1, decide_eq_true (show ofW q - 1 ≤ W1000 by omega)]
    cases decide (ofW q - 1 = 0) <;> rfl
  refine ⟨hr, ?_⟩
  unfold quW
  rw [if_pos hr, hw.2.1]
  have h1 : unitV (ofW q - 1) < q * 2 ^ (K74 - 10) := by rw [← of_units h53]; exact unitV_lt (by omega)
  have h3 : (q - 1) * 2 ^ (K74 - 10) ≤ unitV (ofW q - 1) := by
    rw [← of_units (q := q - 1) (by omega)]
    refine unitV_le ?_
    have : ofW (q - 1) < ofW q := unitV_lt_iff.1 (by rw [of_units h53, of_units (by omega)]; exact Nat.mul_lt_mul_of_pos_right (by omega) (Nat.two_pow_pos _))
    omega
  refine Nat.div_eq_of_lt_le h3 ?_
  rw [Nat.sub_add_cancel (by omega)]
  exact h1
/-- Weights are no less than nought, and stand as their units do. -/
theorem wt_sV {u : Nat} (h : wtW u = true) : sV (ngW u) (unitV (rgW u)) = ((unitV (rgW u) : Nat) : Int) := by
  unfold wtW at h
  by_cases h0 : rgW u = 0
  · rw [h0, show unitV 0 = 0 from unitV_low (by decide)]
    cases ngW u <;> rfl
  · rw [decide_eq_false h0] at h
    cases hn : ngW u
    · rfl
    · rw [hn] at h; cases h
theorem wt_order {u v : Nat} (hu : u < T64) (hv : v < T64) (wu : wtW u = true) (wv : wtW v = true) : leC (double.order u v) = decide (unitV (rgW u) ≤ unitV (rgW v)) := by
  rw [order_words hu hv (wt_fin wu).1 (wt_fin wv).1, le_some, wt_sV wu, wt_sV wv, decide_eq_decide]
  omega
theorem wt_mono {u v : Nat} (hu : u < T64) (hv : v < T64) (wu : wtW u = true) (wv : wtW v = true) (h : leC (double.order u v) = true) : quW u ≤ quW v := by
  rw [wt_order hu hv wu wv] at h
  unfold quW
  rw [if_pos wu, if_pos wv]
  exact Nat.div_le_div_right (of_decide_eq_true h)
/-- What stands between two weights is one. -/
theorem wt_between {u v z : Nat} (hu : u < T64) (hv : v < T64) (hz : z < T64) (wu : wtW u = true) (wv : wtW v = true) (h1 : leC (double.order u z) = true) (h2 : leC (double.order z v) = true) : wtW z = true := by
  cases hn : nanW z with
  | true => rw [(order_nan hz hn u).2] at h1; cases h1
  | false =>
    rcases fin_or hn with hf | hi
    · rw [order_words hu hz (wt_fin wu).1 hf, le_some, wt_sV wu] at h1
      rw [order_words hz hv hf (wt_fin wv).1, le_some, wt_sV wv] at h2
      have a1 := of_decide_eq_true h1
      have a2 := of_decide_eq_true h2
      unfold wtW
      by_cases h0 : rgW z = 0
      · rw [decide_eq_true h0]; rfl
      · have hp := unitV_pos h0
        cases hg : ngW z with
        | true =>
          rw [hg] at a1
          have a1' : ((unitV (rgW u) : Nat) : Int) ≤ -((unitV (rgW z) : Nat) : Int) := a1
          omega
        | false =>
          rw [hg] at a2
          have a2' : ((unitV (rgW z) : Nat) : Int) ≤ ((unitV (rgW v) : Nat) : Int) := a2
          have hvr := (wt_fin wv).2.2
          have hle : rgW z ≤ W1000 := by
            by_cases hh : rgW z ≤ W1000
            · exact hh
            · have := unitV_lt (r := rgW v) (s := rgW z) (by omega)
              omega
          rw [decide_eq_true hle]
          cases decide (rgW z = 0) <;> rfl
    · rw [(order_inf hz hu hi (wt_fin wu).1).2] at h1
      rw [(order_inf hz hv hi (wt_fin wv).1).1] at h2
      cases hg : ngW z
      · rw [hg] at h2; exact absurd h2 (by decide)
      · rw [hg] at h1; exact absurd h1 (by decide)
/-- Twice a weight. -/
theorem wt_twice {u : Nat} (hu : u < T64) (wu : wtW u = true) : ∃ v, double.add u u = some v ∧ v < T64 ∧ leC (double.order v W1000) = wtW v ∧ (wtW v = true → quW v = 2 * quW u ∨ quW v = 2 * quW u + 1) := by
  obtain ⟨hf, _, hr⟩ := wt_fin wu
  have ha := add_self (ngW u) (of_decide_eq_true hf)
  rw [← word_of hu] at ha
  have hfin : fine (unitV (rgW u) * 2) := fine_mul (unitV_fine (rgW u)) 1
  have hlt : rungOf (unitV (rgW u) * 2) < 2047 * B52 := by
    have h1 : unitV (rungOf (unitV (rgW u) * 2)) < unitV (2046 * B52) := by
      rw [unit_rung hfin]
      have h2 : unitV (rgW u) * 2 ≤ unitV W1000 * 2 := Nat.mul_le_mul_right _ (unitV_le hr)
      exact Nat.lt_of_le_of_lt h2 (by decide +kernel)
    have := unitV_lt_iff.1 h1
    have h3 : 2046 * B52 < 2047 * B52 := by decide
    omega
  rw [Nat.min_eq_left (by omega)] at ha
  obtain ⟨o1, o2, o3⟩ := of_word (ngW u) (r := rungOf (unitV (rgW u) * 2)) (by omega)
  refine ⟨_, ha, o3, ?_, fun hv => ?_⟩
  · have hge : geC (double.order (double.word (ngW u) (rungOf (unitV (rgW u) * 2))) 0) = true := by
      rw [order_words o3 f0.1 (by unfold finW; rw [o2]; exact decide_eq_true hlt) f0.2.1, ge_some, o1, o2, f0.2.2.1, f0.2.2.2, unit_rung hfin, show unitV 0 = 0 from unitV_low (by decide), sV_mul, wt_sV wu]
      exact decide_eq_true (by show (0 : Int) ≤ _; omega)
    have := right_cmp o3
    rw [hge, Bool.true_and] at this
    exact this
  · unfold quW
    rw [if_pos hv, if_pos wu, o2, unit_rung hfin]
    have hp := Nat.two_pow_pos (K74 - 10)
    generalize 2 ^ (K74 - 10) = Q at *
    generalize unitV (rgW u) = V at *
    have h1 := Nat.div_add_mod V Q
    have h2 := Nat.mod_lt V hp
    by_cases h3 : V % Q * 2 < Q
    · left
      refine Nat.div_eq_of_lt_le ?_ ?_
      · rw [Nat.mul_comm (2 * _), Nat.mul_comm 2, ← Nat.mul_assoc]; omega
      · rw [Nat.add_mul, Nat.one_mul, Nat.mul_comm (2 * _), Nat.mul_comm 2, ← Nat.mul_assoc]; omega
    · right
      refine Nat.div_eq_of_lt_le ?_ ?_
      · rw [Nat.add_mul, Nat.one_mul, Nat.mul_comm (2 * _), Nat.mul_comm 2, ← Nat.mul_assoc]; omega
      · rw [Nat.add_mul, Nat.add_mul, Nat.one_mul, Nat.mul_comm (2 * _), Nat.mul_comm 2, ← Nat.mul_assoc]; omega
/-- The document's answer, by exponent and fraction. -/
def exW (u : Nat) : Nat := rgW u / B52
def frW (u : Nat) : Nat := rgW u % B52
def maW (u : Nat) : Nat := if exW u = 0 then frW u else frW u + B52
def loW (u : Nat) : Nat := if exW u = 0 then 1074 else 1075 - exW u
theorem ex_lt (u : Nat) : exW u < 2048 := (Nat.div_lt_iff_lt_mul (by decide)).2 (rg_lt u)
theorem fr_lt (u : Nat) : frW u < B52 := Nat.mod_lt _ (by decide)
theorem ex_fr (u : Nat) : rgW u = exW u * B52 + frW u := by unfold exW frW; rw [Nat.mul_comm]; exact (Nat.div_add_mod _ _).symm
theorem ma_lt (u : Nat) : maW u < 2 ^ 53 := by
  have := fr_lt u
  have h : (2 : Nat) ^ 53 = 2 * B52 := rfl
  unfold maW
  split <;> omega
theorem ma_units {u : Nat} (h : exW u ≤ 1074) : unitV (rgW u) * 2 ^ loW u = maW u * 2 ^ K74 := by
  have h74 := K74_eq
  have hd := ex_fr u
  have hfr := fr_lt u
  by_cases h0 : exW u = 0
  · have hr : rgW u = frW u := by rw [hd, h0]; omega
    unfold loW maW
    rw [if_pos h0, if_pos h0, hr, unitV_low hfr, ← h74]
  · unfold loW maW
    rw [if_neg h0, if_neg h0]
    have hb : B52 ≤ rgW u := by
      have : 1 * B52 ≤ exW u * B52 := Nat.mul_le_mul_right _ (by omega)
      omega
    rw [unitV_high hb]
    show (B52 + frW u) * 2 ^ (exW u - 1) * 2 ^ (1075 - exW u) = _
    rw [Nat.mul_assoc, ← Nat.pow_add, show exW u - 1 + (1075 - exW u) = K74 by omega, Nat.add_comm]
theorem ref_high {u : Nat} (h : 1033 ≤ exW u) : wtW u = false := by
  have hd := ex_fr u
  have h1 : 1033 * B52 ≤ exW u * B52 := Nat.mul_le_mul_right _ h
  have h2 : W1000 < 1033 * B52 := by decide
  have h3 : 0 < B52 := by decide
  unfold wtW
  rw [decide_eq_false (by omega), decide_eq_false (by omega)]
  cases ngW u <;> rfl
theorem ref_zero {u : Nat} (h1 : exW u = 0) (h2 : frW u = 0) : wtW u = true ∧ quW u = 0 := by
  have hr : rgW u = 0 := by rw [ex_fr u, h1, h2]; rfl
  have hw : wtW u = true := by unfold wtW; rw [hr]; rfl
  refine ⟨hw, ?_⟩
  unfold quW
  rw [if_pos hw, hr, unitV_low (by decide), Nat.zero_div]
theorem ref_neg {u : Nat} (h : ¬ (exW u = 0 ∧ frW u = 0)) (hn : ngW u = true) : wtW u = false := by
  have hr : rgW u ≠ 0 := fun e => by
    apply h
    unfold exW frW
    rw [e]
    exact ⟨rfl, rfl⟩
  unfold wtW
  rw [decide_eq_false hr, hn]
  rfl
theorem ref_le {u : Nat} (h : exW u ≤ 1032) : (rgW u ≤ W1000) ↔ maW u ≤ 1000 * 2 ^ loW u := by
  have e := ma_units (u := u) (by omega)
  have hu : unitV W1000 = 1000 * 2 ^ K74 := unit1000
  have h1 : rgW u ≤ W1000 ↔ unitV (rgW u) ≤ unitV W1000 := by
    constructor
    · exact fun hh => unitV_le hh
    · intro hh
      by_cases hr : rgW u ≤ W1000
      · exact hr
      · have := unitV_lt (r := W1000) (s := rgW u) (by omega); omega
  rw [h1, hu]
  have p1 := Nat.two_pow_pos (loW u)
  have p2 := Nat.two_pow_pos K74
  constructor
  · intro hh
    have h2 : maW u * 2 ^ K74 ≤ 1000 * 2 ^ loW u * 2 ^ K74 := by rw [← e, Nat.mul_right_comm]; exact Nat.mul_le_mul_right _ hh
    exact Nat.le_of_mul_le_mul_right h2 p2
  · intro hh
    have h2 : unitV (rgW u) * 2 ^ loW u ≤ 1000 * 2 ^ K74 * 2 ^ loW u := by rw [e, Nat.mul_right_comm 1000]; exact Nat.mul_le_mul_right _ hh
    exact Nat.le_of_mul_le_mul_right h2 p1
theorem ref_wt {u : Nat} (h : exW u ≤ 1032) (hn : ngW u = false) : wtW u = decide (maW u ≤ 1000 * 2 ^ loW u) := by
  unfold wtW
  rw [hn]
  have := ref_le h
  have h2 : decide (rgW u ≤ W1000) = decide (maW u ≤ 1000 * 2 ^ loW u) := decide_eq_decide.2 this
  rw [← h2]
  by_cases h0 : rgW u = 0
  · rw [h0]; rfl
  · rw [decide_eq_false h0]; rfl
/-- How the document asks it. -/
theorem ref_ask (M l : Nat) : M ≤ 1000 * 2 ^ l ↔ ¬ (1000 < M / 2 ^ l ∨ M / 2 ^ l = 1000 ∧ M % 2 ^ l ≠ 0) := by
  have hp := Nat.two_pow_pos l
  have h1 := Nat.div_add_mod M (2 ^ l)
  have h2 := Nat.mod_lt M hp
  generalize 2 ^ l = Q at *
  generalize hq : M / Q = q at *
  generalize M % Q = r at *
  constructor
  · intro h hh
    rcases hh with hh | ⟨hh, h3⟩
    · have : Q * 1001 ≤ Q * q := Nat.mul_le_mul_left _ hh
      omega
    · subst hh; omega
  · intro h
    by_cases hh : 1000 < q
    · exact absurd (.inl hh) h
    · by_cases h3 : q = 1000
      · subst h3
        by_cases h4 : r = 0
        · omega
        · exact absurd (.inr ⟨rfl, h4⟩) h
      · have : Q * q ≤ Q * 999 := Nat.mul_le_mul_left _ (by omega)
        omega
theorem ref_low {u : Nat} (h : 63 ≤ loW u) : maW u ≤ 1000 * 2 ^ loW u := by
  have h1 := ma_lt u
  have h2 : (2 : Nat) ^ 53 ≤ 2 ^ loW u := Nat.pow_le_pow_right (by decide) (by omega)
  omega
theorem ref_qu {u : Nat} (h : exW u ≤ 1032) (hw : wtW u = true) : quW u = maW u / 2 ^ (loW u - 10) := by
  have e := ma_units (u := u) (by omega)
  have h74 := K74_eq
  have hlo : 10 ≤ loW u := by unfold loW; split <;> omega
  obtain ⟨k, hk⟩ : ∃ k, loW u = k + 10 := ⟨loW u - 10, by omega⟩
  unfold quW
  rw [if_pos hw, hk, Nat.add_sub_cancel]
  rw [hk, K74_split, Nat.pow_add, ← Nat.mul_assoc, ← Nat.mul_assoc] at e
  have e2 : unitV (rgW u) * 2 ^ k = maW u * 2 ^ (K74 - 10) := Nat.eq_of_mul_eq_mul_right (by decide) e
  rw [← Nat.mul_div_mul_right _ _ (Nat.two_pow_pos k), e2, Nat.mul_comm (2 ^ (K74 - 10)), Nat.mul_div_mul_right _ _ (Nat.two_pow_pos _)]
theorem ref_small {u : Nat} (h : exW u ≤ 1032) (hw : wtW u = true) (hl : 70 < loW u) : quW u = 0 := by
  rw [ref_qu h hw]
  have h1 := ma_lt u
  have h2 : (2 : Nat) ^ 53 ≤ 2 ^ (loW u - 10) := Nat.pow_le_pow_right (by decide) (by omega)
  exact Nat.div_eq_of_lt (by omega)
/-- The bits of a number, of each NaN the same. -/
def canW (u : Nat) : Nat := if nanW u = true then 9221120237041090560 else u
theorem can_lt {u : Nat} (h : u < T64) : canW u < T64 := by
  unfold canW
  split
  · decide
  · exact h
theorem can_can (u : Nat) : canW (canW u) = canW u := by
  by_cases h : nanW u = true
  · have e : canW u = 9221120237041090560 := if_pos h
    rw [e]
    decide
  · have e : canW u = u := if_neg h
    rw [e, e]
end Go.Proofs.Ytcimgbjliamaiaa
