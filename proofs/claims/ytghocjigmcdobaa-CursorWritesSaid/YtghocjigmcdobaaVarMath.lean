/-
  Plain mathematics: varints read byte by byte; whole numbers folded. No program is named here.
-/
import Derived.Lib.Zigzag
import Derived.Laws.BitsAllLaws
namespace Go.Proofs.Ytghocjigmcdobaa
open Go.Lib

/-- What a reading of a varint comes to: the number, its bytes, the error. -/
structure Got where
  n : Nat
  k : Nat
  e : Nat

/-- May byte i of a varint be x? -/
def fitB (i : Nat) (x : UInt8) : Bool := decide (i = 0 ∨ (x.toNat ≠ 0 ∧ (i < 9 ∨ x.toNat = 1)))

/-- The reading, from byte i on, with what was told ahead. -/
def vgo : List UInt8 → Nat → Nat → Got
  | [], _, _ => ⟨0, 0, 2⟩
  | x :: xs, i, n => if fitB i x = true then (if x.toNat < 128 then ⟨n + x.toNat % 128 * 128 ^ i, i + 1, 0⟩ else vgo xs (i + 1) (n + x.toNat % 128 * 128 ^ i)) else ⟨0, 0, 3⟩
def vget (xs : List UInt8) : Got := vgo xs 0 0

theorem vgo_nil (i n : Nat) : vgo [] i n = ⟨0, 0, 2⟩ := rfl
theorem vgo_bad {x : UInt8} {i : Nat} (h : fitB i x = false) (xs : List UInt8) (n : Nat) : vgo (x :: xs) i n = ⟨0, 0, 3⟩ := by rw [vgo, h]; rfl
theorem vgo_last {x : UInt8} {i : Nat} (h : fitB i x = true) (hx : x.toNat < 128) (xs : List UInt8) (n : Nat) : vgo (x :: xs) i n = ⟨n + x.toNat % 128 * 128 ^ i, i + 1, 0⟩ := by rw [vgo, if_pos h, if_pos hx]
theorem vgo_more {x : UInt8} {i : Nat} (h : fitB i x = true) (hx : ¬ x.toNat < 128) (xs : List UInt8) (n : Nat) : vgo (x :: xs) i n = vgo xs (i + 1) (n + x.toNat % 128 * 128 ^ i) := by rw [vgo, if_pos h, if_neg hx]

theorem fitB_more {i : Nat} {x : UInt8} (h : fitB i x = true) (hx : ¬ x.toNat < 128) : i < 9 := by
  unfold fitB at h
  have := of_decide_eq_true h
  omega
theorem fitB_last {i : Nat} {x : UInt8} (h : fitB i x = true) (hi : i ≤ 9) : x.toNat * 128 ^ i < 18446744073709551616 := by
  have h := of_decide_eq_true h
  have hx := x.toNat_lt
  rcases Nat.lt_or_ge i 9 with h9 | h9
  · have h1 : 128 ^ i ≤ 128 ^ 8 := Nat.pow_le_pow_right (by decide) (by omega)
    have h2 : x.toNat * 128 ^ i ≤ 255 * 128 ^ 8 := Nat.mul_le_mul (by omega) h1
    omega
  · obtain rfl : i = 9 := by omega
    omega

theorem digit_sum (n p : Nat) : n % 128 * p + n / 128 * (p * 128) = n * p := by
  have h : n % 128 * p + n / 128 * 128 * p = n * p := by
    rw [← Nat.add_mul]
    congr 1
    omega
  rw [← h, Nat.mul_assoc, Nat.mul_comm 128 p]
theorem digit_pow (n i : Nat) : n % 128 * 128 ^ i + n / 128 * 128 ^ (i + 1) = n * 128 ^ i := by
  have h := digit_sum n (128 ^ i)
  rwa [← Nat.pow_succ] at h
theorem big_pow {n i : Nat} (h : n * 128 ^ i < 18446744073709551616) (hn : 128 ≤ n) : i < 9 := by
  rcases Nat.lt_or_ge i 9 with h9 | h9
  · exact h9
  · have h1 : 128 ^ 9 ≤ 128 ^ i := Nat.pow_le_pow_right (by decide) h9
    have h2 : 128 * 128 ^ 9 ≤ n * 128 ^ i := Nat.mul_le_mul hn h1
    omega
theorem small_fit {n i : Nat} (h : n * 128 ^ i < 18446744073709551616) (hi : i ≤ 9) (h0 : i = 0 ∨ 0 < n) (hn : n < 128) : fitB i (n.toUInt8) = true := by
  unfold fitB
  have e : (n.toUInt8).toNat = n := by simp; omega
  rw [e]
  apply decide_eq_true
  rcases Nat.lt_or_ge i 9 with h9 | h9
  · omega
  · obtain rfl : i = 9 := by omega
    omega
theorem big_fit {n i : Nat} (hi : i < 9) : fitB i ((n % 128 + 128).toUInt8) = true := by
  unfold fitB
  have e : ((n % 128 + 128).toUInt8).toNat = n % 128 + 128 := by simp; omega
  rw [e]
  apply decide_eq_true
  omega

theorem vgo_put (more : List UInt8) (n : Nat) : ∀ i m : Nat, i ≤ 9 → (i = 0 ∨ 0 < n) → n * 128 ^ i < 18446744073709551616 → vgo (uvarint n ++ more) i m = ⟨m + n * 128 ^ i, i + (uvarint n).length, 0⟩ := by
  induction n using Nat.strongRecOn with
  | ind n ih =>
    intro i m hi h0 hb
    by_cases hn : n < 128
    · rw [uvarint_small hn]
      have e : (n.toUInt8).toNat = n := by simp; omega
      rw [List.singleton_append, vgo_last (small_fit hb hi h0 hn) (by rw [e]; exact hn), e, Nat.mod_eq_of_lt hn]
      rfl
    · have h9 := big_pow hb (by omega)
      rw [uvarint_big (by omega)]
      have e : ((n % 128 + 128).toUInt8).toNat = n % 128 + 128 := by simp; omega
      have hs := digit_pow n i
      rw [List.cons_append, vgo_more (big_fit h9) (by rw [e]; omega), e, ih (n / 128) (by omega) (i + 1) _ (by omega) (by omega) (by omega)]
      have e2 : (n % 128 + 128) % 128 = n % 128 := by omega
      rw [e2, Nat.add_assoc, hs, List.length_cons]
      congr 1
      omega

theorem vgo_cut (n : Nat) : ∀ i m j : Nat, i ≤ 9 → (i = 0 ∨ 0 < n) → n * 128 ^ i < 18446744073709551616 → j < (uvarint n).length → vgo ((uvarint n).take j) i m = ⟨0, 0, 2⟩ := by
  induction n using Nat.strongRecOn with
  | ind n ih =>
    intro i m j hi h0 hb hj
    rcases j with _ | j
    · rfl
    by_cases hn : n < 128
    · rw [uvarint_small hn] at hj
      simp at hj
    · have h9 := big_pow hb (by omega)
      rw [uvarint_big (by omega)] at hj ⊢
      have e : ((n % 128 + 128).toUInt8).toNat = n % 128 + 128 := by simp; omega
      have hs := digit_pow n i
      rw [List.take_succ_cons, vgo_more (big_fit h9) (by rw [e]; omega)]
      exact ih (n / 128) (by omega) (i + 1) _ j (by omega) (by omega) (by omega) (by simpa using hj)

/-- What a reading tells. -/
theorem vgo_tells : ∀ (xs : List UInt8) (i m : Nat), i ≤ 9 →
    (∃ q, vgo xs i m = ⟨m + q * 128 ^ i, i + (uvarint q).length, 0⟩ ∧ xs.take (uvarint q).length = uvarint q ∧ (i = 0 ∨ 0 < q) ∧ q * 128 ^ i < 18446744073709551616) ∨ vgo xs i m = ⟨0, 0, 2⟩ ∨ vgo xs i m = ⟨0, 0, 3⟩
  | [], _, _, _ => .inr (.inl rfl)
  | x :: xs, i, m, hi => by
    cases hf : fitB i x with
    | false => exact .inr (.inr (vgo_bad hf _ _))
    | true =>
      have hb := fitB_last hf hi
      by_cases hx : x.toNat < 128
      · left
        have hu : uvarint x.toNat = [x] := by rw [uvarint_small hx]; simp
        refine ⟨x.toNat, ?_, by rw [hu]; rfl, ?_, hb⟩
        · rw [vgo_last hf hx, hu, Nat.mod_eq_of_lt hx]; rfl
        · have := of_decide_eq_true hf; omega
      · have h9 := fitB_more hf hx
        rw [vgo_more hf hx]
        rcases vgo_tells xs (i + 1) (m + x.toNat % 128 * 128 ^ i) (by omega) with ⟨q, h1, h2, h3, h4⟩ | h | h
        · left
          have hxl := x.toNat_lt
          have e1 : (x.toNat % 128 + 128 * q) / 128 = q := by omega
          have e2 : (x.toNat % 128 + 128 * q) % 128 + 128 = x.toNat := by omega
          have hu : uvarint (x.toNat % 128 + 128 * q) = x :: uvarint q := by
            rw [uvarint_big (by omega), e1, e2]; simp
          have hs := digit_pow (x.toNat % 128 + 128 * q) i
          rw [e1] at hs
          have e3 : (x.toNat % 128 + 128 * q) % 128 = x.toNat % 128 := by omega
          rw [e3] at hs
          refine ⟨x.toNat % 128 + 128 * q, ?_, by rw [hu, List.length_cons, List.take_succ_cons, h2], by omega, ?_⟩
          · rw [h1, hu, ← hs, List.length_cons]
            congr 1 <;> omega
          · rw [← hs]
            have h5 : q * 128 ^ (i + 1) < 18446744073709551616 := h4
            have h6 : 128 ^ (i + 1) ∣ 18446744073709551616 ∨ True := .inr trivial
            have h7 : x.toNat % 128 * 128 ^ i < 128 ^ (i + 1) := by
              rw [Nat.pow_succ, Nat.mul_comm (128 ^ i)]
              exact Nat.mul_lt_mul_of_pos_right (by omega) (Nat.pos_of_ne_zero (by simp))
            have h8 : (q + 1) * 128 ^ (i + 1) ≤ 18446744073709551616 := by
              have hd : 18446744073709551616 = 2 ^ (64 - 7 * (i + 1)) * 128 ^ (i + 1) := by
                rw [show (128 : Nat) = 2 ^ 7 from rfl, ← Nat.pow_mul, ← Nat.pow_add]
                rw [show 64 - 7 * (i + 1) + 7 * (i + 1) = 64 by omega]
              rw [hd] at h5 ⊢
              exact Nat.mul_le_mul_right _ (Nat.lt_of_mul_lt_mul_right h5)
            rw [Nat.add_mul, Nat.one_mul] at h8
            omega
        · exact .inr (.inl h)
        · exact .inr (.inr h)

theorem vget_put (n : Nat) (hn : n < 18446744073709551616) (more : List UInt8) : vget (uvarint n ++ more) = ⟨n, (uvarint n).length, 0⟩ := by
  unfold vget
  rw [vgo_put more n 0 0 (by omega) (.inl rfl) (by simpa using hn)]
  simp
theorem vget_cut (n : Nat) (hn : n < 18446744073709551616) (j : Nat) (hj : j < (uvarint n).length) : vget ((uvarint n).take j) = ⟨0, 0, 2⟩ :=
  vgo_cut n 0 0 j (by omega) (.inl rfl) (by simpa using hn) hj
theorem vget_tells (xs : List UInt8) : (∃ q, vget xs = ⟨q, (uvarint q).length, 0⟩ ∧ xs.take (uvarint q).length = uvarint q ∧ q < 18446744073709551616) ∨ vget xs = ⟨0, 0, 2⟩ ∨ vget xs = ⟨0, 0, 3⟩ := by
  rcases vgo_tells xs 0 0 (by omega) with ⟨q, h1, h2, _, h4⟩ | h | h
  · refine .inl ⟨q, ?_, h2, by simpa using h4⟩
    unfold vget
    rw [h1]
    simp
  · exact .inr (.inl h)
  · exact .inr (.inr h)

theorem uvarint_mono (b : Nat) : ∀ a : Nat, a ≤ b → (uvarint a).length ≤ (uvarint b).length := by
  induction b using Nat.strongRecOn with
  | ind b ih =>
    intro a h
    by_cases ha : a < 128
    · rw [uvarint_small ha]; exact uvarint_pos b
    · rw [uvarint_big (x := a) (by omega), uvarint_big (x := b) (by omega), List.length_cons, List.length_cons]
      have := ih (b / 128) (by omega) (a / 128) (by omega)
      omega
/-- No varint begins another one. -/
theorem uvarint_alone {a b : Nat} (ha : a < 18446744073709551616) (hb : b < 18446744073709551616) (h : uvarint a = (uvarint b).take (uvarint a).length) : a = b := by
  have h1 := vget_put a ha ((uvarint b).drop (uvarint a).length)
  have h2 := vget_put b hb []
  rw [List.append_nil] at h2
  have h3 : uvarint a ++ (uvarint b).drop (uvarint a).length = uvarint b := by
    rw [show uvarint a ++ (uvarint b).drop (uvarint a).length = (uvarint b).take (uvarint a).length ++ (uvarint b).drop (uvarint a).length from by rw [← h], List.take_append_drop]
  rw [h3, h2] at h1
  injection h1 with h1 _ _
  exact h1.symm
theorem uvarint_inj {a b : Nat} (ha : a < 18446744073709551616) (hb : b < 18446744073709551616) (h : uvarint a = uvarint b) : a = b :=
  uvarint_alone ha hb (by rw [h, List.take_length])

/-- Steps of a reading whose bytes lie at an index. -/
theorem vgo_at_end {xs : List UInt8} {k : Nat} (h : xs.length ≤ k) (i n : Nat) : vgo (xs.drop k) i n = ⟨0, 0, 2⟩ := by rw [List.drop_of_length_le h]; rfl
theorem drop_at {xs : List UInt8} {k : Nat} {x : UInt8} (h : xs[k]? = some x) : xs.drop k = x :: xs.drop (k + 1) := by
  obtain ⟨hk, e⟩ := List.getElem?_eq_some_iff.1 h
  rw [← e]; exact List.drop_eq_getElem_cons _
end Go.Proofs.Ytghocjigmcdobaa
