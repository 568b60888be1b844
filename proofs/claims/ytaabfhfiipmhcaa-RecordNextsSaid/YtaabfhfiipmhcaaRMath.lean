/-
  The mathematics of records: no program is spoken of here. A record, records in a row, what the reading of one comes to, and of all.
-/
import Derived.Test.YtaabfhfiipmhcaaCVarint
import Derived.Test.YtaabfhfiipmhcaaRSum
namespace Go.Proofs.Ytaabfhfiipmhcaa
open Go.Lib

/-- What a sum speaks of: the length, and the body. -/
def headOf (xs : List UInt8) : List UInt8 := uvarint xs.length ++ xs
/-- The sum of bytes, four bytes. -/
def tailOf (xs : List UInt8) : List UInt8 := dig (sumOn 0 xs) 4
/-- The record. -/
def recOf (xs : List UInt8) : List UInt8 := headOf xs ++ tailOf (headOf xs)
/-- Records in a row. -/
def rowOf : List (List UInt8) → List UInt8
  | [] => []
  | xs :: l => recOf xs ++ rowOf l

theorem tailOf_len (xs : List UInt8) : (tailOf xs).length = 4 := dig_length _ _
theorem headOf_len (xs : List UInt8) : (headOf xs).length = (uvarint xs.length).length + xs.length := by simp [headOf]
theorem recOf_len (xs : List UInt8) : (recOf xs).length = (uvarint xs.length).length + xs.length + 4 := by
  rw [recOf, List.length_append, headOf_len, tailOf_len]
theorem rowOf_append (l m : List (List UInt8)) : rowOf (l ++ m) = rowOf l ++ rowOf m := by
  induction l with
  | nil => rfl
  | cons x l ih => simp [rowOf, ih]
theorem rowOf_one (xs : List UInt8) : rowOf [xs] = recOf xs := by simp [rowOf]
theorem uvarint_max {n : Nat} (h : n ≤ 1048576) : (uvarint n).length ≤ 3 := by
  have := uvarint_mono 1048576 n h
  have e : (uvarint 1048576).length = 3 := by rw [uvarint_big (by omega), uvarint_big (by omega), uvarint_small (by omega)]; rfl
  omega
theorem rowOf_few : ∀ l : List (List UInt8), 5 * l.length ≤ (rowOf l).length
  | [] => Nat.le_refl _
  | xs :: l => by
    have := rowOf_few l
    have h := recOf_len xs
    have := uvarint_pos xs.length
    rw [rowOf, List.length_append, List.length_cons]
    omega
theorem rowOf_body : ∀ (l : List (List UInt8)) (xs : List UInt8), xs ∈ l → xs.length ≤ (rowOf l).length
  | x :: l, xs, h => by
    rw [rowOf, List.length_append, recOf_len]
    rcases List.mem_cons.1 h with rfl | h
    · omega
    · have := rowOf_body l xs h; omega
theorem rowOf_mono (l : List (List UInt8)) {i j : Nat} (h : i ≤ j) : (rowOf (l.take i)).length ≤ (rowOf (l.take j)).length := by
  have e : l.take j = l.take i ++ (l.drop i).take (j - i) := by
    rw [← List.take_add]; congr 1; omega
  rw [e, rowOf_append, List.length_append]
  omega
theorem rowOf_snoc {l : List (List UInt8)} {i : Nat} {xs : List UInt8} (h : l[i]? = some xs) : rowOf (l.take (i + 1)) = rowOf (l.take i) ++ recOf xs := by
  rw [List.take_add_one, h, rowOf_append, Option.toList_some, rowOf_one]

/-- What the reading of a record comes to: the body, the record's bytes, the error. -/
structure NX where
  body : List UInt8
  n : Nat
  e : Nat

def nextOf (b : List UInt8) : NX :=
  if (vget b).e ≠ 0 then ⟨[], 0, (vget b).e⟩
  else if 1048576 < (vget b).n then ⟨[], 0, 4⟩
  else if b.length < (vget b).k + (vget b).n + 4 then ⟨[], 0, 2⟩
  else if tailOf (b.take ((vget b).k + (vget b).n)) ≠ (b.drop ((vget b).k + (vget b).n)).take 4 then ⟨[], 0, 8⟩
  else ⟨(b.drop (vget b).k).take (vget b).n, (vget b).k + (vget b).n + 4, 0⟩

section
variable {b : List UInt8}
theorem nextOf_1 (h : (vget b).e ≠ 0) : nextOf b = ⟨[], 0, (vget b).e⟩ := by unfold nextOf; rw [if_pos h]
theorem nextOf_2 (h : (vget b).e = 0) (h2 : 1048576 < (vget b).n) : nextOf b = ⟨[], 0, 4⟩ := by unfold nextOf; rw [if_neg (by omega), if_pos h2]
theorem nextOf_3 (h : (vget b).e = 0) (h2 : ¬ 1048576 < (vget b).n) (h3 : b.length < (vget b).k + (vget b).n + 4) : nextOf b = ⟨[], 0, 2⟩ := by
  unfold nextOf; rw [if_neg (by omega), if_neg h2, if_pos h3]
theorem nextOf_4 (h : (vget b).e = 0) (h2 : ¬ 1048576 < (vget b).n) (h3 : ¬ b.length < (vget b).k + (vget b).n + 4) (h4 : tailOf (b.take ((vget b).k + (vget b).n)) ≠ (b.drop ((vget b).k + (vget b).n)).take 4) : nextOf b = ⟨[], 0, 8⟩ := by
  unfold nextOf; rw [if_neg (by omega), if_neg h2, if_neg h3, if_pos h4]
theorem nextOf_5 (h : (vget b).e = 0) (h2 : ¬ 1048576 < (vget b).n) (h3 : ¬ b.length < (vget b).k + (vget b).n + 4) (h4 : tailOf (b.take ((vget b).k + (vget b).n)) = (b.drop ((vget b).k + (vget b).n)).take 4) :
    nextOf b = ⟨(b.drop (vget b).k).take (vget b).n, (vget b).k + (vget b).n + 4, 0⟩ := by
  unfold nextOf; rw [if_neg (by omega), if_neg h2, if_neg h3, if_neg (fun hne => hne h4)]
end

/-- A fine varint is what the bytes begin with. -/
theorem vget_fine {b : List UInt8} (h : (vget b).e = 0) : (vget b).k = (uvarint (vget b).n).length ∧ b.take (vget b).k = uvarint (vget b).n ∧ (vget b).n < 18446744073709551616 := by
  rcases vget_tells b with ⟨q, h1, h2, h3⟩ | h1 | h1
  · rw [h1]; exact ⟨rfl, h2, h3⟩
  · rw [h1] at h; cases h
  · rw [h1] at h; cases h
theorem vget_e (b : List UInt8) : (vget b).e ≤ 3 := by
  rcases vget_tells b with ⟨q, h1, h2, h3⟩ | h1 | h1 <;> rw [h1] <;> simp
theorem vget_k (b : List UInt8) : (vget b).k ≤ b.length := by
  rcases vget_tells b with ⟨q, h1, h2, h3⟩ | h1 | h1
  · rw [h1]
    have := congrArg List.length h2
    rw [List.length_take] at this
    show (uvarint q).length ≤ b.length
    omega
  · rw [h1]; simp
  · rw [h1]; simp

/-- The head of a record that stands there. -/
theorem head_there {b : List UInt8} (h : (vget b).e = 0) (h3 : (vget b).k + (vget b).n ≤ b.length) : headOf ((b.drop (vget b).k).take (vget b).n) = b.take ((vget b).k + (vget b).n) := by
  obtain ⟨h1, h2, _⟩ := vget_fine h
  have hl : ((b.drop (vget b).k).take (vget b).n).length = (vget b).n := by rw [List.length_take, List.length_drop]; omega
  rw [headOf, hl, List.take_add, ← h2]
/-- A record stands there just if its sum does. -/
theorem rec_there {b : List UInt8} (h : (vget b).e = 0) (h3 : (vget b).k + (vget b).n + 4 ≤ b.length) :
    recOf ((b.drop (vget b).k).take (vget b).n) = b.take ((vget b).k + (vget b).n + 4) ↔ tailOf (b.take ((vget b).k + (vget b).n)) = (b.drop ((vget b).k + (vget b).n)).take 4 := by
  rw [recOf, head_there h (by omega), List.take_add (i := (vget b).k + (vget b).n)]
  exact ⟨fun e => List.append_cancel_left e, fun e => by rw [e]⟩
/-- The sum as a number. -/
theorem sum_there (xs ys : List UInt8) (h : ys.length = 4) : num ys.reverse = sumOn 0 xs ↔ tailOf xs = ys := by
  have hs := sumOn_lt 0 xs (by decide)
  constructor
  · intro e
    rw [tailOf, ← e]
    have := dig_num ys
    rw [h] at this
    exact this
  · intro e
    rw [← e, tailOf, num_dig]
    exact Nat.mod_eq_of_lt (by simpa using hs)

theorem next_rec (xs more : List UInt8) (h : xs.length ≤ 1048576) : nextOf (recOf xs ++ more) = ⟨xs, (recOf xs).length, 0⟩ := by
  have e : recOf xs ++ more = uvarint xs.length ++ (xs ++ (tailOf (headOf xs) ++ more)) := by simp [recOf, headOf]
  have hv : vget (recOf xs ++ more) = ⟨xs.length, (uvarint xs.length).length, 0⟩ := by rw [e]; exact vget_put _ (by omega) _
  have e2 : recOf xs ++ more = headOf xs ++ (tailOf (headOf xs) ++ more) := by simp [recOf]
  have ht := tailOf_len (headOf xs)
  rw [nextOf_5 (by rw [hv]) (by rw [hv]; simp; omega) (by rw [hv, List.length_append, recOf_len]; simp <;> omega)]
  · rw [hv]
    show (⟨((recOf xs ++ more).drop (uvarint xs.length).length).take xs.length, (uvarint xs.length).length + xs.length + 4, 0⟩ : NX) = _
    rw [recOf_len, e, List.drop_left, List.take_left]
  · rw [hv]
    show tailOf ((recOf xs ++ more).take ((uvarint xs.length).length + xs.length)) = ((recOf xs ++ more).drop ((uvarint xs.length).length + xs.length)).take 4
    rw [← headOf_len, e2, List.take_left, List.drop_left, List.take_append_of_le_length (by omega), List.take_of_length_le (by omega)]
theorem next_cut (xs : List UInt8) (h : xs.length ≤ 1048576) (k : Nat) (hk : k < (recOf xs).length) : nextOf ((recOf xs).take k) = ⟨[], 0, 2⟩ := by
  have e : recOf xs = uvarint xs.length ++ (xs ++ tailOf (headOf xs)) := by simp [recOf, headOf]
  by_cases hu : k < (uvarint xs.length).length
  · have hv : vget ((recOf xs).take k) = ⟨0, 0, 2⟩ := by
      rw [e, List.take_append_of_le_length (by omega)]
      exact vget_cut _ (by omega) k hu
    rw [nextOf_1 (by rw [hv]; simp), hv]
  · have hv : vget ((recOf xs).take k) = ⟨xs.length, (uvarint xs.length).length, 0⟩ := by
      rw [e, List.take_append, List.take_of_length_le (by omega)]
      exact vget_put _ (by omega) _
    refine nextOf_3 (by rw [hv]) (by rw [hv]; simp; omega) ?_
    rw [hv, List.length_take]
    rw [recOf_len] at hk
    rw [recOf_len]
    show min k _ < (uvarint xs.length).length + xs.length + 4
    omega

/-- What is read is a record that stands there. -/
theorem next_ok {b : List UInt8} (h : (nextOf b).e = 0) : b.take (nextOf b).n = recOf (nextOf b).body ∧ (nextOf b).n = (recOf (nextOf b).body).length ∧ (nextOf b).n ≤ b.length ∧ (nextOf b).body.length ≤ 1048576 := by
  by_cases h1 : (vget b).e = 0
  · by_cases h2 : 1048576 < (vget b).n
    · rw [nextOf_2 h1 h2] at h; cases h
    · by_cases h3 : b.length < (vget b).k + (vget b).n + 4
      · rw [nextOf_3 h1 h2 h3] at h; cases h
      · by_cases h4 : tailOf (b.take ((vget b).k + (vget b).n)) = (b.drop ((vget b).k + (vget b).n)).take 4
        · rw [nextOf_5 h1 h2 h3 h4]
          have h5 := (rec_there h1 (by omega)).2 h4
          refine ⟨h5.symm, ?_, ?_, ?_⟩
          · show (vget b).k + (vget b).n + 4 = (recOf ((b.drop (vget b).k).take (vget b).n)).length
            rw [h5, List.length_take]; omega
          · show (vget b).k + (vget b).n + 4 ≤ b.length
            omega
          · show ((b.drop (vget b).k).take (vget b).n).length ≤ 1048576
            rw [List.length_take]; omega
        · rw [nextOf_4 h1 h2 h3 h4] at h; cases h
  · rw [nextOf_1 h1] at h; exact absurd h h1
theorem next_bad {b : List UInt8} (h : (nextOf b).e ≠ 0) : nextOf b = ⟨[], 0, (nextOf b).e⟩ := by
  by_cases h1 : (vget b).e = 0
  · by_cases h2 : 1048576 < (vget b).n
    · rw [nextOf_2 h1 h2]
    · by_cases h3 : b.length < (vget b).k + (vget b).n + 4
      · rw [nextOf_3 h1 h2 h3]
      · by_cases h4 : tailOf (b.take ((vget b).k + (vget b).n)) = (b.drop ((vget b).k + (vget b).n)).take 4
        · rw [nextOf_5 h1 h2 h3 h4] at h; exact absurd rfl h
        · rw [nextOf_4 h1 h2 h3 h4]
  · rw [nextOf_1 h1]

/-- What the reading of all records comes to. -/
structure AL where
  l : List (List UInt8)
  n : Nat
  e : Nat
def allGo : Nat → List UInt8 → AL
  | 0, _ => ⟨[], 0, 0⟩
  | f + 1, b => if b = [] then ⟨[], 0, 0⟩ else if (nextOf b).e ≠ 0 then ⟨[], 0, (nextOf b).e⟩ else ⟨(nextOf b).body :: (allGo f (b.drop (nextOf b).n)).l, (nextOf b).n + (allGo f (b.drop (nextOf b).n)).n, (allGo f (b.drop (nextOf b).n)).e⟩
def allOf (b : List UInt8) : AL := allGo b.length b

theorem next_pos {b : List UInt8} (h : (nextOf b).e = 0) : 5 ≤ (nextOf b).n := by
  obtain ⟨_, h2, _⟩ := next_ok h
  have := recOf_len (nextOf b).body
  have := uvarint_pos (nextOf b).body.length
  omega
theorem allGo_fuel : ∀ (f g : Nat) (b : List UInt8), b.length ≤ f → b.length ≤ g → allGo f b = allGo g b
  | 0, 0, _, _, _ => rfl
  | 0, g + 1, b, h, _ => by
    obtain rfl : b = [] := List.eq_nil_of_length_eq_zero (by omega)
    rfl
  | f + 1, 0, b, _, h => by
    obtain rfl : b = [] := List.eq_nil_of_length_eq_zero (by omega)
    rfl
  | f + 1, g + 1, b, h1, h2 => by
    by_cases h0 : b = []
    · subst h0; rfl
    · by_cases he : (nextOf b).e = 0
      · have hp := next_pos he
        have hl : 0 < b.length := List.length_pos_iff.2 h0
        have ih := allGo_fuel f g (b.drop (nextOf b).n) (by rw [List.length_drop]; omega) (by rw [List.length_drop]; omega)
        simp only [allGo]
        rw [ih]
      · simp only [allGo]
        rw [if_neg h0, if_neg h0, if_pos he, if_pos he]
theorem allOf_nil : allOf [] = ⟨[], 0, 0⟩ := rfl
theorem allOf_bad {b : List UInt8} (h0 : b ≠ []) (h : (nextOf b).e ≠ 0) : allOf b = ⟨[], 0, (nextOf b).e⟩ := by
  have hl : 0 < b.length := List.length_pos_iff.2 h0
  obtain ⟨f, hf⟩ : ∃ f, b.length = f + 1 := ⟨b.length - 1, by omega⟩
  unfold allOf
  rw [hf]
  simp only [allGo]
  rw [if_neg h0, if_pos h]
theorem allOf_more {b : List UInt8} (h0 : b ≠ []) (h : (nextOf b).e = 0) :
    allOf b = ⟨(nextOf b).body :: (allOf (b.drop (nextOf b).n)).l, (nextOf b).n + (allOf (b.drop (nextOf b).n)).n, (allOf (b.drop (nextOf b).n)).e⟩ := by
  have hl : 0 < b.length := List.length_pos_iff.2 h0
  have hp := next_pos h
  obtain ⟨f, hf⟩ : ∃ f, b.length = f + 1 := ⟨b.length - 1, by omega⟩
  have e := allGo_fuel f (b.drop (nextOf b).n).length (b.drop (nextOf b).n) (by rw [List.length_drop]; omega) (Nat.le_refl _)
  unfold allOf
  rw [hf]
  simp only [allGo]
  rw [if_neg h0, if_neg (by omega), e]

/-- All that is read stands there, in a row. -/
theorem all_back : ∀ (f : Nat) (b : List UInt8), b.length ≤ f → rowOf (allOf b).l = b.take (allOf b).n ∧ (allOf b).n ≤ b.length ∧ ((allOf b).e = 0 ↔ (allOf b).n = b.length) ∧ ∀ xs ∈ (allOf b).l, xs.length ≤ 1048576
  | f, [], _ => by rw [allOf_nil]; exact ⟨rfl, Nat.le_refl _, ⟨fun _ => rfl, fun _ => rfl⟩, fun xs h => by cases h⟩
  | 0, _ :: _, h => by simp at h
  | f + 1, x :: xs, h => by
    obtain ⟨b, hb⟩ : ∃ b, x :: xs = b := ⟨_, rfl⟩
    have h0 : b ≠ [] := by rw [← hb]; simp
    rw [hb] at h ⊢
    clear hb
    have hl : 0 < b.length := List.length_pos_iff.2 h0
    by_cases he : (nextOf b).e = 0
    · obtain ⟨h1, h2, h3, h4⟩ := next_ok he
      have hp := next_pos he
      obtain ⟨i1, i2, i3, i4⟩ := all_back f (b.drop (nextOf b).n) (by rw [List.length_drop]; omega)
      rw [allOf_more h0 he]
      rw [List.length_drop] at i2 i3
      refine ⟨?_, by show (nextOf b).n + _ ≤ _; omega, ?_, ?_⟩
      · show recOf _ ++ rowOf _ = _
        rw [i1, ← h1, ← List.take_add]
      · show _ ↔ (nextOf b).n + _ = _
        rw [i3]
        omega
      · intro ys hy
        rcases List.mem_cons.1 hy with rfl | hy
        · exact h4
        · exact i4 ys hy
    · rw [allOf_bad h0 he]
      exact ⟨rfl, Nat.zero_le _, ⟨fun e => absurd e he, fun e => by have e : 0 = b.length := e; omega⟩, fun xs h => by cases h⟩

/-- Records in a row, cut off anywhere. -/
theorem all_cut : ∀ (l : List (List UInt8)) (k : Nat), (∀ xs ∈ l, xs.length ≤ 1048576) → k ≤ (rowOf l).length →
    ∃ j, j ≤ l.length ∧ (rowOf (l.take j)).length ≤ k ∧ (j < l.length → k < (rowOf (l.take (j + 1))).length) ∧ allOf ((rowOf l).take k) = ⟨l.take j, (rowOf (l.take j)).length, if (rowOf (l.take j)).length = k then 0 else 2⟩
  | [], k, _, hk => by
    have : k = 0 := by simpa [rowOf] using hk
    subst this
    exact ⟨0, Nat.le_refl _, Nat.le_refl _, fun h => absurd h (by simp), by rw [List.take_zero, allOf_nil]; rfl⟩
  | xs :: l, k, hm, hk => by
    have hx := hm xs (List.mem_cons_self ..)
    by_cases hlt : k < (recOf xs).length
    · refine ⟨0, Nat.zero_le _, by simp [rowOf], fun _ => by rw [List.take_succ_cons, List.take_zero, rowOf_one]; exact hlt, ?_⟩
      have e : (rowOf (xs :: l)).take k = (recOf xs).take k := by rw [rowOf, List.take_append_of_le_length (by omega)]
      rw [e]
      rcases Nat.eq_zero_or_pos k with h0 | h0
      · subst h0
        rw [List.take_zero, allOf_nil]
        rfl
      · have hc := next_cut xs hx k hlt
        have hne : (recOf xs).take k ≠ [] := fun e0 => by have := congrArg List.length e0; rw [List.length_take, List.length_nil] at this; omega
        rw [allOf_bad hne (by rw [hc]; simp), hc]
        have hk0 : ¬ (rowOf ((xs :: l).take 0)).length = k := by rw [List.take_zero]; simp [rowOf]; omega
        rw [if_neg hk0]
        rfl
    · have hk2 : k - (recOf xs).length ≤ (rowOf l).length := by rw [rowOf, List.length_append] at hk; omega
      obtain ⟨j, j1, j2, j3, j4⟩ := all_cut l (k - (recOf xs).length) (fun ys hy => hm ys (List.mem_cons_of_mem _ hy)) hk2
      have e : (rowOf (xs :: l)).take k = recOf xs ++ (rowOf l).take (k - (recOf xs).length) := by
        rw [rowOf, List.take_append, List.take_of_length_le (by omega)]
      have hn := next_rec xs ((rowOf l).take (k - (recOf xs).length)) hx
      have hne : recOf xs ++ (rowOf l).take (k - (recOf xs).length) ≠ [] := fun e0 => by
        have := congrArg List.length e0
        rw [List.length_append, recOf_len] at this
        simp at this
      refine ⟨j + 1, by rw [List.length_cons]; omega, ?_, ?_, ?_⟩
      · rw [List.take_succ_cons, rowOf, List.length_append]; omega
      · intro hj
        have := j3 (by rw [List.length_cons] at hj; omega)
        rw [List.take_succ_cons, rowOf, List.length_append]; omega
      · rw [e, allOf_more hne (by rw [hn]), hn]
        show (⟨xs :: (allOf ((recOf xs ++ (rowOf l).take (k - (recOf xs).length)).drop (recOf xs).length)).l, (recOf xs).length + (allOf ((recOf xs ++ (rowOf l).take (k - (recOf xs).length)).drop (recOf xs).length)).n, (allOf ((recOf xs ++ (rowOf l).take (k - (recOf xs).length)).drop (recOf xs).length)).e⟩ : AL) = _
        rw [List.drop_left, j4, List.take_succ_cons, rowOf, List.length_append]
        by_cases hq : (rowOf (l.take j)).length = k - (recOf xs).length
        · rw [if_pos hq, if_pos (by omega)]
        · rw [if_neg hq, if_neg (by omega)]

theorem mul_xor_two (a b k : Nat) : (a ^^^ b) * 2 ^ k = a * 2 ^ k ^^^ b * 2 ^ k := by
  apply Nat.eq_of_testBit_eq
  intro i
  simp only [Nat.testBit_xor, Nat.testBit_mul_two_pow]
  by_cases h : k ≤ i <;> simp [h]
theorem leOf_append : ∀ (xs ys : List UInt8), leOf (xs ++ ys) = leOf xs ^^^ leOf ys * 2 ^ (8 * xs.length)
  | [], ys => by simp [leOf]
  | x :: xs, ys => by
    rw [List.cons_append, leOf_cons, leOf_cons, leOf_append xs ys, mul_xor256, ← Nat.xor_assoc, List.length_cons, show 8 * (xs.length + 1) = 8 * xs.length + 8 by omega, Nat.pow_add, ← Nat.mul_assoc]
/-- A record of whose body up to 32 bits side by side are turned. -/
theorem next_burst (xs ys : List UInt8) (K t : Nat) (h : xs.length ≤ 1048576) (hl : ys.length = xs.length) (hk : K + 32 ≤ 8 * xs.length) (ht : t < 4294967296) (h0 : 0 < t) (he : leOf ys = leOf xs ^^^ t * 2 ^ K) :
    nextOf (uvarint xs.length ++ ys ++ tailOf (headOf xs)) = ⟨[], 0, 8⟩ := by
  have hv : vget (uvarint xs.length ++ ys ++ tailOf (headOf xs)) = ⟨xs.length, (uvarint xs.length).length, 0⟩ := by rw [List.append_assoc]; exact vget_put _ (by omega) _
  have ht4 := tailOf_len (headOf xs)
  refine nextOf_4 (by rw [hv]) (by rw [hv]; simp; omega) (by rw [hv]; simp [ht4]; omega) ?_
  rw [hv]
  show tailOf ((uvarint xs.length ++ ys ++ tailOf (headOf xs)).take ((uvarint xs.length).length + xs.length)) ≠ ((uvarint xs.length ++ ys ++ tailOf (headOf xs)).drop ((uvarint xs.length).length + xs.length)).take 4
  have hlen : (uvarint xs.length ++ ys).length = (uvarint xs.length).length + xs.length := by rw [List.length_append, hl]
  rw [← hlen, List.take_left, List.drop_left, List.take_of_length_le (by omega)]
  have hle : leOf (uvarint xs.length ++ ys) = leOf (headOf xs) ^^^ t * 2 ^ (8 * (uvarint xs.length).length + K) := by
    rw [headOf, leOf_append, leOf_append, he, mul_xor_two, Nat.mul_assoc, ← Nat.pow_add, Nat.add_comm K, Nat.xor_assoc]
  have hb := sum_burst (headOf xs) (uvarint xs.length ++ ys) _ t (by rw [hlen, headOf_len]) (by rw [headOf_len]; omega) ht h0 hle
  intro e
  unfold tailOf at e
  have e2 := congrArg (fun l => num l.reverse) e
  simp only [num_dig] at e2
  have s1 := sumOn_lt 0 (headOf xs) (by decide)
  have s2 := sumOn_lt 0 (uvarint xs.length ++ ys) (by decide)
  rw [Nat.mod_eq_of_lt (by simpa using s2), Nat.mod_eq_of_lt (by simpa using s1)] at e2
  exact hb e2
end Go.Proofs.Ytaabfhfiipmhcaa
