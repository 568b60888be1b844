/-
  The mathematics of checksums of the internet: no program is spoken of here. Words of 16 bits, added in a ring: the ring's sum is the plain sum's representative from 1 to 65535 (0 of nothing but noughts).
-/
import Derived.Lib.Zigzag
namespace Go.Proofs.Ytgjjepcjdekihaa

/-- The representative in the ring: 0 of 0 alone, else from 1 to 65535. -/
def nrm (n : Nat) : Nat := if n = 0 then 0 else (n - 1) % 65535 + 1
theorem nrm_0 : nrm 0 = 0 := rfl
theorem nrm_pos {n : Nat} (h : 0 < n) : nrm n = (n - 1) % 65535 + 1 := by unfold nrm; rw [if_neg (by omega)]
theorem nrm_le (n : Nat) : nrm n ≤ 65535 := by unfold nrm; split <;> omega
theorem nrm_small {n : Nat} (h : n ≤ 65535) : nrm n = n := by unfold nrm; split <;> omega
theorem nrm_eq_zero {n : Nat} : nrm n = 0 ↔ n = 0 := by unfold nrm; split <;> omega
theorem nrm_add (a b : Nat) : nrm (nrm a + b) = nrm (a + b) := by
  unfold nrm
  by_cases ha : a = 0
  · subst ha; rfl
  · rw [if_neg ha]
    rw [if_neg (by omega), if_neg (by omega)]
    omega
theorem nrm_add' (a b : Nat) : nrm (a + nrm b) = nrm (a + b) := by rw [Nat.add_comm, nrm_add, Nat.add_comm]
theorem nrm_more {n : Nat} (h : 0 < n) (k : Nat) : nrm (n + 65535 * k) = nrm n := by
  rw [nrm_pos h, nrm_pos (by omega)]
  omega
theorem nrm_less {n : Nat} (h : 65535 < n) : nrm (n - 65535) = nrm n := by
  have h1 := nrm_more (n := n - 65535) (by omega) 1
  rw [show n - 65535 + 65535 * 1 = n by omega] at h1
  exact h1.symm
/-- What goes beyond 16 bits, added again at the lowest bit. -/
theorem nrm_fold (n : Nat) : nrm (n % 65536 + n / 65536) = nrm n := by
  have e : n = (n % 65536 + n / 65536) + 65535 * (n / 65536) := by omega
  by_cases h : n = 0
  · subst h; rfl
  · conv => rhs; rw [e]
    exact (nrm_more (by omega) _).symm

/-- Two numbers added in a ring. -/
def ring (a b : Nat) : Nat := if 65535 < a + b then a + b - 65535 else a + b
theorem ring_nrm {a b : Nat} (ha : a ≤ 65535) (hb : b ≤ 65535) : ring a b = nrm (a + b) := by
  unfold ring
  split
  · rw [← nrm_less (by omega), nrm_small (by omega)]
  · rw [nrm_small (by omega)]
theorem ring_le {a b : Nat} (ha : a ≤ 65535) (hb : b ≤ 65535) : ring a b ≤ 65535 := by rw [ring_nrm ha hb]; exact nrm_le _

/-- The words of bytes. -/
def wordsOf : List UInt8 → List Nat
  | [] => []
  | [x] => [256 * x.toNat]
  | x :: y :: r => (256 * x.toNat + y.toNat) :: wordsOf r
/-- The plain sum of bytes at even and odd places: `odd` tells of which kind the first one's place is. -/
def wsum : Bool → List UInt8 → Nat
  | _, [] => 0
  | odd, x :: xs => (if odd then x.toNat else 256 * x.toNat) + wsum (!odd) xs
/-- Is a place behind so many bytes odd, where the first one was of kind o? -/
def turnOdd (o : Bool) (n : Nat) : Bool := if n % 2 = 1 then !o else o

theorem wordsOf_sum : ∀ xs : List UInt8, (wordsOf xs).sum = wsum false xs
  | [] => rfl
  | [x] => by simp [wordsOf, wsum]
  | x :: y :: r => by
    have ih := wordsOf_sum r
    simp only [wordsOf, List.sum_cons, wsum, Bool.not_false, Bool.not_true]
    rw [ih]
    simp
    omega
theorem wordsOf_length : ∀ xs : List UInt8, (wordsOf xs).length = (xs.length + 1) / 2
  | [] => rfl
  | [x] => by simp [wordsOf]
  | x :: y :: r => by
    have ih := wordsOf_length r
    simp only [wordsOf, List.length_cons]
    omega
theorem wordsOf_le : ∀ (xs : List UInt8) (w : Nat), w ∈ wordsOf xs → w ≤ 65535
  | [], w, h => by cases h
  | [x], w, h => by
    have := x.toNat_lt
    simp [wordsOf] at h
    omega
  | x :: y :: r, w, h => by
    have := x.toNat_lt
    have := y.toNat_lt
    simp only [wordsOf, List.mem_cons] at h
    rcases h with h | h
    · omega
    · exact wordsOf_le r w h
theorem wordsOf_append : ∀ (xs ys : List UInt8), xs.length % 2 = 0 → wordsOf (xs ++ ys) = wordsOf xs ++ wordsOf ys
  | [], ys, _ => rfl
  | [x], ys, h => by simp at h
  | x :: y :: r, ys, h => by
    simp only [List.cons_append, wordsOf]
    rw [wordsOf_append r ys (by simp at h; omega)]
theorem turnOdd_succ (o : Bool) (n : Nat) : turnOdd o (n + 1) = turnOdd (!o) n := by
  unfold turnOdd
  rcases Nat.mod_two_eq_zero_or_one n with h | h
  · rw [if_pos (by omega), if_neg (by omega)]
  · rw [if_neg (by omega), if_pos (by omega)]
    simp
theorem turnOdd_add (o : Bool) (m n : Nat) : turnOdd o (m + n) = turnOdd (turnOdd o m) n := by
  induction m generalizing o with
  | zero => simp [turnOdd]
  | succ m ih => rw [show m + 1 + n = (m + n) + 1 by omega, turnOdd_succ, ih, turnOdd_succ]
theorem wsum_append (xs ys : List UInt8) : ∀ o : Bool, wsum o (xs ++ ys) = wsum o xs + wsum (turnOdd o xs.length) ys := by
  induction xs with
  | nil => intro o; simp [wsum, turnOdd]
  | cons x xs ih =>
    intro o
    rw [List.cons_append, List.length_cons, turnOdd_succ]
    simp only [wsum]
    rw [ih]
    omega
theorem wsum_le (xs : List UInt8) : ∀ o : Bool, wsum o xs ≤ 65280 * xs.length := by
  induction xs with
  | nil => intro o; simp [wsum]
  | cons x xs ih =>
    intro o
    have h1 := ih (!o)
    have h2 := x.toNat_lt
    rw [List.length_cons]
    simp only [wsum]
    cases o <;> simp at h1 ⊢ <;> omega
theorem wsum_zero (xs : List UInt8) : ∀ o : Bool, wsum o xs = 0 ↔ ∀ x ∈ xs, x = 0 := by
  induction xs with
  | nil => intro o; simp [wsum]
  | cons x xs ih =>
    intro o
    simp only [wsum, List.mem_cons, forall_eq_or_imp]
    rw [Nat.add_eq_zero_iff, ih (!o)]
    have : (if o = true then x.toNat else 256 * x.toNat) = 0 ↔ x = 0 := by
      constructor
      · intro h
        have h' : x.toNat = 0 := by
          cases o
          · have h1 : 256 * x.toNat = 0 := h
            omega
          · exact h
        apply UInt8.toNat_inj.1
        rw [h']
        rfl
      · intro h
        subst h
        cases o <;> simp
    rw [this]

/-- The ring's sum of bytes, and the checksum. -/
def rsumOf (xs : List UInt8) : Nat := nrm (wsum false xs)
def ckOf (xs : List UInt8) : Nat := 65535 - rsumOf xs
theorem ckOf_le (xs : List UInt8) : ckOf xs ≤ 65535 := Nat.sub_le _ _
theorem ckOf_zero (xs : List UInt8) : ckOf xs = 0 ↔ rsumOf xs = 65535 := by
  have := nrm_le (wsum false xs)
  unfold ckOf rsumOf
  omega
/-- Words, added in a ring one behind the other. -/
theorem ring_fold (l : List Nat) : ∀ n : Nat, n ≤ 65535 → (∀ w ∈ l, w ≤ 65535) → l.foldl ring n = nrm (n + l.sum) := by
  induction l with
  | nil => intro n hn _; simp [nrm_small hn]
  | cons w l ih =>
    intro n hn hl
    have hw := hl w (List.mem_cons_self ..)
    rw [List.foldl_cons, ih _ (ring_le hn hw) (fun x hx => hl x (List.mem_cons_of_mem _ hx)), ring_nrm hn hw, nrm_add, List.sum_cons, Nat.add_assoc]
theorem ring_words (xs : List UInt8) : (wordsOf xs).foldl ring 0 = rsumOf xs := by
  rw [ring_fold _ 0 (by omega) (fun w hw => wordsOf_le xs w hw), Nat.zero_add, wordsOf_sum]
  rfl
/-- Bytes with their checksum behind an even count of them are right. -/
theorem ck_right (xs : List UInt8) (h : xs.length % 2 = 0) (x y : UInt8) (hc : 256 * x.toNat + y.toNat = ckOf xs) : ckOf (xs ++ [x, y]) = 0 := by
  have e : wsum false (xs ++ [x, y]) = wsum false xs + ckOf xs := by
    rw [wsum_append, show turnOdd false xs.length = false from if_neg (by omega), ← hc]
    simp [wsum]
  have hle := nrm_le (wsum false xs)
  rw [ckOf_zero]
  unfold rsumOf
  rw [e, ← nrm_add, ckOf, rsumOf, nrm_small (by omega)]
  omega

/-- A checksum changed from word m to word n. -/
def chg (c m n : Nat) : Nat := 65535 - ring (ring (65535 - c) (65535 - m)) n
theorem chg_nrm {c m n : Nat} (hn : n ≤ 65535) : chg c m n = 65535 - nrm ((65535 - c) + (65535 - m) + n) := by
  unfold chg
  rw [ring_nrm (ring_le (by omega) (by omega)) hn, ring_nrm (by omega) (by omega), nrm_add]
theorem chg_le (c m n : Nat) : chg c m n ≤ 65535 := Nat.sub_le _ _
/-- Changed along words. -/
def chgs : Nat → List Nat → List Nat → Nat
  | c, m :: ms, n :: ns => chgs (chg c m n) ms ns
  | c, _, _ => c
theorem chgs_nrm : ∀ (ms ns : List Nat) (c : Nat), c ≤ 65535 → (∀ n ∈ ns, n ≤ 65535) → (∀ m ∈ ms, m ≤ 65535) → ms.length = ns.length →
    chgs c ms ns = 65535 - nrm ((65535 - c) + (65535 * ms.length - ms.sum) + ns.sum) ∧ ms.sum ≤ 65535 * ms.length
  | [], [], c, hc, _, _, _ => by
    refine ⟨?_, by simp⟩
    have e : 65535 - c + (65535 * ([] : List Nat).length - ([] : List Nat).sum) + ([] : List Nat).sum = 65535 - c := by simp
    rw [e, nrm_small (by omega)]
    show c = _
    omega
  | [], _ :: _, _, _, _, _, h => by simp at h
  | _ :: _, [], _, _, _, _, h => by simp at h
  | m :: ms, n :: ns, c, hc, hn, hm, h => by
    have hn0 := hn n (List.mem_cons_self ..)
    have hm0 := hm m (List.mem_cons_self ..)
    obtain ⟨h1, h2⟩ := chgs_nrm ms ns (chg c m n) (chg_le _ _ _) (fun x hx => hn x (List.mem_cons_of_mem _ hx)) (fun x hx => hm x (List.mem_cons_of_mem _ hx)) (by simpa using h)
    have hq := nrm_le ((65535 - c) + (65535 - m) + n)
    simp only [List.length_cons, List.sum_cons]
    refine ⟨?_, by omega⟩
    simp only [chgs]
    rw [h1, chg_nrm hn0, show 65535 - (65535 - nrm ((65535 - c) + (65535 - m) + n)) = nrm ((65535 - c) + (65535 - m) + n) by omega, Nat.add_assoc, nrm_add]
    congr 2
    omega
/-- The checksum that is changed along with bytes is the one of these, if not all of them are 0. -/
theorem chgs_new (a fr to be : List UInt8) (ha : a.length % 2 = 0) (hf : fr.length % 2 = 0) (hl : to.length = fr.length) (h0 : 0 < wsum false (a ++ to ++ be)) :
    chgs (ckOf (a ++ fr ++ be)) (wordsOf fr) (wordsOf to) = ckOf (a ++ to ++ be) := by
  have e1 : wsum false (a ++ fr ++ be) = wsum false a + wsum false fr + wsum false be := by
    rw [wsum_append, wsum_append, List.length_append, show turnOdd false a.length = false from if_neg (by omega), show turnOdd false (a.length + fr.length) = false from if_neg (by omega)]
  have e2 : wsum false (a ++ to ++ be) = wsum false a + wsum false to + wsum false be := by
    rw [wsum_append, wsum_append, List.length_append, show turnOdd false a.length = false from if_neg (by omega), show turnOdd false (a.length + to.length) = false from if_neg (by omega)]
  have hlen : (wordsOf fr).length = (wordsOf to).length := by rw [wordsOf_length, wordsOf_length, hl]
  obtain ⟨h1, h2⟩ := chgs_nrm (wordsOf fr) (wordsOf to) (ckOf (a ++ fr ++ be)) (ckOf_le _) (wordsOf_le to) (wordsOf_le fr) hlen
  rw [h1]
  have hle := nrm_le (wsum false (a ++ fr ++ be))
  have hc : 65535 - ckOf (a ++ fr ++ be) = nrm (wsum false (a ++ fr ++ be)) := by unfold ckOf rsumOf; omega
  rw [hc, Nat.add_assoc, nrm_add, e1, wordsOf_sum, wordsOf_sum]
  rw [wordsOf_sum] at h2
  unfold ckOf rsumOf
  rw [e2] at h0 ⊢
  have e3 : wsum false a + wsum false fr + wsum false be + (65535 * (wordsOf fr).length - wsum false fr + wsum false to) = (wsum false a + wsum false to + wsum false be) + 65535 * (wordsOf fr).length := by omega
  rw [e3, nrm_more h0]
/-- A checksum of a sum that isn't 0, changed from a word to the same, or to another and back. -/
theorem chg_same {c m : Nat} (hc : c < 65535) (hm : m ≤ 65535) : chg c m m = c := by
  rw [chg_nrm hm, show (65535 - c) + (65535 - m) + m = (65535 - c) + 65535 * 1 by omega, nrm_more (by omega), nrm_small (by omega)]
  omega
theorem chg_back {c m n : Nat} (hc : c ≤ 65535) (hm : m ≤ 65535) (hn : n ≤ 65535) (h0 : 0 < (65535 - c) + (65535 - m) + n + (65535 - n) + m - 65535 * 2 ∨ c < 65535) : chg (chg c m n) n m = c := by
  have hq := nrm_le ((65535 - c) + (65535 - m) + n)
  rw [chg_nrm hm, chg_nrm hn, show 65535 - (65535 - nrm ((65535 - c) + (65535 - m) + n)) = nrm ((65535 - c) + (65535 - m) + n) by omega, Nat.add_assoc, nrm_add]
  rw [show (65535 - c) + (65535 - m) + n + (65535 - n + m) = (65535 - c) + 65535 * 2 by omega, nrm_more (by omega), nrm_small (by omega)]
  omega
theorem ck_lt {xs : List UInt8} (h : 0 < wsum false xs) : ckOf xs < 65535 := by
  have : nrm (wsum false xs) ≠ 0 := fun e => by have := nrm_eq_zero.1 e; omega
  unfold ckOf rsumOf
  omega
end Go.Proofs.Ytgjjepcjdekihaa
