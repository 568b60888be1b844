/-
  Plain mathematics of stage 20: flags of TCP, states of flows, ticks. No program is walked here.
-/
import Derived.Test.YtljmegmklfohjaaQB
namespace Go.Proofs.Ytljmegmklfohjaa
open Go.RowKit Go.Lib

/-- The lowest six bits. -/
def fl (z : Int) : Nat := (z % 64).toNat
theorem fl_lt (z : Int) : fl z < 64 := by unfold fl; omega
/-- Is the flag of this weight among them? -/
def bitB (z : Int) (w : Nat) : Bool := decide (fl z / w % 2 = 1)
def opB (z : Int) : Bool := bitB z 2 && !bitB z 16
/-- The state that begins; the state behind flags. -/
def stB (p z : Int) : Int := if p = 17 then 5 else if p ≠ 6 then 0 else if bitB z 4 = true then 4 else if bitB z 1 = true then 3 else if opB z = true then 1 else 2
def stN (s z : Int) : Int := if s = 5 then 5 else if s < 1 ∨ 5 < s then 0 else if bitB z 4 = true then 4 else if s = 4 then (if opB z = true then 1 else 4) else if s = 3 ∨ bitB z 1 = true then 3 else if s = 1 ∧ bitB z 16 = true ∧ bitB z 2 = false then 2 else s
def stR (s : Int) (l : List Int) : Int := l.foldl stN s
theorem stR_app (s : Int) (l m : List Int) : stR s (l ++ m) = stR (stR s l) m := List.foldl_append
theorem stR_succ {s : Int} {l : List Int} {k : Nat} {z : Int} (h : l[k]? = some z) : stR s (l.take (k + 1)) = stN (stR s (l.take k)) z := by
  rw [List.take_add_one, h]
  exact stR_app s _ _
def tickZ (n : Int) : Int := if n < 0 then 0 else if 1099511627776 < n then 1099511627776 else n
theorem tickZ_range (n : Int) : 0 ≤ tickZ n ∧ tickZ n ≤ 1099511627776 := by
  unfold tickZ
  split
  · omega
  · split
    · omega
    · omega
theorem tickZ_mono {a b : Int} (h : a ≤ b) : tickZ a ≤ tickZ b := by
  unfold tickZ
  repeat' split
  all_goals omega
/-- Is it stale? idle: six numbers. -/
def staleB (s seen now : Int) (l : List Int) : Bool := if s < 1 ∨ 5 < s then true else decide (l.getD s.toNat 0 < tickZ now - tickZ seen)
theorem staleB_out {s : Int} (h : s < 1 ∨ 5 < s) (seen now : Int) (l : List Int) : staleB s seen now l = true := by unfold staleB; rw [if_pos h]
theorem staleB_in {s : Int} (h : ¬ (s < 1 ∨ 5 < s)) (seen now : Int) {l : List Int} {x : Int} (hx : l[s.toNat]? = some x) : staleB s seen now l = decide (x < tickZ now - tickZ seen) := by
  unfold staleB
  rw [if_neg h, List.getD_eq_getElem?_getD, hx]
  rfl
/-- What is stale stays so: later, and for less. -/
theorem staleB_later {s seen now next : Int} {l m : List Int} (h : staleB s seen now l = true) (hn : now ≤ next) (hm : ∀ i, m.getD i 0 ≤ l.getD i 0) : staleB s seen next m = true := by
  unfold staleB at h ⊢
  by_cases h1 : s < 1 ∨ 5 < s
  · rw [if_pos h1]
  · rw [if_neg h1] at h ⊢
    have h2 := of_decide_eq_true h
    have h3 := hm s.toNat
    have h4 := tickZ_mono hn
    exact decide_eq_true (by omega)
-- the machine's bits
theorem nat_and_pow (n i : Nat) : n &&& 2 ^ i = if n / 2 ^ i % 2 = 1 then 2 ^ i else 0 := by
  apply Nat.eq_of_testBit_eq
  intro j
  rw [Nat.testBit_and, Nat.testBit_two_pow]
  by_cases hj : i = j
  · subst hj
    rw [Nat.testBit_eq_decide_div_mod_eq]
    by_cases h : n / 2 ^ i % 2 = 1
    · rw [if_pos h, Nat.testBit_two_pow]
      simp [h]
    · rw [if_neg h]
      simp [h]
  · by_cases h : n / 2 ^ i % 2 = 1
    · rw [if_pos h, Nat.testBit_two_pow]
      simp [hj]
    · rw [if_neg h]
      simp [hj]
theorem low64 (z : Int) : (BitVec.ofInt 64 z).toNat = (z % 18446744073709551616).toNat := by
  rw [BitVec.toNat_ofInt]
  rfl
theorem and_pow (z : Int) (i : Nat) (hi : i < 6) : bits .and .i64 z ((2 ^ i : Nat) : Int) = if bitB z (2 ^ i) = true then ((2 ^ i : Nat) : Int) else 0 := by
  have hp : 2 ^ i < 64 := Nat.pow_lt_pow_right (by decide) hi
  have h0 : 0 < 2 ^ i := Nat.two_pow_pos i
  have e1 : (BitVec.ofInt 64 ((2 ^ i : Nat) : Int)).toNat = 2 ^ i := by
    rw [low64]
    omega
  have e2 : ((BitVec.ofInt 64 z) &&& (BitVec.ofInt 64 ((2 ^ i : Nat) : Int))).toNat = if bitB z (2 ^ i) = true then 2 ^ i else 0 := by
    rw [BitVec.toNat_and, e1, nat_and_pow, low64]
    have e3 : (z % 18446744073709551616).toNat / 2 ^ i % 2 = fl z / 2 ^ i % 2 := by
      unfold fl
      have e4 : (z % 64).toNat = (z % 18446744073709551616).toNat % 64 := by omega
      rw [e4]
      obtain ⟨n, hn⟩ : ∃ n, (z % 18446744073709551616).toNat = n := ⟨_, rfl⟩
      rw [hn]
      have h5 : i = 0 ∨ i = 1 ∨ i = 2 ∨ i = 3 ∨ i = 4 ∨ i = 5 := by omega
      rcases h5 with rfl | rfl | rfl | rfl | rfl | rfl <;> simp only [Nat.reducePow] <;> omega
    rw [e3]
    unfold bitB
    by_cases h : fl z / 2 ^ i % 2 = 1
    · rw [if_pos h, if_pos (decide_eq_true h)]
    · rw [if_neg h, if_neg (by simp [h])]
  show IntKind.i64.wrap ((BitVec.ofInt 64 z &&& BitVec.ofInt 64 ((2 ^ i : Nat) : Int)).toNat : Int) = _
  rw [e2]
  split
  · rw [IntKind.wrap_i64]
    omega
  · rw [IntKind.wrap_i64]
    omega
theorem fl_congr {a b : Int} (h : fl a = fl b) (w : Nat) : bitB a w = bitB b w := by unfold bitB; rw [h]
theorem stN_congr {a b : Int} (h : fl a = fl b) (s : Int) : stN s a = stN s b := by unfold stN opB; simp only [fl_congr h]
theorem stB_congr {a b : Int} (h : fl a = fl b) (p : Int) : stB p a = stB p b := by unfold stB opB; simp only [fl_congr h]
theorem fl_wrap (n : Nat) : fl (IntKind.i64.wrap (n : Int)) = n % 64 := by
  unfold fl
  rw [IntKind.wrap_i64]
  omega
theorem and63 (x : BitVec 64) : (x &&& 63#64).toNat = x.toNat % 64 := by
  rw [BitVec.toNat_and]
  exact Nat.and_two_pow_sub_one_eq_mod x.toNat 6
/-- Other bits above the lowest six. -/
theorem fl_other (z h : Int) : fl (bits .or .i64 (bits .and .i64 z 63) (bits .andNot .i64 h 63)) = fl z := by
  have hw : ∀ n : Nat, n < 18446744073709551616 → BitVec.ofInt 64 (IntKind.i64.wrap (n : Int)) = BitVec.ofNat 64 n := fun n hn => by
    apply BitVec.eq_of_toNat_eq
    rw [low64, IntKind.wrap_i64, BitVec.toNat_ofNat]
    omega
  show fl (IntKind.i64.wrap ((BitVec.ofInt 64 (IntKind.i64.wrap ((BitVec.ofInt 64 z &&& BitVec.ofInt 64 63).toNat : Int)) ||| BitVec.ofInt 64 (IntKind.i64.wrap ((BitVec.ofInt 64 h &&& ~~~(BitVec.ofInt 64 63)).toNat : Int))).toNat : Int)) = fl z
  rw [hw _ (BitVec.isLt _), hw _ (BitVec.isLt _), fl_wrap, BitVec.ofNat_toNat, BitVec.ofNat_toNat, BitVec.setWidth_eq, BitVec.setWidth_eq]
  rw [← and63]
  have e : (BitVec.ofInt 64 z &&& BitVec.ofInt 64 63 ||| BitVec.ofInt 64 h &&& ~~~(BitVec.ofInt 64 63)) &&& 63#64 = BitVec.ofInt 64 z &&& 63#64 := by
    show (BitVec.ofInt 64 z &&& 63#64 ||| BitVec.ofInt 64 h &&& ~~~(63#64)) &&& 63#64 = BitVec.ofInt 64 z &&& 63#64
    generalize (63#64 : BitVec 64) = m
    apply BitVec.eq_of_getLsbD_eq
    intro i hi
    simp only [BitVec.getLsbD_and, BitVec.getLsbD_or, BitVec.getLsbD_not, hi, decide_true, Bool.true_and]
    cases (BitVec.ofInt 64 z).getLsbD i <;> cases (BitVec.ofInt 64 h).getLsbD i <;> cases m.getLsbD i <;> rfl
  rw [e, and63, low64]
  unfold fl
  omega
/-- A state of TCP, and what it comes to. -/
theorem stB_tcp (z : Int) : 1 ≤ stB 6 z ∧ stB 6 z ≤ 4 := by
  unfold stB
  rw [if_neg (by decide), if_neg (by decide)]
  repeat' split
  all_goals omega
theorem stN_tcp {s : Int} (h1 : 1 ≤ s) (h4 : s ≤ 4) (z : Int) : 1 ≤ stN s z ∧ stN s z ≤ 4 := by
  unfold stN
  rw [if_neg (by omega), if_neg (by omega)]
  repeat' split
  all_goals omega
theorem stN_rst {s : Int} (h1 : 1 ≤ s) (h4 : s ≤ 4) {z : Int} (h : bitB z 4 = true) : stN s z = 4 := by
  unfold stN
  rw [if_neg (by omega), if_neg (by omega), if_pos h]
theorem stN_udp (z : Int) : stN 5 z = 5 := by unfold stN; rw [if_pos rfl]
theorem stR_udp : ∀ l : List Int, stR 5 l = 5
  | [] => rfl
  | z :: l => by
    show stR (stN 5 z) l = 5
    rw [stN_udp]
    exact stR_udp l
end Go.Proofs.Ytljmegmklfohjaa
