/-
  The contracts of varint.Fold and Open, and of the document's answers to both.
-/
import Derived.Test.YtnbehleppmnjdaaText
import Derived.Test.YtnbehleppmnjdaaVarMath
namespace Go.Proofs.Ytnbehleppmnjdaa
open Go.RowKit Go.Lib

/-- The whole number that is folded to u. -/
def unzig (u : Nat) : Int := if u % 2 = 0 then ((u / 2 : Nat) : Int) else -((u / 2 : Nat) : Int) - 1

theorem xor_top (a : Nat) (ha : a < 18446744073709551616) : bits .xor .u64 (a : Int) ((18446744073709551615 : Nat) : Int) = ((18446744073709551615 - a : Nat) : Int) := by
  rw [bits_xor_u64_nat a _ ha (by omega), Nat.xor_comm]
  have h := xor_ones64 a (by omega)
  have e : (2 : Nat) ^ 64 - 1 = 18446744073709551615 := by omega
  rw [e] at h
  rw [h]
theorem xor_zero64 (a : Nat) (ha : a < 18446744073709551616) : bits .xor .u64 (a : Int) ((0 : Nat) : Int) = (a : Int) := by
  rw [bits_xor_u64_nat a _ ha (by omega), Nat.xor_zero]
theorem fold_neg (z : Int) (h1 : -9223372036854775808 ≤ z) (h : z < 0) : bits .xor .u64 (IntKind.u64.wrap (IntKind.u64.wrap z * 2)) (IntKind.u64.wrap (z / 9223372036854775808)) = ((zigzag z : Nat) : Int) := by
  obtain ⟨a, ha⟩ : ∃ a : Nat, IntKind.u64.wrap (IntKind.u64.wrap z * 2) = (a : Int) ∧ (a : Int) = 2 * z + 18446744073709551616 := ⟨(2 * z + 18446744073709551616).toNat, by rw [IntKind.wrap_u64, IntKind.wrap_u64]; omega, by omega⟩
  have e2 : IntKind.u64.wrap (z / 9223372036854775808) = ((18446744073709551615 : Nat) : Int) := by rw [IntKind.wrap_u64]; omega
  rw [ha.1, e2, xor_top a (by omega)]
  unfold zigzag
  rw [if_neg (by omega)]
  omega
theorem fold_pos (z : Int) (h1 : 0 ≤ z) (h : z ≤ 9223372036854775807) : bits .xor .u64 (z * 2) (z / 9223372036854775808) = ((zigzag z : Nat) : Int) := by
  obtain ⟨a, rfl⟩ := Int.eq_ofNat_of_zero_le h1
  have e1 : (a : Int) * 2 = ((a * 2 : Nat) : Int) := by omega
  have e2 : (a : Int) / 9223372036854775808 = ((0 : Nat) : Int) := by omega
  rw [e1, e2, xor_zero64 _ (by omega)]
  unfold zigzag
  rw [if_pos (by omega)]
  omega
theorem xor_comm_i64 (a b : Int) : bits .xor .i64 a b = bits .xor .i64 b a := by
  show IntKind.i64.wrap ((BitVec.ofInt 64 a ^^^ BitVec.ofInt 64 b).toNat : Int) = IntKind.i64.wrap ((BitVec.ofInt 64 b ^^^ BitVec.ofInt 64 a).toNat : Int)
  rw [BitVec.xor_comm]
theorem xor_zero_i64 (a : Nat) (ha : a < 9223372036854775808) : bits .xor .i64 (a : Int) 0 = (a : Int) := by
  show IntKind.i64.wrap ((BitVec.ofInt 64 (a : Int) ^^^ BitVec.ofInt 64 0).toNat : Int) = _
  have h1 : (BitVec.ofInt 64 0).toNat = 0 := by decide
  have h2 : (BitVec.ofInt 64 (a : Int)).toNat = a := by
    rw [BitVec.ofInt_natCast, BitVec.toNat_ofNat]; exact Nat.mod_eq_of_lt (by omega)
  rw [BitVec.toNat_xor, h1, h2, Nat.xor_zero, IntKind.wrap_i64]
  omega
theorem open_val (u : Nat) (hu : u < 18446744073709551616) : bits .xor .i64 ((u : Int) / 2) (wrap64 (IntKind.u64.wrap ((u : Int) * 9223372036854775808)) / 9223372036854775808) = unzig u := by
  have e1 : (u : Int) / 2 = ((u / 2 : Nat) : Int) := by omega
  have e3 : wrap64 (IntKind.u64.wrap ((u : Int) * 9223372036854775808)) = IntKind.i64.wrap (IntKind.u64.wrap ((u : Int) * 9223372036854775808)) := by simp only [wrap64, IntKind.wrap_i64]
  rw [e1, e3]
  unfold unzig
  by_cases h : u % 2 = 0
  · have e2 : IntKind.i64.wrap (IntKind.u64.wrap ((u : Int) * 9223372036854775808)) / 9223372036854775808 = 0 := by
      rw [IntKind.wrap_u64, IntKind.wrap_i64]; omega
    rw [e2, xor_zero_i64 _ (by omega), if_pos h]
  · have e2 : IntKind.i64.wrap (IntKind.u64.wrap ((u : Int) * 9223372036854775808)) / 9223372036854775808 = -1 := by
      rw [IntKind.wrap_u64, IntKind.wrap_i64]; omega
    rw [e2, xor_comm_i64, i64_not _ (by omega), if_neg h]
theorem unzig_zigzag (z : Int) : unzig (zigzag z) = z := by
  unfold unzig zigzag
  split <;> split <;> omega
theorem zigzag_unzig (u : Nat) : zigzag (unzig u) = u := by
  unfold unzig zigzag
  split <;> split <;> omega
theorem unzig_range (u : Nat) (hu : u < 18446744073709551616) : -9223372036854775808 ≤ unzig u ∧ unzig u ≤ 9223372036854775807 := by
  unfold unzig
  split <;> omega
theorem ret_int {k : IntKind} {a b : Int} (h : a = b) : Ending.returned (.int k a) = .returned (.int k b) := by rw [h]

set_option maxHeartbeats 1000000 in
theorem fold_any (z : Int) (h1 : -9223372036854775808 ≤ z) (h2 : z ≤ 9223372036854775807) (w : World) :
    Calls Try.prog 16 #[.int .i64 z] w fun e w' => e = .returned (.int .u64 (zigzag z : Nat)) ∧ w = w' := by
  by_cases h : z < 0
  · go_enter Try.func16, Try.ntmps16
    go_wp2
    go_ret
    exact ⟨ret_int (fold_neg z h1 h), rfl⟩
  · have h0 : 0 ≤ z := by omega
    go_enter Try.func16, Try.ntmps16
    go_wp2
    go_ret
    exact ⟨ret_int (fold_pos z h0 h2), rfl⟩
set_option maxHeartbeats 1000000 in
theorem open_any (u : Nat) (hu : u < 18446744073709551616) (w : World) :
    Calls Try.prog 18 #[.int .u64 (u : Int)] w fun e w' => e = .returned (.int .i64 (unzig u)) ∧ w = w' := by
  go_enter Try.func18, Try.ntmps18
  go_wp2
  go_ret
  exact ⟨ret_int (open_val u hu), rfl⟩
set_option maxHeartbeats 1000000 in
theorem rfold_any (z : Int) (h1 : -9223372036854775808 ≤ z) (h2 : z ≤ 9223372036854775807) (w : World) :
    Calls Try.prog 17 #[.int .i64 z] w fun e w' => e = .returned (.int .u64 (zigzag z : Nat)) ∧ w = w' := by
  by_cases h : z < 0
  · go_enter Try.func17, Try.ntmps17
    go_wp2
    go_ret
    exact ⟨ret_int (by unfold zigzag; rw [if_neg (by omega)]; omega), rfl⟩
  · have h0 : 0 ≤ z := by omega
    go_enter Try.func17, Try.ntmps17
    go_wp2
    go_ret
    exact ⟨ret_int (by unfold zigzag; rw [if_pos (by omega)]; omega), rfl⟩
set_option maxHeartbeats 1000000 in
theorem ropen_any (u : Nat) (hu : u < 18446744073709551616) (w : World) :
    Calls Try.prog 19 #[.int .u64 (u : Int)] w fun e w' => e = .returned (.int .i64 (unzig u)) ∧ w = w' := by
  by_cases h : u % 2 = 0
  · have hb : ((u : Int) % 2 == 0) = true := beq_iff_eq.2 (by omega)
    go_enter Try.func19, Try.ntmps19
    go_wp2
    go_ret
    exact ⟨ret_int (by unfold unzig; rw [if_pos h]; omega), rfl⟩
  · have hb : ((u : Int) % 2 == 0) = false := beq_eq_false_iff_ne.2 (by omega)
    go_enter Try.func19, Try.ntmps19
    go_wp2
    go_ret
    exact ⟨ret_int (by unfold unzig; rw [if_neg h]; omega), rfl⟩
end Go.Proofs.Ytnbehleppmnjdaa
