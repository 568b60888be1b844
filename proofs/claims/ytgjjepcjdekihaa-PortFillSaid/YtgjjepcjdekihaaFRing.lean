/-
  The contracts of inet's ring.
-/
import Derived.Test.YtgjjepcjdekihaaCText
import Derived.Test.YtgjjepcjdekihaaFMath
import Derived.IntWalk
namespace Go.Proofs.Ytgjjepcjdekihaa
open Go.RowKit Go.Lib

theorem not16 (a : Nat) (ha : a < 65536) : bits .xor .u16 IntKind.u16.max (a : Int) = ((65535 - a : Nat) : Int) := by
  have h : bits .xor .u16 IntKind.u16.max (a : Int) = ((65535 ^^^ a : Nat) : Int) := u16_xor_nat 65535 a (by omega) ha
  rw [h]
  congr 1
  have hx : a ^^^ 65535 = 65535 - a := by
    apply Nat.eq_of_testBit_eq
    intro i
    rw [show 65535 - a = 2 ^ 16 - (a + 1) by omega, Nat.testBit_two_pow_sub_succ (by omega), Nat.testBit_xor, show (65535 : Nat) = 2 ^ 16 - 1 by rfl, Nat.testBit_two_pow_sub_one]
    by_cases hi : i < 16
    · simp [hi]
    · have : a.testBit i = false := Nat.testBit_lt_two_pow (Nat.lt_of_lt_of_le (show a < 2 ^ 16 by omega) (Nat.pow_le_pow_right (by omega) (by omega)))
      simp [hi, this]
  rw [Nat.xor_comm, hx]
theorem wu64 {z : Int} (h0 : 0 ≤ z) (h1 : z < 18446744073709551616) : IntKind.u64.wrap z = z := by rw [IntKind.wrap_u64]; omega
theorem or16 (a b : Nat) (ha : a < 256) (hb : b < 256) : bits .or .u16 ((256 * a : Nat) : Int) (b : Int) = ((256 * a + b : Nat) : Int) := by
  rw [u16_or_nat _ _ (by omega) (by omega)]
  congr 1
  exact (Nat.two_pow_add_eq_or_of_lt (i := 8) (by omega) a).symm

set_option maxHeartbeats 400000 in
/-- inet.ring -/
theorem ring_any (n : Nat) (hn : n < 18446744073709551616) (w : World) :
    Calls Try.prog 36 #[.int .u64 (n : Int)] w fun e w' => e = .returned (.int .u16 ((nrm n : Nat) : Int)) ∧ w = w' := by
  obtain ⟨R, hR⟩ : ∃ R, nrm n = R := ⟨_, rfl⟩
  rw [hR]
  have HR := Lib.hid hR
  clear hR
  go_enter Try.func36, Try.ntmps36
  go_wp2_with fail
  go_loop [0] (fun u => ∃ m : Nat, m < 18446744073709551616 ∧ u = .int .u64 (m : Int) ∧ nrm m = R) (fun u => (intOf u).toNat)
  case atStart => exact ⟨n, hn, rfl, HR.out⟩
  case round =>
    obtain ⟨m, hm, rfl, hr⟩ := hrel
    by_cases hlt : 65536 ≤ m
    · have hlt' : (0 : Int) < (m : Int) / 65536 := by omega
      have e : nrm (m / 65536 + m % 65536) = R := by rw [Nat.add_comm, nrm_fold]; exact hr
      have HQ := Lib.hid e
      clear e hr
      go_wp2_with fail
      go_round
      case rel => exact ⟨m / 65536 + m % 65536, by omega, by go_num, HQ.out⟩
      case measure => simp [intOf]; omega
    · have hlt' : (m : Int) / 65536 = 0 := by omega
      have hm2 : m < 65536 := by omega
      rw [nrm_small (by omega)] at hr
      have HQ := Lib.hid hr
      clear hr
      go_wp2_with fail
      go_ret
      rw [← HQ.out]
      exact ⟨by go_num, rfl⟩

end Go.Proofs.Ytgjjepcjdekihaa
