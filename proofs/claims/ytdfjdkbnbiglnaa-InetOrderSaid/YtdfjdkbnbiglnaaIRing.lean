/-
  The contracts of inet's ring, Change, byteAt, word and Changed.
-/
import Derived.Test.YtdfjdkbnbiglnaaText
import Derived.Test.YtdfjdkbnbiglnaaIMath
import Derived.IntWalk
namespace Go.Proofs.Ytdfjdkbnbiglnaa
open Go.RowKit Go.Lib

theorem not16 (a : Nat) (ha : a < 65536) : bits .xor .u16 IntKind.u16.max (a : Int) = ((65535 - a : Nat) : Int) := by
  have h : bits .xor .u16 IntKind.u16.max (a : Int) = ((65535 ^^^ a : Nat) : Int) := u16_xor_nat 65535 a (by omega) ha
  rw [h]
  congr 1
  have hx : a ^^^ 65535 = 65535 - a := by
    apply Nat.eq_of_testBit_eq
    intro i
    rw [show 65535 - a = 2 ^ 16 - (a + 1) by omega, Nat.testBit_two_pow_sub_succ (by omega), Nat.testBit_xor, show (65535 : Nat) = 2 ^ 16 - 1 by rfl, Nat.testBit_two_pow_sub_one]
    by_cases hi : i < 16
    · simp [hi]
    · have : a.testBit i = false := Nat.testBit_lt_two_pow (Nat.lt_of_lt_of_le (show a < 2 ^ 16 by omega) (Nat.pow_le_pow_right (by omega) (by omega)))
      simp [hi, this]
  rw [Nat.xor_comm, hx]
theorem wu64 {z : Int} (h0 : 0 ≤ z) (h1 : z < 18446744073709551616) : IntKind.u64.wrap z = z := by rw [IntKind.wrap_u64]; omega
theorem or16 (a b : Nat) (ha : a < 256) (hb : b < 256) : bits .or .u16 ((256 * a : Nat) : Int) (b : Int) = ((256 * a + b : Nat) : Int) := by
  rw [u16_or_nat _ _ (by omega) (by omega)]
  congr 1
  exact (Nat.two_pow_add_eq_or_of_lt (i := 8) (by omega) a).symm

set_option maxHeartbeats 400000 in
/-- inet.ring -/
theorem ring_any (n : Nat) (hn : n < 18446744073709551616) (w : World) :
    Calls Try.prog 20 #[.int .u64 (n : Int)] w fun e w' => e = .returned (.int .u16 ((nrm n : Nat) : Int)) ∧ w = w' := by
  obtain ⟨R, hR⟩ : ∃ R, nrm n = R := ⟨_, rfl⟩
  rw [hR]
  have HR := Lib.hid hR
  clear hR
  go_enter Try.func20, Try.ntmps20
  go_wp2_with fail
  go_loop [0] (fun u => ∃ m : Nat, m < 18446744073709551616 ∧ u = .int .u64 (m : Int) ∧ nrm m = R) (fun u => (intOf u).toNat)
  case atStart => exact ⟨n, hn, rfl, HR.out⟩
  case round =>
    obtain ⟨m, hm, rfl, hr⟩ := hrel
    by_cases hlt : 65536 ≤ m
    · have hlt' : (0 : Int) < (m : Int) / 65536 := by omega
      have e : nrm (m / 65536 + m % 65536) = R := by rw [Nat.add_comm, nrm_fold]; exact hr
      have HQ := Lib.hid e
      clear e hr
      go_wp2_with fail
      go_round
      case rel => exact ⟨m / 65536 + m % 65536, by omega, by go_num, HQ.out⟩
      case measure => simp [intOf]; omega
    · have hlt' : (m : Int) / 65536 = 0 := by omega
      have hm2 : m < 65536 := by omega
      rw [nrm_small (by omega)] at hr
      have HQ := Lib.hid hr
      clear hr
      go_wp2_with fail
      go_ret
      rw [← HQ.out]
      exact ⟨by go_num, rfl⟩

set_option maxHeartbeats 400000 in
/-- inet.Change -/
theorem change_any (c m n : Nat) (hc : c < 65536) (hm : m < 65536) (hn : n < 65536) (w : World) :
    Calls Try.prog 13 #[.int .u16 (c : Int), .int .u16 (m : Int), .int .u16 (n : Int)] w fun e w' => e = .returned (.int .u16 ((chg c m n : Nat) : Int)) ∧ w = w' := by
  have h1 := not16 c hc
  have h2 := not16 m hm
  have hle := nrm_le (65535 - c + (65535 - m) + n)
  have h3 := not16 (nrm (65535 - c + (65535 - m) + n)) (by omega)
  have hr := ring_any (65535 - c + (65535 - m) + n) (by omega)
  obtain ⟨R, hR⟩ : ∃ R, nrm (65535 - c + (65535 - m) + n) = R := ⟨_, rfl⟩
  rw [chg_nrm (by omega)]
  rw [hR] at h3 hr hle ⊢
  obtain ⟨c', hc'⟩ : ∃ c', 65535 - c = c' := ⟨_, rfl⟩
  obtain ⟨m', hm'⟩ : ∃ m', 65535 - m = m' := ⟨_, rfl⟩
  have lc : c' < 65536 := by omega
  have lm : m' < 65536 := by omega
  rw [hc'] at h1 hr
  rw [hm'] at h2 hr
  rw [show ((c' + m' + n : Nat) : Int) = (c' : Int) + m' + n by omega] at hr
  have HR := Lib.hid hr
  clear hR hc' hm' hr
  obtain ⟨r, hr⟩ : ∃ r, 65535 - R = r := ⟨_, rfl⟩
  rw [hr] at h3 ⊢
  clear hr
  have w1 : IntKind.u64.wrap (c' : Int) = _ := wu64 (by omega) (by omega)
  have w2 : IntKind.u64.wrap (m' : Int) = _ := wu64 (by omega) (by omega)
  have w3 : IntKind.u64.wrap ((c' : Int) + m') = _ := wu64 (by omega) (by omega)
  have w4 : IntKind.u64.wrap ((c' : Int) + m' + n) = _ := wu64 (by omega) (by omega)
  go_enter Try.func13, Try.ntmps13
  go_wp2_with fail
  refine (HR.out _).mono ?_
  rintro e w' ⟨rfl, rfl⟩
  go_wp2_with fail
  go_ret
  exact ⟨rfl, rfl⟩

/-- Byte i of a text behind whose end there are noughts. -/
def batN (xs : List UInt8) (i : Nat) : Nat := (xs.getD i 0).toNat
theorem batN_lt (xs : List UInt8) (i : Nat) : batN xs i < 256 := (xs.getD i 0).toNat_lt
/-- The word that begins at byte i. -/
def wat (xs : List UInt8) (i : Nat) : Nat := 256 * batN xs i + batN xs (i + 1)
theorem wat_lt (xs : List UInt8) (i : Nat) : wat xs i < 65536 := by
  have := batN_lt xs i
  have := batN_lt xs (i + 1)
  unfold wat
  omega

set_option maxHeartbeats 400000 in
/-- inet.byteAt -/
theorem byteAt_any (A : Option Addr) (len cap : Nat) (xs : List UInt8) (hlen : len ≤ 1000000) (i : Nat) (hi : i ≤ 1000000) (w : World) {B : Nat} (hI : Rd w B A len xs) :
    Calls Try.prog 25 #[.slice A len cap, .int .i64 (i : Int)] w fun e w' => e = .returned (.int .u8 ((batN xs i : Nat) : Int)) ∧ w = w' := by
  by_cases hlt : i < len
  · have hlt' : (i : Int) < (len : Int) := by omega
    obtain ⟨b, off, rfl, hb⟩ := hI.addr (by omega)
    have hc := hI.cell (k := i) hlt
    have e : batN xs i = (xs[i]'(by rw [hI.len]; exact hlt)).toNat := by
      unfold batN
      rw [List.getD_eq_getElem?_getD, List.getElem?_eq_getElem (by rw [hI.len]; exact hlt)]
      rfl
    rw [← e] at hc
    clear hI e
    obtain ⟨x, hx⟩ : ∃ x, batN xs i = x := ⟨_, rfl⟩
    rw [hx] at hc ⊢
    clear hx
    go_enter Try.func25, Try.ntmps25
    go_wp2
    go_ret
    exact ⟨rfl, rfl⟩
  · have hlt' : ¬ (i : Int) < (len : Int) := by omega
    have e : batN xs i = 0 := by
      unfold batN
      rw [List.getD_eq_getElem?_getD, List.getElem?_eq_none (by rw [hI.len]; omega)]
      rfl
    rw [e]
    clear hI e
    go_enter Try.func25, Try.ntmps25
    go_wp2
    go_ret
    exact ⟨rfl, rfl⟩

set_option maxHeartbeats 400000 in
/-- inet.word -/
theorem word_any (A : Option Addr) (len cap : Nat) (xs : List UInt8) (hlen : len ≤ 1000000) (i : Nat) (hi : i < 1000000) (w : World) {B : Nat} (hI : Rd w B A len xs) :
    Calls Try.prog 23 #[.slice A len cap, .int .i64 (i : Int)] w fun e w' => e = .returned (.int .u16 ((wat xs i : Nat) : Int)) ∧ w = w' := by
  have H0 := Lib.hid (byteAt_any A len cap xs hlen i (by omega) w hI)
  have H1 := Lib.hid (byteAt_any A len cap xs hlen (i + 1) (by omega) w hI)
  have l0 := batN_lt xs i
  have l1 := batN_lt xs (i + 1)
  unfold wat
  obtain ⟨x, hx⟩ : ∃ x, batN xs i = x := ⟨_, rfl⟩
  obtain ⟨y, hy⟩ : ∃ y, batN xs (i + 1) = y := ⟨_, rfl⟩
  rw [hx] at H0 l0
  rw [hy] at H1 l1
  rw [hx, hy]
  clear hx hy hI
  have ho := or16 x y l0 l1
  rw [show ((256 * x : Nat) : Int) = (x : Int) * 256 by omega] at ho
  obtain ⟨R, hR⟩ : ∃ R, 256 * x + y = R := ⟨_, rfl⟩
  rw [hR] at ho ⊢
  clear hR
  go_enter Try.func23, Try.ntmps23
  go_wp2_with fail
  refine H0.out.mono ?_
  rintro e w' ⟨rfl, rfl⟩
  go_wp2_with fail
  refine H1.out.mono ?_
  rintro e w' ⟨rfl, rfl⟩
  go_wp2_with fail
  go_ret
  exact ⟨rfl, rfl⟩
end Go.Proofs.Ytdfjdkbnbiglnaa
