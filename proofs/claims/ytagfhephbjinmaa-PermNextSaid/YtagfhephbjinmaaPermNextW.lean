/-
  PermNext: its walk, the program's contracts a premise.
-/
import Derived.Test.YtagfhephbjinmaaJAwake
namespace Go.Proofs.Ytagfhephbjinmaa
set_option maxRecDepth 100000
open Go.RowKit Go.Lib Go.ChangeShapes Go.WideShapes Go.ChangeAt

set_option maxHeartbeats 8000000 in
theorem permNext_walkW (S : PermC) (n : Nat) (hn : n < 65536) (a : Nat) (ha : a < 256) (b : Nat) (hb : b < 256) (w : World) :
    Calls Try.prog 4 #[.int .u16 (n : Int), .int .u8 (a : Int), .int .u8 (b : Int)] w fun e w' => e = .returned (.bool true) ∧ Below w.heap.size w w' := by
  have P1 := Lib.hid (fun W => S.next (n : Int) (by omega) (by omega) W)
  obtain ⟨hsz, hle, _⟩ := nextN_size (z := (n : Int)) (by omega)
  have hbt := nextN_between (z := (n : Int)) (by omega)
  obtain ⟨p, hp⟩ : ∃ p, nextN (n : Int) = p := ⟨_, rfl⟩
  rw [hp] at P1 hsz hle hbt
  have hpm := hsz.most
  have P2 := Lib.hid (fun W => S.prime (p : Int) (by omega) (by omega) W)
  rw [Int.toNat_natCast, hsz.prime] at P2
  have P3 : Hid (∀ (i : Nat) (_ : n ≤ i) (_ : i < p) (W : World), Calls Try.prog 10 #[.int .i64 (i : Int)] W fun e w' => e = .returned (.bool false) ∧ Below W.heap.size W w') := Lib.hid (fun i h1 h2 W => by
    have := S.prime (i : Int) (by omega) (by omega) W
    rw [Int.toNat_natCast, hbt i (by omega) h2] at this
    exact this)
  have hmul : ((a : Int) + 2) * ((b : Int) + 2) = (((a + 2) * (b + 2) : Nat) : Int) := by rw [Int.natCast_mul]; rfl
  have hmb : (a + 2) * (b + 2) ≤ 66049 := Nat.mul_le_mul (show a + 2 ≤ 257 by omega) (show b + 2 ≤ 257 by omega)
  have hmp := primeB_mul (show 2 ≤ a + 2 by omega) (show 2 ≤ b + 2 by omega)
  obtain ⟨m, hm⟩ : ∃ m, (a + 2) * (b + 2) = m := ⟨_, rfl⟩
  rw [hm] at hmul hmb hmp
  have P4 := Lib.hid (fun W => S.prime (m : Int) (by omega) (by omega) W)
  rw [Int.toNat_natCast, hmp] at P4
  have c1 : ¬ (p : Int) < (n : Int) := by omega
  have c2 : ¬ (65537 : Int) < (p : Int) := by omega
  have c3 : decide ((65537 : Int) < (p : Int)) = false := decide_eq_false c2
  have c5 : decide (p < n) = false := decide_eq_false (by omega)
  have c6 : ¬ p < n := by omega
  have c4 : decide ((p : Int) < (n : Int)) = false := decide_eq_false c1
  have HMM := Lib.hid hmul
  clear hm hmp hbt hp hsz hmul
  go_enter Try.func4, Try.ntmps4
  go_wp2_with (first
    | (with_reducible refine (awake_any S w).mono ?_; rintro e w1 ⟨rfl, HB1_⟩; have HB1 := Lib.hid HB1_; clear HB1_)
    | (with_reducible refine (P1.out w1).mono ?_; rintro e w2 ⟨rfl, hb⟩; have HB2 := Lib.hid (HB1.out.trans (hb.mono HB1.out.size)); clear hb)
    | (with_reducible refine (P2.out w2).mono ?_; rintro e w3 ⟨rfl, hb⟩; have HB3 := Lib.hid (HB2.out.trans (hb.mono HB2.out.size)); clear hb))
  go_loopw [9] (fun i wr => ∃ k : Nat, n ≤ k ∧ k ≤ p ∧ i = .int .i64 (k : Int) ∧ Below w.heap.size w wr)
    (fun i _ => p - (intOf i).toNat)
  case atStart => exact ⟨n, Nat.le_refl _, by omega, rfl, HB3.out⟩
  case round =>
    obtain ⟨k, hk1, hk, rfl, hbel⟩ := hrel
    by_cases hlt : k < p
    · have h1 : (k : Int) < (p : Int) := by omega
      have HQ := Lib.hid (fun W => P3.out k hk1 hlt W)
      have HBE := Lib.hid hbel
      clear hbel hk
      go_wp2_with (with_reducible refine (HQ.out _).mono ?_; rintro e wz ⟨rfl, hb⟩; have HBZ := Lib.hid (HBE.out.trans (hb.mono HBE.out.size)); clear hb)
      refine ⟨⟨k + 1, by omega, by omega, by go_num, HBZ.out⟩, ?_⟩
      simp [intOf]
      omega
    · obtain rfl : k = p := by omega
      have h1 : ¬ (k : Int) < (k : Int) := by omega
      have hmul := HMM.out
      have HBE := Lib.hid hbel
      clear hbel hlt hk hk1
      go_wp2_with (with_reducible refine (P4.out _).mono ?_; rintro e wz ⟨rfl, hb⟩; have HBZ := Lib.hid (HBE.out.trans (hb.mono HBE.out.size)); clear hb)
      go_ret
      exact ⟨rfl, HBZ.out⟩
end Go.Proofs.Ytagfhephbjinmaa
