/-
  The document's Prime and Next.
-/
import Derived.Test.YtmngagcekhlppaaJMath
namespace Go.Proofs.Ytmngagcekhlppaa
set_option maxRecDepth 100000
open Go.RowKit Go.Lib
theorem primeB_small {n : Nat} (h : n < 2) : primeB n = false := by
  unfold primeB
  rw [decide_eq_false (by omega)]
  rfl
set_option maxHeartbeats 2000000 in
theorem rprime_any (z : Int) (h1 : -4294967296 ≤ z) (h2 : z ≤ 4294967296) (w : World) : Calls Try.prog 13 #[.int .i64 z] w fun e w' => e = .returned (.bool (primeB z.toNat)) ∧ w = w' := by
  by_cases hz : z < 2
  · rw [primeB_small (n := z.toNat) (by omega)]
    go_enter Try.func13, Try.ntmps13
    go_wp2_with fail
    go_ret
    exact ⟨rfl, rfl⟩
  · obtain ⟨n, rfl⟩ := Int.eq_ofNat_of_zero_le (show 0 ≤ z by omega)
    rw [Int.toNat_natCast]
    obtain ⟨r, hr⟩ : ∃ r, primeB n = r := ⟨_, rfl⟩
    rw [hr]
    have HR := Lib.hid hr
    clear hr
    have hz2 : ¬ (n : Int) < 2 := by omega
    have hn2 : n ≤ 4294967296 := by omega
    clear hz h1 h2
    go_enter Try.func13, Try.ntmps13
    go_wp2_with fail
    go_loop [3] (fun i => ∃ d : Nat, 2 ≤ d ∧ d ≤ 65538 ∧ i = .int .i64 (d : Int) ∧ Hid (∀ e, 2 ≤ e → e < d → e * e ≤ n → n % e ≠ 0))
      (fun i => 70000 - (intOf i).toNat)
    case atStart => exact ⟨2, by omega, by omega, rfl, Lib.hid (fun e h1 h2 _ => absurd h2 (by omega))⟩
    case round =>
      obtain ⟨d, hd2, hd, rfl, HD⟩ := hrel
      have hsq : (d : Int) * (d : Int) = ((d * d : Nat) : Int) := by rw [Int.natCast_mul]
      have hb : d * d ≤ 4295229444 := Nat.mul_le_mul hd hd
      have hmn : (n : Int) % (d : Int) = ((n % d : Nat) : Int) := by rw [Int.natCast_emod]
      have HDD := Lib.hid (show d * d ≤ n → d ≤ 65536 from fun h => by
        rcases Nat.lt_or_ge 65536 d with k | k
        · exfalso
          have := Nat.mul_le_mul (show 65537 ≤ d from k) (show 65537 ≤ d from k)
          omega
        · exact k)
      obtain ⟨m, hm⟩ : ∃ m, n % d = m := ⟨_, rfl⟩
      obtain ⟨s, hs⟩ : ∃ s, d * d = s := ⟨_, rfl⟩
      rw [hm] at hmn
      rw [hs] at hsq hb HDD
      have HM := Lib.hid hm
      have HS := Lib.hid hs
      clear hm hs
      by_cases hlt : s ≤ n
      · have hd3 := HDD.out hlt
        have hlt2 : (s : Int) ≤ (n : Int) := by omega
        by_cases h0 : m = 0
        · subst h0
          have hv : r = false := by
            rw [← HR.out]
            exact primeB_no d hd2 (by rw [HS.out]; exact hlt) HM.out
          subst hv
          have h00 : (((0 : Nat) : Int) == 0) = true := rfl
          clear hlt
          go_wp2_with fail
          go_ret
          exact ⟨rfl, rfl⟩
        · have h00 : ((m : Int) == 0) = false := beq_eq_false_iff_ne.2 (by omega)
          have HN : Hid (∀ e, 2 ≤ e → e < d + 1 → e * e ≤ n → n % e ≠ 0) := Lib.hid (fun e h1 h2 h3 => by
            rcases Nat.eq_or_lt_of_le (show e ≤ d by omega) with rfl | h4
            · rw [HM.out]; exact h0
            · exact HD.out e h1 h4 h3)
          clear hlt h0
          go_wp2_with fail
          go_round
          case rel => exact ⟨d + 1, by omega, by omega, by go_num, HN⟩
          case measure => simp [intOf]; omega
      · have hlt2 : ¬ (s : Int) ≤ (n : Int) := by omega
        have hv : r = true := by
          rw [← HR.out, primeB_iff]
          refine ⟨by omega, fun e h1 h2 => ?_⟩
          rcases Nat.lt_or_ge e d with h3 | h3
          · exact HD.out e h1 h3 h2
          · exfalso
            have := Nat.mul_le_mul h3 h3
            rw [HS.out] at this
            omega
        subst hv
        clear hlt
        go_wp2_with fail
        go_ret
        exact ⟨rfl, rfl⟩
theorem nx_hit {f p : Nat} (h : primeB p = true) : nx (f + 1) p = p := by unfold nx; rw [if_pos h]
theorem nx_miss {f p : Nat} (h : primeB p = false) : nx (f + 1) p = nx f (p + 1) := by rw [nx, if_neg (by rw [h]; decide)]
set_option maxHeartbeats 2000000 in
theorem rnext_any (z : Int) (h1 : -4294967296 ≤ z) (h2 : z ≤ 4294967296) (w : World) : Calls Try.prog 19 #[.int .i64 z] w fun e w' => e = .returned (.int .i64 (nextN z : Nat)) ∧ w = w' := by
  obtain ⟨r, hr⟩ : ∃ r, nextN z = r := ⟨_, rfl⟩
  rw [hr]
  unfold nextN at hr
  have HL : Hid (lowN z = if z < 2 then 2 else z.toNat) := Lib.hid rfl
  obtain ⟨m, hm⟩ : ∃ m, lowN z = m := ⟨_, rfl⟩
  rw [hm] at HL hr
  have hm2 : m ≤ 4294967296 := by have := HL.out; split at this <;> omega
  have HR := Lib.hid hr
  have HM := Lib.hid hm2
  have HP := Lib.hid (fun (p : Nat) (hp : p ≤ 65537) (W : World) => rprime_any (p : Int) (by omega) (by omega) W)
  clear hr hm hm2
  go_enter Try.func19, Try.ntmps19
  by_cases hz : z < 2
  · obtain rfl : m = 2 := by have := HL.out; rw [if_pos hz] at this; exact this
    clear HL
    go_wp2_with fail
    go_loop [3] (fun i => ∃ p : Nat, 2 ≤ p ∧ p ≤ 4294967300 ∧ i = .int .i64 (p : Int) ∧ Hid (nx (65538 - p) p = r))
      (fun i => 65540 - (intOf i).toNat)
    case atStart => exact ⟨2, by omega, by have := HM.out; omega, rfl, HR⟩
    case round =>
      obtain ⟨p, hp2, hp, rfl, HX⟩ := hrel
      by_cases hlt : p ≤ 65537
      · have hlt2 : (p : Int) ≤ 65537 := by omega
        have HC := HP.out p hlt
        rw [Int.toNat_natCast] at HC
        have HCC := Lib.hid HC
        have hf : 65538 - p = (65538 - (p + 1)) + 1 := by omega
        cases hpr : primeB p
        · have hx := HX.out
          rw [hf, nx_miss hpr] at hx
          have HX2 := Lib.hid hx
          rw [hpr] at HCC
          clear hx hf hpr HC
          go_wp2_with (with_reducible refine (HCC.out _).mono ?_; rintro e w' ⟨rfl, rfl⟩)
          go_round
          case rel => exact ⟨p + 1, by omega, by omega, by go_num, HX2⟩
          case measure => simp [intOf]; omega
        · have hx := HX.out
          rw [hf, nx_hit hpr] at hx
          have HX2 := Lib.hid hx
          rw [hpr] at HCC
          clear hx hf hpr HC
          go_wp2_with (with_reducible refine (HCC.out _).mono ?_; rintro e w' ⟨rfl, rfl⟩)
          go_ret
          rw [HX2.out]
          exact ⟨rfl, rfl⟩
      · have hlt2 : ¬ (p : Int) ≤ 65537 := by omega
        have hx := HX.out
        rw [show 65538 - p = 0 by omega] at hx
        have hr0 : r = 0 := hx.symm
        subst hr0
        clear hx hlt
        go_wp2_with fail
        go_ret
        exact ⟨rfl, rfl⟩
  · obtain ⟨n, rfl⟩ := Int.eq_ofNat_of_zero_le (show 0 ≤ z by omega)
    obtain rfl : m = n := by have := HL.out; rw [if_neg hz, Int.toNat_natCast] at this; exact this
    have hm3 : 2 ≤ m := by omega
    clear HL
    go_wp2_with fail
    go_loop [3] (fun i => ∃ p : Nat, 2 ≤ p ∧ p ≤ 4294967300 ∧ i = .int .i64 (p : Int) ∧ Hid (nx (65538 - p) p = r))
      (fun i => 65540 - (intOf i).toNat)
    case atStart => exact ⟨m, by omega, by have := HM.out; omega, rfl, HR⟩
    case round =>
      obtain ⟨p, hp2, hp, rfl, HX⟩ := hrel
      by_cases hlt : p ≤ 65537
      · have hlt2 : (p : Int) ≤ 65537 := by omega
        have HC := HP.out p hlt
        rw [Int.toNat_natCast] at HC
        have HCC := Lib.hid HC
        have hf : 65538 - p = (65538 - (p + 1)) + 1 := by omega
        cases hpr : primeB p
        · have hx := HX.out
          rw [hf, nx_miss hpr] at hx
          have HX2 := Lib.hid hx
          rw [hpr] at HCC
          clear hx hf hpr HC
          go_wp2_with (with_reducible refine (HCC.out _).mono ?_; rintro e w' ⟨rfl, rfl⟩)
          go_round
          case rel => exact ⟨p + 1, by omega, by omega, by go_num, HX2⟩
          case measure => simp [intOf]; omega
        · have hx := HX.out
          rw [hf, nx_hit hpr] at hx
          have HX2 := Lib.hid hx
          rw [hpr] at HCC
          clear hx hf hpr HC
          go_wp2_with (with_reducible refine (HCC.out _).mono ?_; rintro e w' ⟨rfl, rfl⟩)
          go_ret
          rw [HX2.out]
          exact ⟨rfl, rfl⟩
      · have hlt2 : ¬ (p : Int) ≤ 65537 := by omega
        have hx := HX.out
        rw [show 65538 - p = 0 by omega] at hx
        have hr0 : r = 0 := hx.symm
        subst hr0
        clear hx hlt
        go_wp2_with fail
        go_ret
        exact ⟨rfl, rfl⟩
end Go.Proofs.Ytmngagcekhlppaa
