/-
  The program's Prime and Next of stage 16, with the root by which Prime stops.
-/
import Derived.Test.YtmngagcekhlppaaJRef3
namespace Go.Proofs.Ytmngagcekhlppaa
set_option maxRecDepth 100000
open Go.RowKit Go.Lib

set_option maxHeartbeats 2000000 in
theorem root_any (n : Nat) (hn : n ≤ 4294967296) (w : World) : Calls Try.prog 47 #[.int .i64 (n : Int)] w fun e w' => ∃ r : Nat, e = .returned (.int .i64 (r : Int)) ∧ r * r ≤ n ∧ n < (r + 1) * (r + 1) ∧ w = w' := by
  have HN := Lib.hid hn
  go_enter Try.func47, Try.ntmps47
  go_wp2_with fail
  go_loop [3, 6] (fun r i => ∃ k x t : Nat, k ≤ 32 ∧ i = .int .i64 (k : Int) ∧ r = .int .i64 (x : Int) ∧ Hid (t = 2 ^ (32 - k) ∧ x * x ≤ n ∧ n < (x + t) * (x + t)))
    (fun _ i => 33 - (intOf i).toNat)
  case atStart => exact ⟨0, 0, 2 ^ 32, by omega, rfl, rfl, Lib.hid ⟨rfl, Nat.zero_le _, by have := HN.out; rw [Nat.zero_add]; exact Nat.lt_of_le_of_lt this (by decide)⟩⟩
  case round =>
    obtain ⟨k, x, t, hk, rfl, rfl, HX⟩ := hrel
    by_cases h : k < 32
    · have hlt : (k : Int) < 32 := by omega
      obtain ⟨T, hT⟩ : ∃ T : Nat, 2 ^ (31 - k) = T := ⟨_, rfl⟩
      have hT1 : 1 ≤ T := by rw [← hT]; exact Nat.one_le_two_pow
      have hT2 : T ≤ 2 ^ 31 := by rw [← hT]; exact Nat.pow_le_pow_right (by decide) (by omega)
      have hTt : t = 2 * T := by rw [HX.out.1, ← hT, show 32 - k = (31 - k) + 1 by omega, Nat.pow_succ]; omega
      have hw : wrap64 ((2 : Int) ^ (31 - k)) = (T : Int) := by
        rw [show ((2 : Int) ^ (31 - k)) = (T : Int) by rw [← hT, Int.natCast_pow]; rfl]
        unfold wrap64
        omega
      have hxx : x ≤ 65536 := by
        rcases Nat.lt_or_ge 65536 x with c | c
        · exfalso
          have := Nat.mul_le_mul (show 65537 ≤ x from c) (show 65537 ≤ x from c)
          have := HX.out.2.1
          have := HN.out
          omega
        · exact c
      obtain ⟨m, hm⟩ : ∃ m, x + T = m := ⟨_, rfl⟩
      have hmi : (x : Int) + (T : Int) = (m : Int) := by omega
      have hm0 : 1 ≤ m := by omega
      have hm1 : m ≤ 2 ^ 31 + 65536 := by omega
      have hdv : (n : Int) / (m : Int) = ((n / m : Nat) : Int) := by rw [Int.natCast_ediv]
      have hdl : n / m ≤ 4294967296 := Nat.le_trans (Nat.div_le_self n m) HN.out
      have HI := Lib.hid (Nat.le_div_iff_mul_le (x := m) (y := n) (k := m) (by omega))
      obtain ⟨d, hd⟩ : ∃ d, n / m = d := ⟨_, rfl⟩
      rw [hd] at hdv hdl HI
      have hz : ((m : Int) == 0) = false := beq_eq_false_iff_ne.2 (by omega)
      have hz2 : ¬ (m : Int) = 0 := by omega
      have HM := Lib.hid hm
      have HT := Lib.hid hT
      have HTT := Lib.hid hTt
      have HN1 := Lib.hid hT2
      clear hd hm hT hTt hT1 hT2 h hxx
      by_cases hle : m ≤ d
      · have hle2 : (m : Int) ≤ (d : Int) := by omega
        have HL := Lib.hid hle
        clear hle
        go_wp2_with fail
        refine ⟨⟨k + 1, m, T, by omega, by go_num, rfl, Lib.hid ⟨by rw [← HT.out]; congr 1; omega, HI.out.1 HL.out, ?_⟩⟩, ?_⟩
        · have := HX.out.2.2
          rw [HTT.out, show x + 2 * T = m + T by have := HM.out; omega] at this
          exact this
        · simp [intOf]; omega
      · have hle2 : ¬ (m : Int) ≤ (d : Int) := by omega
        have HL := Lib.hid hle
        clear hle
        go_wp2_with fail
        refine ⟨⟨k + 1, x, T, by omega, by go_num, rfl, Lib.hid ⟨by rw [← HT.out]; congr 1; omega, HX.out.2.1, ?_⟩⟩, ?_⟩
        · rw [HM.out]
          exact Nat.lt_of_not_le fun c => HL.out (HI.out.2 c)
        · simp [intOf]; omega
    · obtain rfl : k = 32 := by omega
      have hx := HX.out
      rw [Nat.sub_self, Nat.pow_zero] at hx
      have HX2 := Lib.hid hx
      have hlt : ¬ (32 : Int) < 32 := by omega
      clear hx h hk
      go_wp2_with fail
      go_ret
      exact ⟨x, rfl, HX2.out.2.1, by have := HX2.out.2.2; rw [HX2.out.1] at this; exact this, rfl⟩
set_option maxHeartbeats 2000000 in
theorem pprime_any (z : Int) (h1 : -4294967296 ≤ z) (h2 : z ≤ 4294967296) (w : World) : Calls Try.prog 34 #[.int .i64 z] w fun e w' => e = .returned (.bool (primeB z.toNat)) ∧ w = w' := by
  by_cases hz : z < 2
  · rw [primeB_small (n := z.toNat) (by omega)]
    have hz2 : (z == 2) = false := beq_eq_false_iff_ne.2 (by omega)
    go_enter Try.func34, Try.ntmps34
    go_wp2_with fail
    go_ret
    exact ⟨rfl, rfl⟩
  · obtain ⟨n, rfl⟩ := Int.eq_ofNat_of_zero_le (show 0 ≤ z by omega)
    rw [Int.toNat_natCast]
    have hz2 : ¬ (n : Int) < 2 := by omega
    have hn2 : n ≤ 4294967296 := by omega
    have hn1 : 2 ≤ n := by omega
    obtain ⟨v, hv⟩ : ∃ r, primeB n = r := ⟨_, rfl⟩
    rw [hv]
    have HV := Lib.hid hv
    clear hv hz h1 h2
    have he : (n : Int) % 2 = ((n % 2 : Nat) : Int) := by omega
    by_cases h2 : n % 2 = 0
    · have he2 : ((n : Int) % 2 == 0) = true := by rw [he, h2]; rfl
      have hr : ((n : Int) == 2) = v := by
        by_cases h : n = 2
        · subst h
          rw [← HV.out]
          decide +kernel
        · rw [← HV.out, primeB_no 2 (by omega) (by omega) h2]
          exact beq_eq_false_iff_ne.2 (by omega)
      clear he h2
      go_enter Try.func34, Try.ntmps34
      go_wp2_with fail
      go_ret
      exact ⟨rfl, rfl⟩
    · have he2 : ((n : Int) % 2 == 0) = false := by rw [he]; exact beq_eq_false_iff_ne.2 (by omega)
      have HR := Lib.hid (fun W => root_any n hn2 W)
      have H2 := Lib.hid h2
      clear he h2
      go_enter Try.func34, Try.ntmps34
      go_wp2_with fail
      refine (HR.out w).mono ?_
      rintro e w' ⟨r, rfl, hr1, hr2, rfl⟩
      have HR1 := Lib.hid hr1
      have HR2 := Lib.hid hr2
      have hrn : r ≤ 65536 := by
        rcases Nat.lt_or_ge 65536 r with c | c
        · exfalso
          have := Nat.mul_le_mul (show 65537 ≤ r from c) (show 65537 ≤ r from c)
          omega
        · exact c
      have hr0 : 1 ≤ r := by
        rcases Nat.eq_zero_or_pos r with c | c
        · subst c
          omega
        · exact c
      obtain ⟨q, hq⟩ : ∃ q, r - 1 = q := ⟨_, rfl⟩
      have hqi : (r : Int) - 1 = (q : Int) := by omega
      obtain ⟨h, hh⟩ : ∃ h, q / 2 = h := ⟨_, rfl⟩
      have hhi : (q : Int) / 2 = (h : Int) := by omega
      have HH := Lib.hid (show h = (r - 1) / 2 by rw [hq, hh])
      have hhm : h ≤ 32768 := by omega
      have HR3 := Lib.hid hr0
      clear hr1 hr2 hq hh
      go_wp2_with fail
      go_loop [17] (fun i => ∃ k : Nat, k ≤ h ∧ i = .int .i64 (k : Int) ∧ Hid (∀ e, 2 ≤ e → e < 2 * k + 3 → n % e ≠ 0))
        (fun i => h - (intOf i).toNat)
      case atStart => exact ⟨0, Nat.zero_le _, rfl, Lib.hid (fun e h1 h2 => by obtain rfl : e = 2 := (by omega); exact H2.out)⟩
      case round =>
        obtain ⟨k, hk, rfl, HX⟩ := hrel
        by_cases hlt : k < h
        · have hl2 : (k : Int) < (h : Int) := by omega
          have hd : 2 * (k : Int) + 3 = ((2 * k + 3 : Nat) : Int) := by omega
          have hmm : (n : Int) % (2 * (k : Int) + 3) = ((n % (2 * k + 3) : Nat) : Int) := by rw [hd, Int.natCast_emod]
          have HSQ : Hid ((2 * k + 3) * (2 * k + 3) ≤ n) := Lib.hid (Nat.le_trans (Nat.mul_le_mul (show 2 * k + 3 ≤ r by have := HH.out; omega) (show 2 * k + 3 ≤ r by have := HH.out; omega)) HR1.out)
          obtain ⟨m, hm⟩ : ∃ m, n % (2 * k + 3) = m := ⟨_, rfl⟩
          rw [hm] at hmm
          have HM := Lib.hid hm
          clear hm hd
          by_cases h0 : m = 0
          · subst h0
            have hvf : v = false := by
              rw [← HV.out]
              exact primeB_no (2 * k + 3) (by omega) HSQ.out HM.out
            subst hvf
            have h00 : (((0 : Nat) : Int) == 0) = true := rfl
            go_wp2_with fail
            go_ret
            exact ⟨rfl, rfl⟩
          · have h00 : ((m : Int) == 0) = false := beq_eq_false_iff_ne.2 (by omega)
            have HN : Hid (∀ e, 2 ≤ e → e < 2 * (k + 1) + 3 → n % e ≠ 0) := Lib.hid (fun e h1 h2 => by
              rcases Nat.lt_or_ge e (2 * k + 3) with c | c
              · exact HX.out e h1 c
              · rcases Nat.eq_or_lt_of_le c with c2 | c2
                · rw [← c2, HM.out]
                  exact h0
                · obtain rfl : e = 2 * (k + 2) := by omega
                  intro c3
                  have c4 := Nat.dvd_trans (Nat.dvd_mul_right 2 (k + 2)) (Nat.dvd_of_mod_eq_zero c3)
                  exact H2.out (Nat.mod_eq_zero_of_dvd c4))
            clear h0
            go_wp2_with fail
            refine ⟨⟨k + 1, by omega, by go_num, HN⟩, ?_⟩
            simp [intOf]
            omega
        · obtain rfl : k = h := by omega
          have hl2 : ¬ (k : Int) < (k : Int) := by omega
          have hvt : v = true := by
            rw [← HV.out, primeB_iff]
            refine ⟨hn1, fun e h1 h2 => ?_⟩
            rcases Nat.lt_or_ge e (2 * k + 3) with c | c
            · exact HX.out e h1 c
            · rcases Nat.lt_or_ge r e with c2 | c2
              · exfalso
                have := Nat.mul_le_mul (show r + 1 ≤ e from c2) (show r + 1 ≤ e from c2)
                have := HR2.out
                omega
              · obtain rfl : e = 2 * (k + 2) := by have := HH.out; omega
                intro c3
                have c4 := Nat.dvd_trans (Nat.dvd_mul_right 2 (k + 2)) (Nat.dvd_of_mod_eq_zero c3)
                exact H2.out (Nat.mod_eq_zero_of_dvd c4)
          subst hvt
          go_wp2_with fail
          go_ret
          exact ⟨rfl, rfl⟩
set_option maxHeartbeats 2000000 in
theorem pnext_any (z : Int) (h2 : z ≤ 9223372036854775807) (w : World) : Calls Try.prog 25 #[.int .i64 z] w fun e w' => e = .returned (.int .i64 (nextN z : Nat)) ∧ w = w' := by
  obtain ⟨r, hr⟩ : ∃ r, nextN z = r := ⟨_, rfl⟩
  rw [hr]
  unfold nextN at hr
  have HL : Hid (lowN z = if z < 2 then 2 else z.toNat) := Lib.hid rfl
  obtain ⟨m, hm⟩ : ∃ m, lowN z = m := ⟨_, rfl⟩
  rw [hm] at HL hr
  have hm2 : m ≤ 9223372036854775807 := by have := HL.out; split at this <;> omega
  have hm3 : 2 ≤ m := by have := HL.out; split at this <;> omega
  have HR := Lib.hid hr
  have HM := Lib.hid hm2
  have HM3 := Lib.hid hm3
  have HP := Lib.hid (fun (p : Nat) (hp : p ≤ 65537) (W : World) => pprime_any (p : Int) (by omega) (by omega) W)
  clear hr hm hm2 hm3
  go_enter Try.func25, Try.ntmps25
  by_cases hz : z < 2
  · obtain rfl : m = 2 := by have := HL.out; rw [if_pos hz] at this; exact this
    clear HL
    go_wp2_with fail
    go_loop [3] (fun i => ∃ p : Nat, 2 ≤ p ∧ p ≤ 9223372036854775807 ∧ i = .int .i64 (p : Int) ∧ Hid (nx (65538 - p) p = r))
      (fun i => 65540 - (intOf i).toNat)
    case atStart => exact ⟨2, by omega, by have := HM.out; omega, rfl, HR⟩
    case round =>
      obtain ⟨p, hp2, hp, rfl, HX⟩ := hrel
      by_cases hlt : p ≤ 65537
      · have hlt2 : (p : Int) ≤ 65537 := by omega
        have HC := HP.out p hlt
        rw [Int.toNat_natCast] at HC
        have HCC := Lib.hid HC
        have hf : 65538 - p = (65538 - (p + 1)) + 1 := by omega
        cases hpr : primeB p
        · have hx := HX.out
          rw [hf, nx_miss hpr] at hx
          have HX2 := Lib.hid hx
          rw [hpr] at HCC
          clear hx hf hpr HC
          go_wp2_with (with_reducible refine (HCC.out _).mono ?_; rintro e w' ⟨rfl, rfl⟩)
          go_round
          case rel => exact ⟨p + 1, by omega, by omega, by go_num, HX2⟩
          case measure => simp [intOf]; omega
        · have hx := HX.out
          rw [hf, nx_hit hpr] at hx
          have HX2 := Lib.hid hx
          rw [hpr] at HCC
          clear hx hf hpr HC
          go_wp2_with (with_reducible refine (HCC.out _).mono ?_; rintro e w' ⟨rfl, rfl⟩)
          go_ret
          rw [HX2.out]
          exact ⟨rfl, rfl⟩
      · have hlt2 : ¬ (p : Int) ≤ 65537 := by omega
        have hx := HX.out
        rw [show 65538 - p = 0 by omega] at hx
        have hr0 : r = 0 := hx.symm
        subst hr0
        clear hx hlt
        go_wp2_with fail
        go_ret
        exact ⟨rfl, rfl⟩
  · obtain ⟨n, rfl⟩ := Int.eq_ofNat_of_zero_le (show 0 ≤ z by omega)
    obtain rfl : m = n := by have := HL.out; rw [if_neg hz, Int.toNat_natCast] at this; exact this
    clear HL
    go_wp2_with fail
    go_loop [3] (fun i => ∃ p : Nat, 2 ≤ p ∧ p ≤ 9223372036854775807 ∧ i = .int .i64 (p : Int) ∧ Hid (nx (65538 - p) p = r))
      (fun i => 65540 - (intOf i).toNat)
    case atStart => exact ⟨m, HM3.out, by have := HM.out; omega, rfl, HR⟩
    case round =>
      obtain ⟨p, hp2, hp, rfl, HX⟩ := hrel
      by_cases hlt : p ≤ 65537
      · have hlt2 : (p : Int) ≤ 65537 := by omega
        have HC := HP.out p hlt
        rw [Int.toNat_natCast] at HC
        have HCC := Lib.hid HC
        have hf : 65538 - p = (65538 - (p + 1)) + 1 := by omega
        cases hpr : primeB p
        · have hx := HX.out
          rw [hf, nx_miss hpr] at hx
          have HX2 := Lib.hid hx
          rw [hpr] at HCC
          clear hx hf hpr HC
          go_wp2_with (with_reducible refine (HCC.out _).mono ?_; rintro e w' ⟨rfl, rfl⟩)
          go_round
          case rel => exact ⟨p + 1, by omega, by omega, by go_num, HX2⟩
          case measure => simp [intOf]; omega
        · have hx := HX.out
          rw [hf, nx_hit hpr] at hx
          have HX2 := Lib.hid hx
          rw [hpr] at HCC
          clear hx hf hpr HC
          go_wp2_with (with_reducible refine (HCC.out _).mono ?_; rintro e w' ⟨rfl, rfl⟩)
          go_ret
          rw [HX2.out]
          exact ⟨rfl, rfl⟩
      · have hlt2 : ¬ (p : Int) ≤ 65537 := by omega
        have hx := HX.out
        rw [show 65538 - p = 0 by omega] at hx
        have hr0 : r = 0 := hx.symm
        subst hr0
        clear hx hlt
        go_wp2_with fail
        go_ret
        exact ⟨rfl, rfl⟩
end Go.Proofs.Ytmngagcekhlppaa
