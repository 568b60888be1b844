/-
  crc.step, crc.steps, and the reference's eight steps.
-/
import Derived.Test.YtaabfhfiipmhcaaCText
import Derived.Test.YtaabfhfiipmhcaaCrcMath
namespace Go.Proofs.Ytaabfhfiipmhcaa
open Go.RowKit Go.Lib

theorem and1_w (w : Nat) (h : w < 4294967296) : bits .and .u32 (w : Int) 1 = ((w % 2 : Nat) : Int) := by
  rw [show (1 : Int) = ((1 : Nat) : Int) from rfl, u32_and_nat w 1 h (by decide), nat_mask1]
theorem xorp_w (w : Nat) (h : w < 4294967296) : bits .xor .u32 (w : Int) 2197175160 = ((w ^^^ 2197175160 : Nat) : Int) := by
  rw [show (2197175160 : Int) = ((2197175160 : Nat) : Int) from rfl, u32_xor_nat w _ h (by decide)]
theorem half_w (w : Nat) : (w : Int) / 2 = ((w / 2 : Nat) : Int) := by omega
theorem st_odd {w : Nat} (h : w % 2 = 1) : st w = w / 2 ^^^ 2197175160 := by unfold st; rw [if_pos h]
theorem st_evn {w : Nat} (h : w % 2 = 0) : st w = w / 2 := by unfold st; rw [if_neg (by omega)]

set_option maxHeartbeats 400000 in
/-- crc.step -/
theorem step_any (n : Nat) (hn : n < 4294967296) (w : World) :
    Calls Try.prog 44 #[.int .u32 (n : Int)] w fun e w' => e = .returned (.int .u32 ((st n : Nat) : Int)) ∧ w = w' := by
  have h1 := and1_w n hn
  have h2 := xorp_w (n / 2) (by omega)
  rw [← half_w] at h2
  have H2 := Lib.hid h2
  clear h2
  rcases Nat.mod_two_eq_zero_or_one n with hm | hm
  · rw [st_evn hm]
    rw [hm] at h1
    clear hm
    go_enter Try.func44, Try.ntmps44
    go_wp2
    go_ret
    exact ⟨rfl, rfl⟩
  · rw [st_odd hm]
    rw [hm] at h1
    clear hm
    go_enter Try.func44, Try.ntmps44
    go_wp2
    go_ret
    rw [H2.out]
    exact ⟨rfl, rfl⟩

set_option maxHeartbeats 1000000 in
/-- crc.steps -/
theorem steps_any (n k : Nat) (hn : n < 4294967296) (hk : k ≤ 1000000) (w : World) :
    Calls Try.prog 43 #[.int .u32 (n : Int), .int .i64 (k : Int)] w fun e w' => e = .returned (.int .u32 ((itr k n : Nat) : Int)) ∧ w = w' := by
  obtain ⟨R, hR⟩ : ∃ R, itr k n = R := ⟨_, rfl⟩
  rw [hR]
  have HR := Lib.hid hR
  clear hR
  go_enter Try.func43, Try.ntmps43
  go_wp2_with fail
  go_loop [0, 6] (fun u i => ∃ m j : Nat, m < 4294967296 ∧ u = .int .u32 (m : Int) ∧ i = .int .i64 (j : Int) ∧ j ≤ k ∧ itr (k - j) m = R)
    (fun _ i => k - (intOf i).toNat)
  case atStart => exact ⟨n, 0, hn, rfl, rfl, by omega, HR.out⟩
  case round =>
    obtain ⟨m, j, hm, rfl, rfl, hj, hr⟩ := hrel
    by_cases hlt : j < k
    · have hlt' : (j : Int) < (k : Int) := by omega
      have hs := st_lt hm
      rw [show k - j = (k - (j + 1)) + 1 by omega] at hr
      have HQ := Lib.hid hr
      clear hr
      go_wp2_with (go_at_call 44; refine (step_any m hm _).mono ?_; rintro e w' ⟨rfl, rfl⟩)
      go_round
      case rel => exact ⟨st m, j + 1, hs, by go_num, by go_num, by omega, HQ.out⟩
      case measure => simp [intOf]; omega
    · obtain rfl : j = k := by omega
      rw [Nat.sub_self] at hr
      have HQ := Lib.hid hr
      clear hr
      go_wp2_with fail
      go_ret
      rw [← HQ.out]
      exact ⟨rfl, rfl⟩

theorem half_p {m : Nat} (h : m < 4294967296) : m / 2 < 4294967296 := by omega

set_option maxHeartbeats 1000000 in
/-- The reference's eight steps. -/
theorem rbits_any (n : Nat) (hn : n < 4294967296) (w : World) :
    Calls Try.prog 40 #[.int .u32 (n : Int)] w fun e w' => e = .returned (.int .u32 ((itr 8 n : Nat) : Int)) ∧ w = w' := by
  obtain ⟨R, hR⟩ : ∃ R, itr 8 n = R := ⟨_, rfl⟩
  rw [hR]
  have HR := Lib.hid hR
  clear hR
  go_enter Try.func40, Try.ntmps40
  go_wp2_with fail
  go_loop [0, 3] (fun u i => ∃ m j : Nat, m < 4294967296 ∧ u = .int .u32 (m : Int) ∧ i = .int .i64 (j : Int) ∧ j ≤ 8 ∧ itr (8 - j) m = R)
    (fun _ i => 8 - (intOf i).toNat)
  case atStart => exact ⟨n, 0, hn, rfl, rfl, by omega, HR.out⟩
  case round =>
    obtain ⟨m, j, hm, rfl, rfl, hj, hr⟩ := hrel
    by_cases hlt : j < 8
    · have hlt' : (j : Int) < 8 := by omega
      have hs := st_lt hm
      rw [show 8 - j = (8 - (j + 1)) + 1 by omega] at hr
      have HQ := Lib.hid hr
      clear hr
      have h2 := xorp_w (m / 2) (by omega)
      rw [← half_w] at h2
      have H2 := Lib.hid h2
      clear h2
      rcases Nat.mod_two_eq_zero_or_one m with hz | hz
      · have he := Lib.hid (st_evn hz)
        have hz' : (m : Int) % 2 = 0 := by omega
        clear hz
        go_wp2_with fail
        go_round
        case rel => exact ⟨st m, j + 1, hs, by rw [he.out]; go_num, by go_num, by omega, HQ.out⟩
        case measure => simp [intOf]; omega
      · have he := Lib.hid (st_odd hz)
        have hz' : (m : Int) % 2 = 1 := by omega
        clear hz
        go_wp2_with fail
        rw [H2.out]
        go_round
        case rel => exact ⟨st m, j + 1, hs, by rw [he.out], by go_num, by omega, HQ.out⟩
        case measure => simp [intOf]; omega
    · obtain rfl : j = 8 := by omega
      rw [Nat.sub_self] at hr
      have HQ := Lib.hid hr
      clear hr
      go_wp2_with fail
      go_ret
      rw [← HQ.out]
      exact ⟨rfl, rfl⟩

end Go.Proofs.Ytaabfhfiipmhcaa
