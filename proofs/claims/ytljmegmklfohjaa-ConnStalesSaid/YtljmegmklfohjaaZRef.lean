/-
  The document's Bit, opens, tick, Begin, Next (stage 20).
-/
import Derived.Test.YtljmegmklfohjaaZTick
import Derived.Test.YtljmegmklfohjaaZOpen
import Derived.BigQuiet
import Derived.Deep.QuietTactic
namespace Go.Proofs.Ytljmegmklfohjaa
set_option maxRecDepth 100000
open Go.RowKit Go.Lib

set_option maxHeartbeats 4000000 in
theorem rbit_any (z : Int) (_ : In64 z) (w : Nat) (hw : 0 < w) (hw2 : w ≤ 64) (W : World) : Calls Try.prog 20 #[.int .i64 z, .int .i64 (w : Int)] W fun e w' => e = .returned (.bool (bitB z w)) ∧ W = w' := by
  obtain ⟨r, hr⟩ : ∃ r, Int.tmod z 64 = r := ⟨_, rfl⟩
  obtain ⟨n, hn⟩ : ∃ n, fl z = n := ⟨_, rfl⟩
  have hn64 : n < 64 := by rw [← hn]; exact fl_lt z
  obtain ⟨d, hd⟩ : ∃ d, n / w = d := ⟨_, rfl⟩
  have hd64 : d ≤ n := by rw [← hd]; exact Nat.div_le_self _ _
  have k1 : Int.tdiv (n : Int) (w : Int) = (d : Int) := by rw [← hd]; exact Int.ofNat_tdiv n w
  have k2 : Int.tmod (d : Int) 2 = ((d % 2 : Nat) : Int) := by exact Int.ofNat_tmod d 2
  have k3 : ((w : Int) == 0) = false := by simp; omega
  obtain ⟨b, hb⟩ : ∃ b, d % 2 = b := ⟨_, rfl⟩
  have hb2 : b < 2 := by rw [← hb]; exact Nat.mod_lt _ (by decide)
  rw [hb] at k2
  have HB : Hid (bitB z w = ((b : Int) == 1)) := Lib.hid (by
    unfold bitB
    rw [hn, hd, hb]
    have h5 : b = 0 ∨ b = 1 := by omega
    rcases h5 with rfl | rfl <;> rfl)
  have hr1 : -64 < r ∧ r < 64 ∧ (n : Int) = (if r < 0 then r + 64 else r) := by
    rw [← hn, ← hr]
    unfold fl
    rw [Int.tmod_eq_emod]
    have h9 := Int.emod_nonneg z (show (64 : Int) ≠ 0 by decide)
    have h8 := Int.emod_lt_of_pos z (show (0 : Int) < 64 by decide)
    by_cases h7 : 0 ≤ z ∨ (64 : Int) ∣ z
    · rw [if_pos h7]
      simp
      omega
    · rw [if_neg h7]
      have h6 : z % 64 ≠ 0 := fun e => h7 (.inr (Int.dvd_of_emod_eq_zero e))
      simp
      split <;> omega
  rw [HB.out]
  clear hn hd hb HB
  obtain ⟨hr1, hr2, hr3⟩ := hr1
  have kw : IntKind.i64.wrap r = r := wZ r (by omega) (by omega)
  by_cases h : r < 0
  · rw [if_pos h] at hr3
    have k5 : r + 64 = (n : Int) := hr3.symm
    clear hr3
    go_enter Try.func20, Try.ntmps20
    go_wp2_with fail
    go_ret
    exact ⟨rfl, rfl⟩
  · rw [if_neg h] at hr3
    subst hr3
    go_enter Try.func20, Try.ntmps20
    go_wp2_with fail
    go_ret
    exact ⟨rfl, rfl⟩
theorem rbit4 (z : Int) (hz : In64 z) : Hid (∀ W, Calls Try.prog 20 #[.int .i64 z, .int .i64 4] W fun e w' => e = .returned (.bool (bitB z 4)) ∧ W = w') := Lib.hid (fun W => rbit_any z hz 4 (by decide) (by decide) W)
theorem rbit1 (z : Int) (hz : In64 z) : Hid (∀ W, Calls Try.prog 20 #[.int .i64 z, .int .i64 1] W fun e w' => e = .returned (.bool (bitB z 1)) ∧ W = w') := Lib.hid (fun W => rbit_any z hz 1 (by decide) (by decide) W)
theorem rbit2 (z : Int) (hz : In64 z) : Hid (∀ W, Calls Try.prog 20 #[.int .i64 z, .int .i64 2] W fun e w' => e = .returned (.bool (bitB z 2)) ∧ W = w') := Lib.hid (fun W => rbit_any z hz 2 (by decide) (by decide) W)
theorem rbit16 (z : Int) (hz : In64 z) : Hid (∀ W, Calls Try.prog 20 #[.int .i64 z, .int .i64 16] W fun e w' => e = .returned (.bool (bitB z 16)) ∧ W = w') := Lib.hid (fun W => rbit_any z hz 16 (by decide) (by decide) W)
theorem ropens_any (z : Int) (hz : In64 z) (W : World) : Calls Try.prog 21 #[.int .i64 z] W fun e w' => e = .returned (.bool (opB z)) ∧ W = w' := by
  have H2 := rbit2 z hz
  have H16 := rbit16 z hz
  have HO : Hid (opB z = (bitB z 2 && !bitB z 16)) := Lib.hid rfl
  rw [HO.out]
  clear HO hz
  generalize bitB z 2 = a at H2 ⊢
  generalize bitB z 16 = b at H16 ⊢
  cases a <;> cases b
  all_goals
    go_enter Try.func21, Try.ntmps21
    go_wp2_with (first
      | (with_reducible refine (H2.out _).mono ?_; rintro e w' ⟨rfl, rfl⟩)
      | (with_reducible refine (H16.out _).mono ?_; rintro e w' ⟨rfl, rfl⟩))
    go_ret
    exact ⟨rfl, rfl⟩
theorem rbegin20_any (p z : Int) (hz : In64 z) (W : World) : Calls Try.prog 12 #[.int .i64 p, .int .i64 z] W fun e w' => e = .returned (.int .i64 (stB p z)) ∧ W = w' := by
  have H4 := rbit4 z hz
  have H1 := rbit1 z hz
  have HO := Lib.hid (fun W => ropens_any z hz W)
  obtain ⟨r, hr⟩ : ∃ r, stB p z = r := ⟨_, rfl⟩
  rw [hr]
  unfold stB at hr
  clear hz
  generalize bitB z 4 = b4 at H4 hr
  generalize bitB z 1 = b1 at H1 hr
  generalize opB z = bo at HO hr
  by_cases h17 : p = 17
  · rw [if_pos h17] at hr
    subst hr
    subst h17
    go_enter Try.func12, Try.ntmps12
    go_wp2_with fail
    go_ret
    exact ⟨rfl, rfl⟩
  · rw [if_neg h17] at hr
    have k17 : (p == 17) = false := beq_eq_false_iff_ne.2 h17
    by_cases h6 : p = 6
    · rw [if_neg (by simpa using h6)] at hr
      subst h6
      clear h17
      cases b4 <;> cases b1 <;> cases bo
      all_goals
        simp at hr
        subst hr
        go_enter Try.func12, Try.ntmps12
        go_wp2_with (first
          | (with_reducible refine (H4.out _).mono ?_; rintro e w' ⟨rfl, rfl⟩)
          | (with_reducible refine (H1.out _).mono ?_; rintro e w' ⟨rfl, rfl⟩)
          | (with_reducible refine (HO.out _).mono ?_; rintro e w' ⟨rfl, rfl⟩))
        go_ret
        exact ⟨rfl, rfl⟩
    · rw [if_pos h6] at hr
      subst hr
      have k6 : (p != 6) = true := bne_iff_ne.2 h6
      clear h6 h17
      go_enter Try.func12, Try.ntmps12
      go_wp2_with fail
      go_ret
      exact ⟨rfl, rfl⟩
set_option maxHeartbeats 8000000 in
theorem rnext20_any (s z : Int) (hz : In64 z) (W : World) : Calls Try.prog 14 #[.int .i64 s, .int .i64 z] W fun e w' => e = .returned (.int .i64 (stN s z)) ∧ W = w' := by
  have H4 := rbit4 z hz
  have H1 := rbit1 z hz
  have H2 := rbit2 z hz
  have H16 := rbit16 z hz
  have HO := Lib.hid (fun W => ropens_any z hz W)
  obtain ⟨r, hr⟩ : ∃ r, stN s z = r := ⟨_, rfl⟩
  rw [hr]
  unfold stN at hr
  clear hz
  generalize bitB z 4 = b4 at H4 hr
  generalize bitB z 1 = b1 at H1 hr
  generalize bitB z 2 = b2 at H2 hr
  generalize bitB z 16 = b16 at H16 hr
  generalize opB z = bo at HO hr
  by_cases h5 : s = 5
  · rw [if_pos h5] at hr
    subst hr
    subst h5
    go_enter Try.func14, Try.ntmps14
    go_wp2_with fail
    go_ret
    exact ⟨rfl, rfl⟩
  · rw [if_neg h5] at hr
    have k5 : (s == 5) = false := beq_eq_false_iff_ne.2 h5
    by_cases ho : s < 1 ∨ 5 < s
    · rw [if_pos ho] at hr
      subst hr
      rcases ho with ho | ho
      · clear h5
        go_enter Try.func14, Try.ntmps14
        go_wp2_with fail
        go_ret
        exact ⟨rfl, rfl⟩
      · have h1 : ¬ s < 1 := by omega
        clear h5
        go_enter Try.func14, Try.ntmps14
        go_wp2_with fail
        go_ret
        exact ⟨rfl, rfl⟩
    · rw [if_neg ho] at hr
      have hs : s = 1 ∨ s = 2 ∨ s = 3 ∨ s = 4 := by omega
      clear ho h5 k5
      rcases hs with rfl | rfl | rfl | rfl <;> cases b4
      all_goals (try (cases bo <;> cases b1 <;> cases b16 <;> cases b2))
      all_goals
        simp at hr
        subst hr
        go_enter Try.func14, Try.ntmps14
        go_wp2_with (first
          | (with_reducible refine (H4.out _).mono ?_; rintro e w' ⟨rfl, rfl⟩)
          | (with_reducible refine (H1.out _).mono ?_; rintro e w' ⟨rfl, rfl⟩)
          | (with_reducible refine (H2.out _).mono ?_; rintro e w' ⟨rfl, rfl⟩)
          | (with_reducible refine (H16.out _).mono ?_; rintro e w' ⟨rfl, rfl⟩)
          | (with_reducible refine (HO.out _).mono ?_; rintro e w' ⟨rfl, rfl⟩))
        go_ret
        exact ⟨rfl, rfl⟩
end Go.Proofs.Ytljmegmklfohjaa
