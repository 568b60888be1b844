/-
  math.Float64bits and its kin as laws for the walk; the document's parts, Nan, Quanta; bits of words.
-/
import Derived.Test.YtajmppaodhpmgaaWI
import Derived.Test.YtajmppaodhpmgaaCRefs
import Derived.WalkLawsBesides
import Derived.Laws.Externs
import Derived.Laws.BitsLemmas
import Derived.Lib.EndianBits
import Derived.OwnWalk
namespace Go.Proofs.Ytajmppaodhpmgaa
set_option maxRecDepth 100000
open Go.RowKit Go.Lib

theorem run_f64bits (u : Nat) (w : World) : (callFunc 52 #[.float .f64 u]).run Try.prog w = .ok (.value (.int .u64 (u : Int))) w := by
  rw [run_callFunc_extern Try.func52 (by kernel_rfl) (by kernel_rfl) (by kernel_rfl) (e := Extern.MathFloatBits.float64bits) (by kernel_rfl)]
  rfl
theorem run_f64from (u : Nat) (w : World) : (callFunc 44 #[.int .u64 (u : Int)]).run Try.prog w = .ok (.value (.float .f64 u)) w := by
  rw [run_callFunc_extern Try.func44 (by kernel_rfl) (by kernel_rfl) (by kernel_rfl) (e := Extern.MathFloatBits.float64frombits) (by kernel_rfl)]
  rfl
/-- Sign, exponent, fraction, by the bits. -/
theorem bit63 {u : Nat} (hu : u < T64) : u / 2 ^ 63 = (if ngW u then 1 else 0) := by
  unfold ngW
  unfold T64 at hu
  have e : (2 : Nat) ^ 63 = 2048 * B52 := rfl
  rw [e]
  by_cases h : 2048 * B52 ≤ u
  · rw [decide_eq_true h, if_pos rfl]
    exact Nat.div_eq_of_lt_le (by omega) (by omega)
  · rw [decide_eq_false h, if_neg (by decide)]
    exact Nat.div_eq_of_lt (by omega)
theorem exp_bits (u : Nat) : u / 2 ^ 52 % 2048 = exW u := by
  unfold exW rgW
  rw [← B52_pow, Nat.mul_comm 2048 B52, Nat.mod_mul_right_div_self]
theorem fr_bits (u : Nat) : u % 2 ^ 52 = frW u := by
  unfold frW rgW
  rw [← B52_pow, Nat.mod_mul_left_mod]
theorem and2047 {u : Nat} (hu : u < T64) : bits .and .u64 ((u : Int) / 4503599627370496) 2047 = (exW u : Int) := by
  have h := bits_mask .u64 64 (by decide) wraps_u64 11 (by decide) ((u : Int) / 4503599627370496) (by omega) (by rw [T64_eq] at hu; omega)
  have e : ((2 : Int) ^ 11 - 1) = 2047 := rfl
  rw [e] at h
  rw [h, ← exp_bits u]
  have e2 : (2 : Nat) ^ 52 = 4503599627370496 := rfl
  rw [e2]
  omega
theorem and52 {u : Nat} (hu : u < T64) : bits .and .u64 (u : Int) 4503599627370495 = (frW u : Int) := by
  have h := bits_mask .u64 64 (by decide) wraps_u64 52 (by decide) (u : Int) (by omega) (by rw [T64_eq] at hu; omega)
  have e : ((2 : Int) ^ 52 - 1) = 4503599627370495 := rfl
  rw [e] at h
  rw [h, ← fr_bits u]
  have e2 : (2 : Nat) ^ 52 = 4503599627370496 := rfl
  rw [e2]
  omega
theorem sign_bit {u : Nat} (hu : u < T64) : ((u : Int) / 9223372036854775808 == 1) = ngW u := by
  have h := bit63 hu
  have e2 : (2 : Nat) ^ 63 = 9223372036854775808 := rfl
  rw [e2] at h
  cases hn : ngW u
  · rw [hn] at h
    exact beq_eq_false_iff_ne.2 (by have : u / 9223372036854775808 = 0 := h; omega)
  · rw [hn] at h
    exact beq_iff_eq.2 (by have : u / 9223372036854775808 = 1 := h; omega)
set_option maxHeartbeats 1000000 in
theorem rparts_any {u : Nat} (hu : u < T64) (w : World) : Calls Try.prog 43 #[.float .f64 u] w fun e w' => e = .returned (.tuple #[.bool (ngW u), .int .i64 (exW u : Int), .int .u64 (frW u : Int)]) ∧ w = w' := by
  have hb := run_f64bits u
  have f1 := sign_bit hu
  have f2 := and2047 hu
  have f3 := and52 hu
  have f4 : IntKind.i64.wrap (exW u : Int) = (exW u : Int) := by have := ex_lt u; rw [IntKind.wrap_i64]; omega
  go_enter Try.func43, Try.ntmps43
  go_wp2_with fail
  go_ret3
  exact ⟨rfl, rfl⟩
set_option maxHeartbeats 1000000 in
theorem rnan_any {u : Nat} (hu : u < T64) (w : World) : Calls Try.prog 50 #[.float .f64 u] w fun e w' => e = .returned (.bool (nanW u)) ∧ w = w' := by
  have hP := Lib.hid (rparts_any hu w)
  have he := ex_fr u
  have hx := ex_lt u
  have hn : nanW u = decide (exW u = 2047 ∧ frW u ≠ 0) := by
    unfold nanW
    rw [decide_eq_decide, he]
    have := fr_lt u
    constructor
    · intro h
      have h3 : 2047 ≤ exW u := by
        by_cases h4 : 2047 ≤ exW u
        · exact h4
        · have : exW u * B52 ≤ 2046 * B52 := Nat.mul_le_mul_right _ (by omega)
          omega
      have h5 : exW u = 2047 := by omega
      rw [h5] at h
      exact ⟨h5, by omega⟩
    · rintro ⟨h1, h2⟩
      rw [h1]
      omega
  rw [hn]
  clear hn he
  obtain ⟨x, hxe⟩ : ∃ x, exW u = x := ⟨_, rfl⟩
  obtain ⟨f, hfe⟩ : ∃ f, frW u = f := ⟨_, rfl⟩
  obtain ⟨g, hge⟩ : ∃ g, ngW u = g := ⟨_, rfl⟩
  rw [hxe, hfe, hge] at hP
  rw [hxe] at hx
  rw [hxe, hfe]
  clear hxe hfe hge hu
  by_cases h1 : x = 2047
  · subst h1
    by_cases h2 : f = 0
    · subst h2
      go_enter Try.func50, Try.ntmps50
      go_wp2_with fail
      refine hP.out.mono ?_
      rintro e w' ⟨rfl, rfl⟩
      go_wp2_with fail
      go_ret
      exact ⟨rfl, rfl⟩
    · have b1 : ((f : Int) == 0) = false := beq_eq_false_iff_ne.2 (by omega)
      have b2 : (f == 0) = false := beq_eq_false_iff_ne.2 h2
      have b3 : ((f : Int) != 0) = true := by simp; omega
      have hd : decide (2047 = 2047 ∧ f ≠ 0) = true := decide_eq_true ⟨rfl, h2⟩
      rw [hd]
      clear h2 hd
      go_enter Try.func50, Try.ntmps50
      go_wp2_with fail
      refine hP.out.mono ?_
      rintro e w' ⟨rfl, rfl⟩
      go_wp2_with fail
      go_ret
      exact ⟨rfl, rfl⟩
  · have b1 : ((x : Int) == 2047) = false := beq_eq_false_iff_ne.2 (by omega)
    have b2 : (x == 2047) = false := beq_eq_false_iff_ne.2 h1
    have hd : decide (x = 2047 ∧ f ≠ 0) = false := decide_eq_false (fun h => h1 h.1)
    rw [hd]
    clear h1 hd
    go_enter Try.func50, Try.ntmps50
    go_wp2_with fail
    refine hP.out.mono ?_
    rintro e w' ⟨rfl, rfl⟩
    go_wp2_with fail
    go_ret
    exact ⟨rfl, rfl⟩
end Go.Proofs.Ytajmppaodhpmgaa
