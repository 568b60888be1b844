/-
  The law's 'awake' of stage 14.
-/
import Derived.Test.YtcimgbjliamaiaaWZ
namespace Go.Proofs.Ytcimgbjliamaiaa
set_option maxRecDepth 100000
open Go.RowKit Go.Lib Go.Shelf

theorem of_1536 : ofW 1536 = 4609434218613702656 := by unfold ofW; rw [K74_eq]; decide +kernel
theorem aw_qu (u q : Nat) (t : Bool) (hu : u < T64) (h1 : wtW u = t) (h2 : quW u = q) (w : World) : Calls Try.prog 11 #[.float .f64 u] w fun e w' => e = .returned (.tuple #[.int .i64 (q : Int), .bool t]) ∧ w = w' := by
  rw [← h1, ← h2]; exact wqu_any hu w
theorem aw_right (u : Nat) (t : Bool) (hu : u < T64) (h1 : wtW u = t) (w : World) : Calls Try.prog 13 #[.float .f64 u] w fun e w' => e = .returned (.bool t) ∧ w = w' := by
  rw [← h1]; exact wright_any hu w
theorem aw_same (u v : Nat) (t : Bool) (hu : u < T64) (hv : v < T64) (h : decide (canW u = canW v) = t) (w : World) : Calls Try.prog 14 #[.float .f64 u, .float .f64 v] w fun e w' => e = .returned (.bool t) ∧ Below w.heap.size w w' := by
  rw [← h]; exact wsame_any hu hv w
theorem no_qu {u : Nat} (h : wtW u = false) : quW u = 0 := by unfold quW; rw [if_neg (by rw [h]; decide)]
theorem qu_15 : wtW 4609434218613702656 = true ∧ quW 4609434218613702656 = 1536 := by
  rw [← of_1536]; exact ⟨of_right (by decide), of_quanta (by decide)⟩
theorem qu_minus : quW 9223372036854775808 = 0 := by
  have e : rgW 9223372036854775808 = 0 := by decide
  unfold quW
  rw [if_pos (by decide), e, unitV_low (by decide), Nat.zero_div]
theorem got_15 : okW [63, 248, 0, 0, 0, 0, 0, 0] = true ∧ gotW [63, 248, 0, 0, 0, 0, 0, 0] = 4609434218613702656 := by decide +kernel
theorem put_nan : putW 9221120237041090561 = [127, 248, 0, 0, 0, 0, 0, 0] := by decide +kernel
set_option maxHeartbeats 4000000 in
theorem awake14 (w : World) : Calls Try.prog 9 #[] w fun e w' => e = .returned (.bool true) ∧ Below w.heap.size w w' := by
  have C1 := Lib.hid copysign_0
  have C2 := Lib.hid nan_any
  have C3 := Lib.hid inf_up
  have Q1 := Lib.hid (aw_qu 4609434218613702656 1536 true (by decide) qu_15.1 qu_15.2)
  have Q2 := Lib.hid (aw_qu 9223372036854775808 0 true (by decide) (by decide) qu_minus)
  have Q3 := Lib.hid (aw_qu 9221120237041090561 0 false (by decide) (by decide) (no_qu (by decide)))
  have Q4 := Lib.hid (aw_qu 9218868437227405312 0 false (by decide) (by decide) (no_qu (by decide)))
  have Q5 := Lib.hid (aw_qu 13830554455654793216 0 false (by decide) (by decide) (no_qu (by decide)))
  have R1 := Lib.hid (aw_right 4652007308841189376 true (by decide) (by decide))
  have R2 := Lib.hid (aw_right 4652011706887700480 false (by decide) (by decide))
  have P1 : ∀ w : World, Calls Try.prog 15 #[.float .f64 9223372036854775808] w fun e w' => e = .returned (.float .f64 0) ∧ w = w' := wplain_any (by decide)
  have P1 := Lib.hid P1
  have S1 := Lib.hid (aw_same 0 0 true (by decide) (by decide) (by decide))
  have S2 := Lib.hid (aw_same 9223372036854775808 0 false (by decide) (by decide) (by decide))
  have S3 := Lib.hid (aw_same 9221120237041090561 9221120237041090561 true (by decide) (by decide) (by decide))
  have S4 := Lib.hid (aw_same 4609434218613702656 4609434218613702656 true (by decide) (by decide) (by decide))
  have O1 : ∀ w : World, Calls Try.prog 16 #[.int .i64 1536] w fun e w' => e = .returned (.float .f64 4609434218613702656) ∧ w = w' := fun w => by
    have := wof_any (q := 1536) (by decide) w
    rw [of_1536] at this
    exact this
  have O1 := Lib.hid O1
  have hr : Row8 (w.alloc (.cells ([63, 248, 0, 0, 0, 0, 0, 0].map v8).toArray 5)) w.heap.size [63, 248, 0, 0, 0, 0, 0, 0] := heap_alloc_new w _
  have G1 := wget_any _ 8 8 _ (by decide) (by decide) (by decide) _ (hr.rd (B := (w.alloc (.cells ([63, 248, 0, 0, 0, 0, 0, 0].map v8).toArray 5)).heap.size) hr.lt)
  rw [got_15.1, got_15.2] at G1
  have G1 := Lib.hid G1
  have T1 := wput_any (u := 9221120237041090561) (by decide)
  rw [put_nan] at T1
  have T1 := Lib.hid T1
  clear hr
  go_enter Try.func9, Try.ntmps9
  go_wp2_with (first
    | (with_reducible refine (C1.out _).mono ?_; rintro e w' ⟨rfl, rfl⟩)
    | (with_reducible refine (C2.out _).mono ?_; rintro e w' ⟨rfl, rfl⟩)
    | (with_reducible refine (C3.out _).mono ?_; rintro e w' ⟨rfl, rfl⟩)
    | (with_reducible refine (Q1.out _).mono ?_; rintro e w' ⟨rfl, rfl⟩)
    | (with_reducible refine (Q2.out _).mono ?_; rintro e w' ⟨rfl, rfl⟩)
    | (with_reducible refine (Q3.out _).mono ?_; rintro e w' ⟨rfl, rfl⟩)
    | (with_reducible refine (Q4.out _).mono ?_; rintro e w' ⟨rfl, rfl⟩)
    | (with_reducible refine (Q5.out _).mono ?_; rintro e w' ⟨rfl, rfl⟩)
    | (with_reducible refine (R1.out _).mono ?_; rintro e w' ⟨rfl, rfl⟩)
    | (with_reducible refine (R2.out _).mono ?_; rintro e w' ⟨rfl, rfl⟩)
    | (with_reducible refine (P1.out _).mono ?_; rintro e w' ⟨rfl, rfl⟩)
    | (with_reducible refine (O1.out _).mono ?_; rintro e w' ⟨rfl, rfl⟩)
    | (refine G1.out.mono ?_; rintro e wg ⟨rfl, hg⟩; have B : Below w.heap.size w wg := ((Below.refl _ w).alloc (Nat.le_refl _) _).trans (hg.mono (by simp)))
    | (with_reducible refine (S1.out _).mono ?_; rintro e w1 ⟨rfl, hs⟩; have B := B.trans (hs.mono B.size))
    | (with_reducible refine (S2.out _).mono ?_; rintro e w2 ⟨rfl, hs⟩; have B := B.trans (hs.mono B.size))
    | (with_reducible refine (S3.out _).mono ?_; rintro e w3 ⟨rfl, hs⟩; have B := B.trans (hs.mono B.size))
    | (with_reducible refine (S4.out _).mono ?_; rintro e w4 ⟨rfl, hs⟩; have B := B.trans (hs.mono B.size))
    | (refine (T1.out _).mono ?_; rintro e wp ⟨v, rfl, ho, hp⟩; have B := B.trans (hp.mono B.size); obtain ⟨Ap, mp, cp, rfl, hmp, _, _, hr⟩ := ho.sl; clear hmp; have K := run_str8 hr cp))
  go_ret
  exact ⟨rfl, B⟩
end Go.Proofs.Ytcimgbjliamaiaa
