/-
  The statements' own 'awake' (layer 2) answers true.
-/
import Derived.Test.YtnbehleppmnjdaaVarRefs
import Derived.Test.YtnbehleppmnjdaaVarFold
namespace Go.Proofs.Ytnbehleppmnjdaa
open Go.RowKit Go.Lib

/-- What a call hands back reads, as a string, as s. -/
def StrIs (W : World) (e : Ending) (s : ByteArray) : Prop := ∃ A m c, e = .returned (.slice A m c) ∧ (convert 22 9 (.slice A m c)).run Try.prog W = .ok (.string s) W

theorem strIs_of {w : World} {base : Nat} {v : Value} {xs : List UInt8} (h : Own8 w base v xs) : StrIs w (.returned v) ⟨xs.toArray⟩ := by
  obtain ⟨A, m, c, rfl, _, _, _, hr⟩ := h.sl
  exact ⟨A, m, c, rfl, run_str8 hr c⟩

theorem u300 : uvarint 300 = [172, 2] := by rw [uvarint_big (by omega), uvarint_small (by omega)]; rfl
theorem aw1 (w : World) : Calls Try.prog 10 #[.slice (some ⟨w.heap.size, 0, none⟩) 3 3] (w.alloc (.cells #[.int .u8 172, .int .u8 2, .int .u8 9] 5)) fun e W' => e = .returned (.tuple #[.int .u64 300, .int .i64 2, .int .i64 0]) ∧ Below w.heap.size w W' := by
  have hr : Row8 (w.alloc (.cells #[.int .u8 172, .int .u8 2, .int .u8 9] 5)) w.heap.size [172, 2, 9] := heap_alloc_new w _
  refine (vget_any _ 3 3 [172, 2, 9] (by omega) _ (hr.rd (B := w.heap.size + 1) (by omega))).mono fun e W' h => ?_
  obtain ⟨rfl, rfl⟩ := h
  exact ⟨rfl, (Below.refl _ _).alloc (Nat.le_refl _) _⟩
theorem aw2 (w : World) : Calls Try.prog 10 #[.slice (some ⟨w.heap.size, 0, none⟩) 2 2] (w.alloc (.cells #[.int .u8 128, .int .u8 0] 5)) fun e W' => e = .returned (.tuple #[.int .u64 0, .int .i64 0, .int .i64 3]) ∧ Below w.heap.size w W' := by
  have hr : Row8 (w.alloc (.cells #[.int .u8 128, .int .u8 0] 5)) w.heap.size [128, 0] := heap_alloc_new w _
  refine (vget_any _ 2 2 [128, 0] (by omega) _ (hr.rd (B := w.heap.size + 1) (by omega))).mono fun e W' h => ?_
  obtain ⟨rfl, rfl⟩ := h
  exact ⟨rfl, (Below.refl _ _).alloc (Nat.le_refl _) _⟩
theorem aw3 (w : World) : Calls Try.prog 10 #[.slice (some ⟨w.heap.size, 0, none⟩) 1 1] (w.alloc (.cells #[.int .u8 128] 5)) fun e W' => e = .returned (.tuple #[.int .u64 0, .int .i64 0, .int .i64 2]) ∧ Below w.heap.size w W' := by
  have hr : Row8 (w.alloc (.cells #[.int .u8 128] 5)) w.heap.size [128] := heap_alloc_new w _
  refine (vget_any _ 1 1 [128] (by omega) _ (hr.rd (B := w.heap.size + 1) (by omega))).mono fun e W' h => ?_
  obtain ⟨rfl, rfl⟩ := h
  exact ⟨rfl, (Below.refl _ _).alloc (Nat.le_refl _) _⟩
theorem aw4 (w : World) : Calls Try.prog 12 #[.int .u64 300] w fun e W' => StrIs W' e ⟨#[172, 2]⟩ ∧ Below w.heap.size w W' :=
  (vput_any 300 (by omega) w).mono fun e W' h => by
    obtain ⟨v, rfl, ho, hb⟩ := h
    rw [u300] at ho
    exact ⟨strIs_of ho, hb⟩
theorem aw5 (w : World) : Calls Try.prog 15 #[.int .u64 300] w fun e W' => e = .returned (.int .i64 2) ∧ w = W' :=
  (size_any 300 (by omega) w).mono fun e W' h => by
    rw [u300] at h
    exact h
theorem aw6 (w : World) : Calls Try.prog 16 #[.int .i64 (-1)] w fun e W' => e = .returned (.int .u64 1) ∧ w = W' :=
  fold_any (-1) (by omega) (by omega) w
theorem aw7 (w : World) : Calls Try.prog 16 #[.int .i64 1] w fun e W' => e = .returned (.int .u64 2) ∧ w = W' :=
  fold_any 1 (by omega) (by omega) w
theorem aw8 (w : World) : Calls Try.prog 18 #[.int .u64 1] w fun e W' => e = .returned (.int .i64 (-1)) ∧ w = W' :=
  open_any 1 (by omega) w

set_option maxRecDepth 100000 in
set_option maxHeartbeats 2000000 in
theorem awake_any (w : World) : Calls Try.prog 9 #[] w fun e W' => e = .returned (.bool true) ∧ Below w.heap.size w W' := by
  go_enter Try.func9, Try.ntmps9
  go_wp2_with fail
  refine (aw1 _).mono ?_
  rintro e w1 ⟨rfl, hb1⟩
  go_wp2_with fail
  refine (aw2 _).mono ?_
  rintro e w2 ⟨rfl, hb2⟩
  go_wp2_with fail
  refine (aw3 _).mono ?_
  rintro e w3 ⟨rfl, hb3⟩
  go_wp2_with fail
  refine (aw4 _).mono ?_
  rintro e w4 ⟨⟨A4, m4, c4, rfl, hs4⟩, hb4⟩
  go_wp2_with fail
  refine (aw5 _).mono ?_
  rintro e w5 ⟨rfl, rfl⟩
  go_wp2_with fail
  refine (aw6 _).mono ?_
  rintro e w5 ⟨rfl, rfl⟩
  go_wp2_with fail
  refine (aw7 _).mono ?_
  rintro e w5 ⟨rfl, rfl⟩
  go_wp2_with fail
  refine (aw8 _).mono ?_
  rintro e w5 ⟨rfl, rfl⟩
  go_wp2_with fail
  go_ret
  have z1 := hb1.size
  have z2 := hb2.size
  have z3 := hb3.size
  have z4 := hb4.size
  exact ⟨rfl, ((hb1.trans (hb2.mono (by omega))).trans (hb3.mono (by omega))).trans (hb4.mono (by omega))⟩
end Go.Proofs.Ytnbehleppmnjdaa
