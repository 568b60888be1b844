/-
  The statements' own 'awake' (layer 3) answers true.
-/
import Derived.Test.YtboaoidimbkidaaCrcJoined
import Derived.Lib.SlBytesConst
namespace Go.Proofs.Ytboaoidimbkidaa
open Go.RowKit Go.Lib

theorem sum_a : sumOn 0 [49, 50, 51, 52] = 4131058926 := by decide +kernel
theorem sum_b : sumOn 0 [53, 54, 55, 56, 57] = 2209703384 := by decide +kernel
theorem sum_ab : sumOn 4131058926 [53, 54, 55, 56, 57] = 3808858755 := by decide +kernel
theorem join_ab : itr (8 * 5) 4131058926 ^^^ 2209703384 = 3808858755 := by decide +kernel

theorem Rd.marked (w : World) (xs : List UInt8) (fr : Nat × Nat) : Rd (w.alloc (.cells (xs.map v8).toArray 5 fr)) (w.heap.size + 1) (some ⟨w.heap.size, 0, none⟩) xs.length xs :=
  ⟨rfl, fun _ => ⟨w.heap.size, 0, rfl, by omega, fun j x hx => by
    rw [Nat.zero_add, cell_of_row _ w.heap.size j _ _ fr (heap_alloc_new w _)]
    simp [hx]⟩⟩

theorem aw1 (w : World) : Calls Try.prog 9 #[.slice (some ⟨w.heap.size, 0, none⟩) 9 9] (w.alloc (.cells #[.int .u8 49, .int .u8 50, .int .u8 51, .int .u8 52, .int .u8 53, .int .u8 54, .int .u8 55, .int .u8 56, .int .u8 57] 5 (9, 10))) fun e W' => e = .returned (.int .u32 3808858755) ∧ Below w.heap.size w W' := by
  have hr := Rd.marked w [49, 50, 51, 52, 53, 54, 55, 56, 57] (9, 10)
  refine (of_any _ 9 9 _ (by omega) _ hr (by simp)).mono fun e W' h => ?_
  rw [sum_known] at h
  exact ⟨h.1, ((Below.refl _ _).alloc (Nat.le_refl _) _).trans (h.2.mono (by simp))⟩
theorem aw2 (w : World) : Calls Try.prog 9 #[.slice (some ⟨w.heap.size, 0, none⟩) 4 4] (w.alloc (.cells #[.int .u8 49, .int .u8 50, .int .u8 51, .int .u8 52] 5 (4, 5))) fun e W' => e = .returned (.int .u32 4131058926) ∧ Below w.heap.size w W' := by
  have hr := Rd.marked w [49, 50, 51, 52] (4, 5)
  refine (of_any _ 4 4 _ (by omega) _ hr (by simp)).mono fun e W' h => ?_
  rw [sum_a] at h
  exact ⟨h.1, ((Below.refl _ _).alloc (Nat.le_refl _) _).trans (h.2.mono (by simp))⟩
theorem aw3 (w : World) : Calls Try.prog 11 #[.int .u32 4131058926, .slice (some ⟨w.heap.size, 0, none⟩) 5 5] (w.alloc (.cells #[.int .u8 53, .int .u8 54, .int .u8 55, .int .u8 56, .int .u8 57] 5 (5, 6))) fun e W' => e = .returned (.int .u32 3808858755) ∧ Below w.heap.size w W' := by
  have hr := Rd.marked w [53, 54, 55, 56, 57] (5, 6)
  refine (more_any 4131058926 (by omega) _ 5 5 _ (by omega) _ hr (by simp)).mono fun e W' h => ?_
  rw [sum_ab] at h
  exact ⟨h.1, ((Below.refl _ _).alloc (Nat.le_refl _) _).trans (h.2.mono (by simp))⟩
theorem aw4 (w : World) : Calls Try.prog 9 #[.slice (some ⟨w.heap.size, 0, none⟩) 5 5] (w.alloc (.cells #[.int .u8 53, .int .u8 54, .int .u8 55, .int .u8 56, .int .u8 57] 5 (5, 6))) fun e W' => e = .returned (.int .u32 2209703384) ∧ Below w.heap.size w W' := by
  have hr := Rd.marked w [53, 54, 55, 56, 57] (5, 6)
  refine (of_any _ 5 5 _ (by omega) _ hr (by simp)).mono fun e W' h => ?_
  rw [sum_b] at h
  exact ⟨h.1, ((Below.refl _ _).alloc (Nat.le_refl _) _).trans (h.2.mono (by simp))⟩
theorem aw5 (w : World) : Calls Try.prog 13 #[.int .u32 4131058926, .int .u32 2209703384, .int .i64 5] w fun e W' => e = .returned (.int .u32 3808858755) ∧ Below w.heap.size w W' := by
  refine (join_any 4131058926 2209703384 5 (by omega) (by omega) (by omega) w).mono fun e W' h => ?_
  rw [join_ab] at h
  exact h

set_option maxRecDepth 100000 in
set_option maxHeartbeats 2000000 in
theorem awake_any (w : World) : Calls Try.prog 8 #[] w fun e W' => e = .returned (.bool true) ∧ Below w.heap.size w W' := by
  have kc := fun (w : World) (C : Array Value) (n c : Nat) => Lib.run_convert_bytes_const (P := Try.prog) w 22 5 C n c Try.underlying22 Try.underlying5
  go_enter Try.func8, Try.ntmps8
  go_wp2_with fail
  refine (aw1 _).mono ?_
  rintro e w1 ⟨rfl, hb1⟩
  go_wp2_with fail
  refine (aw2 _).mono ?_
  rintro e w2 ⟨rfl, hb2⟩
  go_wp2_with fail
  refine (aw3 _).mono ?_
  rintro e w3 ⟨rfl, hb3⟩
  go_wp2_with fail
  refine (aw2 _).mono ?_
  rintro e w4 ⟨rfl, hb4⟩
  go_wp2_with fail
  refine (aw4 _).mono ?_
  rintro e w5 ⟨rfl, hb5⟩
  go_wp2_with fail
  refine (aw5 _).mono ?_
  rintro e w6 ⟨rfl, hb6⟩
  go_wp2_with fail
  go_ret
  have z1 := hb1.size
  have z2 := hb2.size
  have z3 := hb3.size
  have z4 := hb4.size
  have z5 := hb5.size
  exact ⟨rfl, ((((hb1.trans (hb2.mono (by omega))).trans (hb3.mono (by omega))).trans (hb4.mono (by omega))).trans (hb5.mono (by omega))).trans (hb6.mono (by omega))⟩
end Go.Proofs.Ytboaoidimbkidaa
