/-
  The statements' own 'awake' answers true.
-/
import Derived.Test.YtgfgpnhljjkmjaaStr
namespace Go.Proofs.Ytgfgpnhljjkmjaa
open Go.RowKit Go.Shelf

/-- What a call hands back reads, as a string, as s. -/
def StrIs (W : World) (e : Ending) (s : ByteArray) : Prop := ∃ A m c, e = .returned (.slice A m c) ∧ (convert 23 9 (.slice A m c)).run Try.prog W = .ok (.string s) W

theorem strIs_of {w : World} {base : Nat} {v : Value} {xs : List UInt8} (h : Own8 w base v xs) : StrIs w (.returned v) ⟨xs.toArray⟩ := by
  obtain ⟨A, m, c, rfl, _, _, _, hr⟩ := h.sl
  exact ⟨A, m, c, rfl, run_str8 hr c⟩

theorem aw1 (w : World) : Calls Try.prog 11 #[.int .u64 258, .int .i64 2, .bool true] w fun e W' => StrIs W' e ⟨#[1, 2]⟩ ∧ Below w.heap.size w W' :=
  (put_any 258 2 true w).mono fun e W' h => by
    obtain ⟨v, rfl, ho, hb⟩ := h
    exact ⟨strIs_of ho, hb⟩
theorem aw2 (w : World) : Calls Try.prog 11 #[.int .u64 258, .int .i64 3, .bool false] w fun e W' => StrIs W' e ⟨#[2, 1, 0]⟩ ∧ Below w.heap.size w W' :=
  (put_any 258 3 false w).mono fun e W' h => by
    obtain ⟨v, rfl, ho, hb⟩ := h
    exact ⟨strIs_of ho, hb⟩
theorem row12 (w : World) : Row8 (w.alloc (.cells #[.int .u8 1, .int .u8 2] 5)) w.heap.size [1, 2] := heap_alloc_new w _
theorem row7 (w : World) : Row8 (w.alloc (.cells #[.int .u8 7] 5)) w.heap.size [7] := heap_alloc_new w _
theorem aw3 (w : World) : Calls Try.prog 13 #[.slice (some ⟨w.heap.size, 0, none⟩) 2 2, .bool true] (w.alloc (.cells #[.int .u8 1, .int .u8 2] 5)) fun e W' => e = .returned (.int .u64 258) ∧ Below w.heap.size w W' :=
  (get_any _ 2 2 [1, 2] true (by omega) (Nat.le_refl _) (by unfold maxLen; omega) _ ((row12 w).rd (by simp))).mono fun e W' h => ⟨h.1, ((Below.refl _ _).alloc (Nat.le_refl _) _).trans (h.2.mono (by simp))⟩
theorem aw4 (w : World) : Calls Try.prog 13 #[.slice (some ⟨w.heap.size, 0, none⟩) 2 2, .bool false] (w.alloc (.cells #[.int .u8 1, .int .u8 2] 5)) fun e W' => e = .returned (.int .u64 513) ∧ Below w.heap.size w W' :=
  (get_any _ 2 2 [1, 2] false (by omega) (Nat.le_refl _) (by unfold maxLen; omega) _ ((row12 w).rd (by simp))).mono fun e W' h => ⟨h.1, ((Below.refl _ _).alloc (Nat.le_refl _) _).trans (h.2.mono (by simp))⟩
theorem aw5 (w : World) : Calls Try.prog 17 #[.int .i64 5] w fun e W' => e = .returned (.int .i64 3) ∧ w = W' :=
  (pad_any 5 (by omega) (by omega) w).mono fun _ _ h => h
theorem aw6 (w : World) : Calls Try.prog 18 #[.slice (some ⟨w.heap.size, 0, none⟩) 1 1] (w.alloc (.cells #[.int .u8 7] 5)) fun e W' => (∃ A c, e = .returned (.slice A 4 c)) ∧ Below w.heap.size w W' :=
  (padded_any _ 1 1 [7] (by omega) _ ((row7 w).rd (by simp))).mono fun e W' h => by
    obtain ⟨v, rfl, ho, hb⟩ := h
    obtain ⟨A, m, c, rfl, rfl, _⟩ := ho.sl
    exact ⟨⟨A, c, rfl⟩, ((Below.refl _ _).alloc (Nat.le_refl _) _).trans (hb.mono (by simp))⟩
theorem aw7 (w : World) : Calls Try.prog 15 #[.slice (some ⟨w.heap.size, 0, none⟩) 2 2] (w.alloc (.cells #[.int .u8 1, .int .u8 2] 5)) fun e W' => StrIs W' e ⟨#[2, 1]⟩ ∧ Below w.heap.size w W' :=
  (turn_any _ 2 2 [1, 2] (by omega) _ ((row12 w).rd (by simp))).mono fun e W' h => by
    obtain ⟨v, rfl, ho, hb⟩ := h
    exact ⟨strIs_of ho, ((Below.refl _ _).alloc (Nat.le_refl _) _).trans (hb.mono (by simp))⟩

set_option maxRecDepth 100000 in
set_option maxHeartbeats 2000000 in
theorem awake_any (w : World) : Calls Try.prog 9 #[] w fun e W' => e = .returned (.bool true) ∧ Below w.heap.size w W' := by
  go_enter Try.func9, Try.ntmps9
  go_wp2_with fail
  refine (aw1 _).mono ?_
  rintro e w1 ⟨⟨A1, m1, c1, rfl, hs1⟩, hb1⟩
  go_wp2_with fail
  refine (aw2 _).mono ?_
  rintro e w2 ⟨⟨A2, m2, c2, rfl, hs2⟩, hb2⟩
  go_wp2_with fail
  refine (aw3 _).mono ?_
  rintro e w3 ⟨rfl, hb3⟩
  go_wp2_with fail
  refine (aw4 _).mono ?_
  rintro e w4 ⟨rfl, hb4⟩
  go_wp2_with fail
  refine (aw5 _).mono ?_
  rintro e w5 ⟨rfl, rfl⟩
  go_wp2_with fail
  refine (aw6 _).mono ?_
  rintro e w6 ⟨⟨A6, c6, rfl⟩, hb6⟩
  go_wp2_with fail
  refine (aw7 _).mono ?_
  rintro e w7 ⟨⟨A7, m7, c7, rfl, hs7⟩, hb7⟩
  go_wp2_with fail
  go_ret
  have z1 := hb1.size
  have z2 := hb2.size
  have z3 := hb3.size
  have z4 := hb4.size
  have z6 := hb6.size
  exact ⟨rfl, ((((hb1.trans (hb2.mono (by omega))).trans (hb3.mono (by omega))).trans (hb4.mono (by omega))).trans (hb6.mono (by omega))).trans (hb7.mono (by omega))⟩
end Go.Proofs.Ytgfgpnhljjkmjaa
