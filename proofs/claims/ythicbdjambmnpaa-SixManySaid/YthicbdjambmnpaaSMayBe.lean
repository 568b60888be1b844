/-
  The contract of six.mayBe.
-/
import Derived.Test.YthicbdjambmnpaaSAddr
namespace Go.Proofs.Ythicbdjambmnpaa
open Go.RowKit Go.Lib

set_option maxRecDepth 100000 in
set_option maxHeartbeats 2000000 in
theorem maybe_0 {h0 h1 h2 : Int} {h3 : Bool} {h4 h5 : Int} {A B : Ad} (hok : Fr.Ok ⟨h0, h1, h2, h3, h4, h5, A, B⟩) (e0 : h0 ≠ 40) (w : World) :
    Calls Try.prog 26 #[frC ⟨h0, h1, h2, h3, h4, h5, A, B⟩] w fun e w' => e = .returned (.bool false) ∧ Below w.heap.size w w' := by
  have hb1 := Blk.new w 28 (frL ⟨h0, h1, h2, h3, h4, h5, A, B⟩)
  have hB1 := (Below.refl w.heap.size w).alloc (Nat.le_refl _) (.cells (frL ⟨h0, h1, h2, h3, h4, h5, A, B⟩).toArray 28)
  have k0 := hb1.cell (i := 0) (v := .int .i64 h0) rfl
  have k1 := hb1.cell (i := 1) (v := .int .i64 h1) rfl
  have k2 := hb1.cell (i := 2) (v := .int .i64 h2) rfl
  have k3 := hb1.cell (i := 3) (v := .bool h3) rfl
  have k4 := hb1.cell (i := 4) (v := .int .i64 h4) rfl
  have k5 := hb1.cell (i := 5) (v := .int .i64 h5) rfl
  have k6 := hb1.cell (i := 6) (v := .bool A.six) rfl
  have k7 := hb1.dst hok 0 (.bool B.six) rfl
  rw [Nat.add_zero] at k7
  unfold frC
  generalize frL ⟨h0, h1, h2, h3, h4, h5, A, B⟩ = C at *
  have q0 : (h0 == 40) = false := beq_eq_false_iff_ne.2 e0
  clear hb1
  go_enter Try.func26, Try.ntmps26
  go_wp2_with fail
  go_ret
  exact ⟨rfl, hB1⟩

set_option maxRecDepth 100000 in
set_option maxHeartbeats 2000000 in
theorem maybe_1 {h0 h1 h2 : Int} {h3 : Bool} {h4 h5 : Int} {A B : Ad} (hok : Fr.Ok ⟨h0, h1, h2, h3, h4, h5, A, B⟩) (e0 : h0 = 40) (e1 : inB h1 40 65575 = false) (w : World) :
    Calls Try.prog 26 #[frC ⟨h0, h1, h2, h3, h4, h5, A, B⟩] w fun e w' => e = .returned (.bool false) ∧ Below w.heap.size w w' := by
  have hb1 := Blk.new w 28 (frL ⟨h0, h1, h2, h3, h4, h5, A, B⟩)
  have hB1 := (Below.refl w.heap.size w).alloc (Nat.le_refl _) (.cells (frL ⟨h0, h1, h2, h3, h4, h5, A, B⟩).toArray 28)
  have k0 := hb1.cell (i := 0) (v := .int .i64 h0) rfl
  have k1 := hb1.cell (i := 1) (v := .int .i64 h1) rfl
  have k2 := hb1.cell (i := 2) (v := .int .i64 h2) rfl
  have k3 := hb1.cell (i := 3) (v := .bool h3) rfl
  have k4 := hb1.cell (i := 4) (v := .int .i64 h4) rfl
  have k5 := hb1.cell (i := 5) (v := .int .i64 h5) rfl
  have k6 := hb1.cell (i := 6) (v := .bool A.six) rfl
  have k7 := hb1.dst hok 0 (.bool B.six) rfl
  rw [Nat.add_zero] at k7
  unfold frC
  generalize frL ⟨h0, h1, h2, h3, h4, h5, A, B⟩ = C at *
  subst e0
  have H1 := Lib.hid (fun W => e1 ▸ within_any h1 40 65575 W)
  clear hb1
  go_enter Try.func26, Try.ntmps26
  go_wp2_with fail
  refine (H1.out _).mono ?_
  rintro e w2 ⟨rfl, rfl⟩
  go_wp2_with fail
  go_ret
  exact ⟨rfl, hB1⟩

set_option maxRecDepth 100000 in
set_option maxHeartbeats 2000000 in
theorem maybe_2 {h0 h1 h2 : Int} {h3 : Bool} {h4 h5 : Int} {A B : Ad} (hok : Fr.Ok ⟨h0, h1, h2, h3, h4, h5, A, B⟩) (e0 : h0 = 40) (e1 : inB h1 40 65575 = true) (e2 : h3 = true) (w : World) :
    Calls Try.prog 26 #[frC ⟨h0, h1, h2, h3, h4, h5, A, B⟩] w fun e w' => e = .returned (.bool false) ∧ Below w.heap.size w w' := by
  have hb1 := Blk.new w 28 (frL ⟨h0, h1, h2, h3, h4, h5, A, B⟩)
  have hB1 := (Below.refl w.heap.size w).alloc (Nat.le_refl _) (.cells (frL ⟨h0, h1, h2, h3, h4, h5, A, B⟩).toArray 28)
  have k0 := hb1.cell (i := 0) (v := .int .i64 h0) rfl
  have k1 := hb1.cell (i := 1) (v := .int .i64 h1) rfl
  have k2 := hb1.cell (i := 2) (v := .int .i64 h2) rfl
  have k3 := hb1.cell (i := 3) (v := .bool h3) rfl
  have k4 := hb1.cell (i := 4) (v := .int .i64 h4) rfl
  have k5 := hb1.cell (i := 5) (v := .int .i64 h5) rfl
  have k6 := hb1.cell (i := 6) (v := .bool A.six) rfl
  have k7 := hb1.dst hok 0 (.bool B.six) rfl
  rw [Nat.add_zero] at k7
  unfold frC
  generalize frL ⟨h0, h1, h2, h3, h4, h5, A, B⟩ = C at *
  subst e0
  have H1 := Lib.hid (fun W => e1 ▸ within_any h1 40 65575 W)
  subst e2
  clear hb1
  go_enter Try.func26, Try.ntmps26
  go_wp2_with fail
  refine (H1.out _).mono ?_
  rintro e w2 ⟨rfl, rfl⟩
  go_wp2_with fail
  go_ret
  exact ⟨rfl, hB1⟩

set_option maxRecDepth 100000 in
set_option maxHeartbeats 2000000 in
theorem maybe_3 {h0 h1 h2 : Int} {h3 : Bool} {h4 h5 : Int} {A B : Ad} (hok : Fr.Ok ⟨h0, h1, h2, h3, h4, h5, A, B⟩) (e0 : h0 = 40) (e1 : inB h1 40 65575 = true) (e2 : h3 = false) (e3 : h4 ≠ 0) (w : World) :
    Calls Try.prog 26 #[frC ⟨h0, h1, h2, h3, h4, h5, A, B⟩] w fun e w' => e = .returned (.bool false) ∧ Below w.heap.size w w' := by
  have hb1 := Blk.new w 28 (frL ⟨h0, h1, h2, h3, h4, h5, A, B⟩)
  have hB1 := (Below.refl w.heap.size w).alloc (Nat.le_refl _) (.cells (frL ⟨h0, h1, h2, h3, h4, h5, A, B⟩).toArray 28)
  have k0 := hb1.cell (i := 0) (v := .int .i64 h0) rfl
  have k1 := hb1.cell (i := 1) (v := .int .i64 h1) rfl
  have k2 := hb1.cell (i := 2) (v := .int .i64 h2) rfl
  have k3 := hb1.cell (i := 3) (v := .bool h3) rfl
  have k4 := hb1.cell (i := 4) (v := .int .i64 h4) rfl
  have k5 := hb1.cell (i := 5) (v := .int .i64 h5) rfl
  have k6 := hb1.cell (i := 6) (v := .bool A.six) rfl
  have k7 := hb1.dst hok 0 (.bool B.six) rfl
  rw [Nat.add_zero] at k7
  unfold frC
  generalize frL ⟨h0, h1, h2, h3, h4, h5, A, B⟩ = C at *
  subst e0
  have H1 := Lib.hid (fun W => e1 ▸ within_any h1 40 65575 W)
  subst e2
  have q4 : (h4 == 0) = false := beq_eq_false_iff_ne.2 e3
  clear hb1
  go_enter Try.func26, Try.ntmps26
  go_wp2_with fail
  refine (H1.out _).mono ?_
  rintro e w2 ⟨rfl, rfl⟩
  go_wp2_with fail
  go_ret
  exact ⟨rfl, hB1⟩

set_option maxRecDepth 100000 in
set_option maxHeartbeats 2000000 in
theorem maybe_4 {h0 h1 h2 : Int} {h3 : Bool} {h4 h5 : Int} {A B : Ad} (hok : Fr.Ok ⟨h0, h1, h2, h3, h4, h5, A, B⟩) (e0 : h0 = 40) (e1 : inB h1 40 65575 = true) (e2 : h3 = false) (e3 : h4 = 0) (e4 : inB h2 0 255 = false) (w : World) :
    Calls Try.prog 26 #[frC ⟨h0, h1, h2, h3, h4, h5, A, B⟩] w fun e w' => e = .returned (.bool false) ∧ Below w.heap.size w w' := by
  have hb1 := Blk.new w 28 (frL ⟨h0, h1, h2, h3, h4, h5, A, B⟩)
  have hB1 := (Below.refl w.heap.size w).alloc (Nat.le_refl _) (.cells (frL ⟨h0, h1, h2, h3, h4, h5, A, B⟩).toArray 28)
  have k0 := hb1.cell (i := 0) (v := .int .i64 h0) rfl
  have k1 := hb1.cell (i := 1) (v := .int .i64 h1) rfl
  have k2 := hb1.cell (i := 2) (v := .int .i64 h2) rfl
  have k3 := hb1.cell (i := 3) (v := .bool h3) rfl
  have k4 := hb1.cell (i := 4) (v := .int .i64 h4) rfl
  have k5 := hb1.cell (i := 5) (v := .int .i64 h5) rfl
  have k6 := hb1.cell (i := 6) (v := .bool A.six) rfl
  have k7 := hb1.dst hok 0 (.bool B.six) rfl
  rw [Nat.add_zero] at k7
  unfold frC
  generalize frL ⟨h0, h1, h2, h3, h4, h5, A, B⟩ = C at *
  subst e0
  have H1 := Lib.hid (fun W => e1 ▸ within_any h1 40 65575 W)
  subst e2
  subst e3
  have H4 := Lib.hid (fun W => e4 ▸ within_any h2 0 255 W)
  clear hb1
  go_enter Try.func26, Try.ntmps26
  go_wp2_with fail
  refine (H1.out _).mono ?_
  rintro e w2 ⟨rfl, rfl⟩
  go_wp2_with fail
  refine (H4.out _).mono ?_
  rintro e w2 ⟨rfl, rfl⟩
  go_wp2_with fail
  go_ret
  exact ⟨rfl, hB1⟩

set_option maxRecDepth 100000 in
set_option maxHeartbeats 2000000 in
theorem maybe_5 {h0 h1 h2 : Int} {h3 : Bool} {h4 h5 : Int} {A B : Ad} (hok : Fr.Ok ⟨h0, h1, h2, h3, h4, h5, A, B⟩) (e0 : h0 = 40) (e1 : inB h1 40 65575 = true) (e2 : h3 = false) (e3 : h4 = 0) (e4 : inB h2 0 255 = true) (e5 : inB h5 0 255 = false) (w : World) :
    Calls Try.prog 26 #[frC ⟨h0, h1, h2, h3, h4, h5, A, B⟩] w fun e w' => e = .returned (.bool false) ∧ Below w.heap.size w w' := by
  have hb1 := Blk.new w 28 (frL ⟨h0, h1, h2, h3, h4, h5, A, B⟩)
  have hB1 := (Below.refl w.heap.size w).alloc (Nat.le_refl _) (.cells (frL ⟨h0, h1, h2, h3, h4, h5, A, B⟩).toArray 28)
  have k0 := hb1.cell (i := 0) (v := .int .i64 h0) rfl
  have k1 := hb1.cell (i := 1) (v := .int .i64 h1) rfl
  have k2 := hb1.cell (i := 2) (v := .int .i64 h2) rfl
  have k3 := hb1.cell (i := 3) (v := .bool h3) rfl
  have k4 := hb1.cell (i := 4) (v := .int .i64 h4) rfl
  have k5 := hb1.cell (i := 5) (v := .int .i64 h5) rfl
  have k6 := hb1.cell (i := 6) (v := .bool A.six) rfl
  have k7 := hb1.dst hok 0 (.bool B.six) rfl
  rw [Nat.add_zero] at k7
  unfold frC
  generalize frL ⟨h0, h1, h2, h3, h4, h5, A, B⟩ = C at *
  subst e0
  have H1 := Lib.hid (fun W => e1 ▸ within_any h1 40 65575 W)
  subst e2
  subst e3
  have H4 := Lib.hid (fun W => e4 ▸ within_any h2 0 255 W)
  have H5 := Lib.hid (fun W => e5 ▸ within_any h5 0 255 W)
  clear hb1
  go_enter Try.func26, Try.ntmps26
  go_wp2_with fail
  refine (H1.out _).mono ?_
  rintro e w2 ⟨rfl, rfl⟩
  go_wp2_with fail
  refine (H4.out _).mono ?_
  rintro e w2 ⟨rfl, rfl⟩
  go_wp2_with fail
  refine (H5.out _).mono ?_
  rintro e w2 ⟨rfl, rfl⟩
  go_wp2_with fail
  go_ret
  exact ⟨rfl, hB1⟩

set_option maxRecDepth 100000 in
set_option maxHeartbeats 2000000 in
theorem maybe_6 {h0 h1 h2 : Int} {h3 : Bool} {h4 h5 : Int} {A B : Ad} (hok : Fr.Ok ⟨h0, h1, h2, h3, h4, h5, A, B⟩) (e0 : h0 = 40) (e1 : inB h1 40 65575 = true) (e2 : h3 = false) (e3 : h4 = 0) (e4 : inB h2 0 255 = true) (e5 : inB h5 0 255 = true) (e6 : extI h5 = true) (w : World) :
    Calls Try.prog 26 #[frC ⟨h0, h1, h2, h3, h4, h5, A, B⟩] w fun e w' => e = .returned (.bool false) ∧ Below w.heap.size w w' := by
  have hb1 := Blk.new w 28 (frL ⟨h0, h1, h2, h3, h4, h5, A, B⟩)
  have hB1 := (Below.refl w.heap.size w).alloc (Nat.le_refl _) (.cells (frL ⟨h0, h1, h2, h3, h4, h5, A, B⟩).toArray 28)
  have k0 := hb1.cell (i := 0) (v := .int .i64 h0) rfl
  have k1 := hb1.cell (i := 1) (v := .int .i64 h1) rfl
  have k2 := hb1.cell (i := 2) (v := .int .i64 h2) rfl
  have k3 := hb1.cell (i := 3) (v := .bool h3) rfl
  have k4 := hb1.cell (i := 4) (v := .int .i64 h4) rfl
  have k5 := hb1.cell (i := 5) (v := .int .i64 h5) rfl
  have k6 := hb1.cell (i := 6) (v := .bool A.six) rfl
  have k7 := hb1.dst hok 0 (.bool B.six) rfl
  rw [Nat.add_zero] at k7
  unfold frC
  generalize frL ⟨h0, h1, h2, h3, h4, h5, A, B⟩ = C at *
  subst e0
  have H1 := Lib.hid (fun W => e1 ▸ within_any h1 40 65575 W)
  subst e2
  subst e3
  have H4 := Lib.hid (fun W => e4 ▸ within_any h2 0 255 W)
  have H5 := Lib.hid (fun W => e5 ▸ within_any h5 0 255 W)
  have H6 := Lib.hid (fun W => e6 ▸ isext_any h5 W)
  clear hb1
  go_enter Try.func26, Try.ntmps26
  go_wp2_with fail
  refine (H1.out _).mono ?_
  rintro e w2 ⟨rfl, rfl⟩
  go_wp2_with fail
  refine (H4.out _).mono ?_
  rintro e w2 ⟨rfl, rfl⟩
  go_wp2_with fail
  refine (H5.out _).mono ?_
  rintro e w2 ⟨rfl, rfl⟩
  go_wp2_with fail
  refine (H6.out _).mono ?_
  rintro e w2 ⟨rfl, rfl⟩
  go_wp2_with fail
  go_ret
  exact ⟨rfl, hB1⟩

set_option maxRecDepth 100000 in
set_option maxHeartbeats 2000000 in
theorem maybe_7 {h0 h1 h2 : Int} {h3 : Bool} {h4 h5 : Int} {A B : Ad} (hok : Fr.Ok ⟨h0, h1, h2, h3, h4, h5, A, B⟩) (e0 : h0 = 40) (e1 : inB h1 40 65575 = true) (e2 : h3 = false) (e3 : h4 = 0) (e4 : inB h2 0 255 = true) (e5 : inB h5 0 255 = true) (e6 : extI h5 = false) (e7 : A.six = false) (w : World) :
    Calls Try.prog 26 #[frC ⟨h0, h1, h2, h3, h4, h5, A, B⟩] w fun e w' => e = .returned (.bool false) ∧ Below w.heap.size w w' := by
  have hb1 := Blk.new w 28 (frL ⟨h0, h1, h2, h3, h4, h5, A, B⟩)
  have hB1 := (Below.refl w.heap.size w).alloc (Nat.le_refl _) (.cells (frL ⟨h0, h1, h2, h3, h4, h5, A, B⟩).toArray 28)
  have k0 := hb1.cell (i := 0) (v := .int .i64 h0) rfl
  have k1 := hb1.cell (i := 1) (v := .int .i64 h1) rfl
  have k2 := hb1.cell (i := 2) (v := .int .i64 h2) rfl
  have k3 := hb1.cell (i := 3) (v := .bool h3) rfl
  have k4 := hb1.cell (i := 4) (v := .int .i64 h4) rfl
  have k5 := hb1.cell (i := 5) (v := .int .i64 h5) rfl
  have k6 := hb1.cell (i := 6) (v := .bool A.six) rfl
  have k7 := hb1.dst hok 0 (.bool B.six) rfl
  rw [Nat.add_zero] at k7
  unfold frC
  generalize frL ⟨h0, h1, h2, h3, h4, h5, A, B⟩ = C at *
  subst e0
  have H1 := Lib.hid (fun W => e1 ▸ within_any h1 40 65575 W)
  subst e2
  subst e3
  have H4 := Lib.hid (fun W => e4 ▸ within_any h2 0 255 W)
  have H5 := Lib.hid (fun W => e5 ▸ within_any h5 0 255 W)
  have H6 := Lib.hid (fun W => e6 ▸ isext_any h5 W)
  rw [e7] at k6
  clear hb1
  go_enter Try.func26, Try.ntmps26
  go_wp2_with fail
  refine (H1.out _).mono ?_
  rintro e w2 ⟨rfl, rfl⟩
  go_wp2_with fail
  refine (H4.out _).mono ?_
  rintro e w2 ⟨rfl, rfl⟩
  go_wp2_with fail
  refine (H5.out _).mono ?_
  rintro e w2 ⟨rfl, rfl⟩
  go_wp2_with fail
  refine (H6.out _).mono ?_
  rintro e w2 ⟨rfl, rfl⟩
  go_wp2_with fail
  go_ret
  exact ⟨rfl, hB1⟩

set_option maxRecDepth 100000 in
set_option maxHeartbeats 2000000 in
theorem maybe_8 {h0 h1 h2 : Int} {h3 : Bool} {h4 h5 : Int} {A B : Ad} (hok : Fr.Ok ⟨h0, h1, h2, h3, h4, h5, A, B⟩) (e0 : h0 = 40) (e1 : inB h1 40 65575 = true) (e2 : h3 = false) (e3 : h4 = 0) (e4 : inB h2 0 255 = true) (e5 : inB h5 0 255 = true) (e6 : extI h5 = false) (e7 : A.six = true) (e8 : B.six = false) (w : World) :
    Calls Try.prog 26 #[frC ⟨h0, h1, h2, h3, h4, h5, A, B⟩] w fun e w' => e = .returned (.bool false) ∧ Below w.heap.size w w' := by
  have hb1 := Blk.new w 28 (frL ⟨h0, h1, h2, h3, h4, h5, A, B⟩)
  have hB1 := (Below.refl w.heap.size w).alloc (Nat.le_refl _) (.cells (frL ⟨h0, h1, h2, h3, h4, h5, A, B⟩).toArray 28)
  have k0 := hb1.cell (i := 0) (v := .int .i64 h0) rfl
  have k1 := hb1.cell (i := 1) (v := .int .i64 h1) rfl
  have k2 := hb1.cell (i := 2) (v := .int .i64 h2) rfl
  have k3 := hb1.cell (i := 3) (v := .bool h3) rfl
  have k4 := hb1.cell (i := 4) (v := .int .i64 h4) rfl
  have k5 := hb1.cell (i := 5) (v := .int .i64 h5) rfl
  have k6 := hb1.cell (i := 6) (v := .bool A.six) rfl
  have k7 := hb1.dst hok 0 (.bool B.six) rfl
  rw [Nat.add_zero] at k7
  unfold frC
  generalize frL ⟨h0, h1, h2, h3, h4, h5, A, B⟩ = C at *
  subst e0
  have H1 := Lib.hid (fun W => e1 ▸ within_any h1 40 65575 W)
  subst e2
  subst e3
  have H4 := Lib.hid (fun W => e4 ▸ within_any h2 0 255 W)
  have H5 := Lib.hid (fun W => e5 ▸ within_any h5 0 255 W)
  have H6 := Lib.hid (fun W => e6 ▸ isext_any h5 W)
  rw [e7] at k6
  rw [e8] at k7
  clear hb1
  go_enter Try.func26, Try.ntmps26
  go_wp2_with fail
  refine (H1.out _).mono ?_
  rintro e w2 ⟨rfl, rfl⟩
  go_wp2_with fail
  refine (H4.out _).mono ?_
  rintro e w2 ⟨rfl, rfl⟩
  go_wp2_with fail
  refine (H5.out _).mono ?_
  rintro e w2 ⟨rfl, rfl⟩
  go_wp2_with fail
  refine (H6.out _).mono ?_
  rintro e w2 ⟨rfl, rfl⟩
  go_wp2_with fail
  go_ret
  exact ⟨rfl, hB1⟩

set_option maxRecDepth 100000 in
set_option maxHeartbeats 2000000 in
theorem maybe_9 {h0 h1 h2 : Int} {h3 : Bool} {h4 h5 : Int} {A B : Ad} (hok : Fr.Ok ⟨h0, h1, h2, h3, h4, h5, A, B⟩) (e0 : h0 = 40) (e1 : inB h1 40 65575 = true) (e2 : h3 = false) (e3 : h4 = 0) (e4 : inB h2 0 255 = true) (e5 : inB h5 0 255 = true) (e6 : extI h5 = false) (e7 : A.six = true) (e8 : B.six = true) (w : World) :
    Calls Try.prog 26 #[frC ⟨h0, h1, h2, h3, h4, h5, A, B⟩] w fun e w' => e = .returned (.bool true) ∧ Below w.heap.size w w' := by
  have hb1 := Blk.new w 28 (frL ⟨h0, h1, h2, h3, h4, h5, A, B⟩)
  have hB1 := (Below.refl w.heap.size w).alloc (Nat.le_refl _) (.cells (frL ⟨h0, h1, h2, h3, h4, h5, A, B⟩).toArray 28)
  have k0 := hb1.cell (i := 0) (v := .int .i64 h0) rfl
  have k1 := hb1.cell (i := 1) (v := .int .i64 h1) rfl
  have k2 := hb1.cell (i := 2) (v := .int .i64 h2) rfl
  have k3 := hb1.cell (i := 3) (v := .bool h3) rfl
  have k4 := hb1.cell (i := 4) (v := .int .i64 h4) rfl
  have k5 := hb1.cell (i := 5) (v := .int .i64 h5) rfl
  have k6 := hb1.cell (i := 6) (v := .bool A.six) rfl
  have k7 := hb1.dst hok 0 (.bool B.six) rfl
  rw [Nat.add_zero] at k7
  unfold frC
  generalize frL ⟨h0, h1, h2, h3, h4, h5, A, B⟩ = C at *
  subst e0
  have H1 := Lib.hid (fun W => e1 ▸ within_any h1 40 65575 W)
  subst e2
  subst e3
  have H4 := Lib.hid (fun W => e4 ▸ within_any h2 0 255 W)
  have H5 := Lib.hid (fun W => e5 ▸ within_any h5 0 255 W)
  have H6 := Lib.hid (fun W => e6 ▸ isext_any h5 W)
  rw [e7] at k6
  rw [e8] at k7
  clear hb1
  go_enter Try.func26, Try.ntmps26
  go_wp2_with fail
  refine (H1.out _).mono ?_
  rintro e w2 ⟨rfl, rfl⟩
  go_wp2_with fail
  refine (H4.out _).mono ?_
  rintro e w2 ⟨rfl, rfl⟩
  go_wp2_with fail
  refine (H5.out _).mono ?_
  rintro e w2 ⟨rfl, rfl⟩
  go_wp2_with fail
  refine (H6.out _).mono ?_
  rintro e w2 ⟨rfl, rfl⟩
  go_wp2_with fail
  go_ret
  exact ⟨rfl, hB1⟩

theorem maybe_any {f : Fr} (hok : f.Ok) (w : World) : Calls Try.prog 26 #[frC f] w fun e w' => e = .returned (.bool (rightB f)) ∧ Below w.heap.size w w' := by
  obtain ⟨h0, h1, h2, h3, h4, h5, A, B⟩ := f
  by_cases e0 : h0 = 40
  rotate_left
  · have hr : rightB ⟨h0, h1, h2, h3, h4, h5, A, B⟩ = false := Bool.eq_false_iff.2 fun h => by have g := right_good h; have : h0 = 40 := g.head; exact e0 this
    rw [hr]; exact maybe_0 hok  e0 w
  by_cases e1 : inB h1 40 65575 = true
  rotate_left
  · have hr : rightB ⟨h0, h1, h2, h3, h4, h5, A, B⟩ = false := Bool.eq_false_iff.2 fun h => by have g := right_good h; have : inB h1 40 65575 = true := decide_eq_true ⟨g.t0, g.t1⟩; exact e1 this
    rw [hr]; exact maybe_1 hok e0 (by simpa using e1) w
  by_cases e2 : h3 = false
  rotate_left
  · have hr : rightB ⟨h0, h1, h2, h3, h4, h5, A, B⟩ = false := Bool.eq_false_iff.2 fun h => by have g := right_good h; have : h3 = false := g.frag; exact e2 this
    rw [hr]; exact maybe_2 hok e0 e1 (by simpa using e2) w
  by_cases e3 : h4 = 0
  rotate_left
  · have hr : rightB ⟨h0, h1, h2, h3, h4, h5, A, B⟩ = false := Bool.eq_false_iff.2 fun h => by have g := right_good h; have : h4 = 0 := g.exts; exact e3 this
    rw [hr]; exact maybe_3 hok e0 e1 e2 e3 w
  by_cases e4 : inB h2 0 255 = true
  rotate_left
  · have hr : rightB ⟨h0, h1, h2, h3, h4, h5, A, B⟩ = false := Bool.eq_false_iff.2 fun h => by have g := right_good h; have : inB h2 0 255 = true := decide_eq_true ⟨g.o0, g.o1⟩; exact e4 this
    rw [hr]; exact maybe_4 hok e0 e1 e2 e3 (by simpa using e4) w
  by_cases e5 : inB h5 0 255 = true
  rotate_left
  · have hr : rightB ⟨h0, h1, h2, h3, h4, h5, A, B⟩ = false := Bool.eq_false_iff.2 fun h => by have g := right_good h; have : inB h5 0 255 = true := decide_eq_true ⟨g.p0, g.p1⟩; exact e5 this
    rw [hr]; exact maybe_5 hok e0 e1 e2 e3 e4 (by simpa using e5) w
  by_cases e6 : extI h5 = false
  rotate_left
  · have hr : rightB ⟨h0, h1, h2, h3, h4, h5, A, B⟩ = false := Bool.eq_false_iff.2 fun h => by have g := right_good h; have : extI h5 = false := g.ext; exact e6 this
    rw [hr]; exact maybe_6 hok e0 e1 e2 e3 e4 e5 (by simpa using e6) w
  by_cases e7 : A.six = true
  rotate_left
  · have hr : rightB ⟨h0, h1, h2, h3, h4, h5, A, B⟩ = false := Bool.eq_false_iff.2 fun h => by have g := right_good h; have : A.six = true := g.s; exact e7 this
    rw [hr]; exact maybe_7 hok e0 e1 e2 e3 e4 e5 e6 (by simpa using e7) w
  by_cases e8 : B.six = true
  rotate_left
  · have hr : rightB ⟨h0, h1, h2, h3, h4, h5, A, B⟩ = false := Bool.eq_false_iff.2 fun h => by have g := right_good h; have : B.six = true := g.d; exact e8 this
    rw [hr]; exact maybe_8 hok e0 e1 e2 e3 e4 e5 e6 e7 (by simpa using e8) w
  rw [show rightB ⟨h0, h1, h2, h3, h4, h5, A, B⟩ = true by simp [rightB, *]]; exact maybe_9 hok e0 e1 e2 e3 e4 e5 e6 e7 e8 w
end Go.Proofs.Ythicbdjambmnpaa
