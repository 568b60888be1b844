/-
  The document's Right.
-/
import Derived.Test.YthicbdjambmnpaaSAddr
namespace Go.Proofs.Ythicbdjambmnpaa
open Go.RowKit Go.Lib

set_option maxRecDepth 100000 in
set_option maxHeartbeats 2000000 in
theorem rright_0 {h0 h1 h2 : Int} {h3 : Bool} {h4 h5 : Int} {A B : Ad} (hok : Fr.Ok ⟨h0, h1, h2, h3, h4, h5, A, B⟩) (e0 : h0 ≠ 40) (w : World) :
    Calls Try.prog 13 #[frC ⟨h0, h1, h2, h3, h4, h5, A, B⟩] w fun e w' => e = .returned (.bool false) ∧ Below w.heap.size w w' := by
  have hb1 := Blk.new w 28 (frL ⟨h0, h1, h2, h3, h4, h5, A, B⟩)
  have hB1 := (Below.refl w.heap.size w).alloc (Nat.le_refl _) (.cells (frL ⟨h0, h1, h2, h3, h4, h5, A, B⟩).toArray 28)
  have k0 := hb1.cell (i := 0) (v := .int .i64 h0) rfl
  have k1 := hb1.cell (i := 1) (v := .int .i64 h1) rfl
  have k2 := hb1.cell (i := 2) (v := .int .i64 h2) rfl
  have k3 := hb1.cell (i := 3) (v := .bool h3) rfl
  have k4 := hb1.cell (i := 4) (v := .int .i64 h4) rfl
  have k5 := hb1.cell (i := 5) (v := .int .i64 h5) rfl
  have k6 := hb1.cell (i := 6) (v := .bool A.six) rfl
  have k7 := hb1.dst hok 0 (.bool B.six) rfl
  rw [Nat.add_zero] at k7
  unfold frC
  generalize frL ⟨h0, h1, h2, h3, h4, h5, A, B⟩ = C at *
  have q0 : (h0 == 40) = false := beq_eq_false_iff_ne.2 e0
  clear hb1
  go_enter Try.func13, Try.ntmps13
  go_wp2_with fail
  go_ret
  exact ⟨rfl, hB1⟩

set_option maxRecDepth 100000 in
set_option maxHeartbeats 2000000 in
theorem rright_1 {h0 h1 h2 : Int} {h3 : Bool} {h4 h5 : Int} {A B : Ad} (hok : Fr.Ok ⟨h0, h1, h2, h3, h4, h5, A, B⟩) (e0 : h0 = 40) (e1 : ¬ 40 ≤ h1) (w : World) :
    Calls Try.prog 13 #[frC ⟨h0, h1, h2, h3, h4, h5, A, B⟩] w fun e w' => e = .returned (.bool false) ∧ Below w.heap.size w w' := by
  have hb1 := Blk.new w 28 (frL ⟨h0, h1, h2, h3, h4, h5, A, B⟩)
  have hB1 := (Below.refl w.heap.size w).alloc (Nat.le_refl _) (.cells (frL ⟨h0, h1, h2, h3, h4, h5, A, B⟩).toArray 28)
  have k0 := hb1.cell (i := 0) (v := .int .i64 h0) rfl
  have k1 := hb1.cell (i := 1) (v := .int .i64 h1) rfl
  have k2 := hb1.cell (i := 2) (v := .int .i64 h2) rfl
  have k3 := hb1.cell (i := 3) (v := .bool h3) rfl
  have k4 := hb1.cell (i := 4) (v := .int .i64 h4) rfl
  have k5 := hb1.cell (i := 5) (v := .int .i64 h5) rfl
  have k6 := hb1.cell (i := 6) (v := .bool A.six) rfl
  have k7 := hb1.dst hok 0 (.bool B.six) rfl
  rw [Nat.add_zero] at k7
  unfold frC
  generalize frL ⟨h0, h1, h2, h3, h4, h5, A, B⟩ = C at *
  subst e0
  have d1 : decide (40 ≤ h1) = false := decide_eq_false e1
  clear hb1
  go_enter Try.func13, Try.ntmps13
  go_wp2_with fail
  go_ret
  exact ⟨rfl, hB1⟩

set_option maxRecDepth 100000 in
set_option maxHeartbeats 2000000 in
theorem rright_2 {h0 h1 h2 : Int} {h3 : Bool} {h4 h5 : Int} {A B : Ad} (hok : Fr.Ok ⟨h0, h1, h2, h3, h4, h5, A, B⟩) (e0 : h0 = 40) (e1 : 40 ≤ h1) (e2 : ¬ h1 ≤ 65575) (w : World) :
    Calls Try.prog 13 #[frC ⟨h0, h1, h2, h3, h4, h5, A, B⟩] w fun e w' => e = .returned (.bool false) ∧ Below w.heap.size w w' := by
  have hb1 := Blk.new w 28 (frL ⟨h0, h1, h2, h3, h4, h5, A, B⟩)
  have hB1 := (Below.refl w.heap.size w).alloc (Nat.le_refl _) (.cells (frL ⟨h0, h1, h2, h3, h4, h5, A, B⟩).toArray 28)
  have k0 := hb1.cell (i := 0) (v := .int .i64 h0) rfl
  have k1 := hb1.cell (i := 1) (v := .int .i64 h1) rfl
  have k2 := hb1.cell (i := 2) (v := .int .i64 h2) rfl
  have k3 := hb1.cell (i := 3) (v := .bool h3) rfl
  have k4 := hb1.cell (i := 4) (v := .int .i64 h4) rfl
  have k5 := hb1.cell (i := 5) (v := .int .i64 h5) rfl
  have k6 := hb1.cell (i := 6) (v := .bool A.six) rfl
  have k7 := hb1.dst hok 0 (.bool B.six) rfl
  rw [Nat.add_zero] at k7
  unfold frC
  generalize frL ⟨h0, h1, h2, h3, h4, h5, A, B⟩ = C at *
  subst e0
  have d1 : decide (40 ≤ h1) = true := decide_eq_true e1
  have d2 : decide (h1 ≤ 65575) = false := decide_eq_false e2
  clear hb1
  go_enter Try.func13, Try.ntmps13
  go_wp2_with fail
  go_ret
  exact ⟨rfl, hB1⟩

set_option maxRecDepth 100000 in
set_option maxHeartbeats 2000000 in
theorem rright_3 {h0 h1 h2 : Int} {h3 : Bool} {h4 h5 : Int} {A B : Ad} (hok : Fr.Ok ⟨h0, h1, h2, h3, h4, h5, A, B⟩) (e0 : h0 = 40) (e1 : 40 ≤ h1) (e2 : h1 ≤ 65575) (e3 : ¬ 0 ≤ h2) (w : World) :
    Calls Try.prog 13 #[frC ⟨h0, h1, h2, h3, h4, h5, A, B⟩] w fun e w' => e = .returned (.bool false) ∧ Below w.heap.size w w' := by
  have hb1 := Blk.new w 28 (frL ⟨h0, h1, h2, h3, h4, h5, A, B⟩)
  have hB1 := (Below.refl w.heap.size w).alloc (Nat.le_refl _) (.cells (frL ⟨h0, h1, h2, h3, h4, h5, A, B⟩).toArray 28)
  have k0 := hb1.cell (i := 0) (v := .int .i64 h0) rfl
  have k1 := hb1.cell (i := 1) (v := .int .i64 h1) rfl
  have k2 := hb1.cell (i := 2) (v := .int .i64 h2) rfl
  have k3 := hb1.cell (i := 3) (v := .bool h3) rfl
  have k4 := hb1.cell (i := 4) (v := .int .i64 h4) rfl
  have k5 := hb1.cell (i := 5) (v := .int .i64 h5) rfl
  have k6 := hb1.cell (i := 6) (v := .bool A.six) rfl
  have k7 := hb1.dst hok 0 (.bool B.six) rfl
  rw [Nat.add_zero] at k7
  unfold frC
  generalize frL ⟨h0, h1, h2, h3, h4, h5, A, B⟩ = C at *
  subst e0
  have d1 : decide (40 ≤ h1) = true := decide_eq_true e1
  have d2 : decide (h1 ≤ 65575) = true := decide_eq_true e2
  have d3 : decide (0 ≤ h2) = false := decide_eq_false e3
  clear hb1
  go_enter Try.func13, Try.ntmps13
  go_wp2_with fail
  go_ret
  exact ⟨rfl, hB1⟩

set_option maxRecDepth 100000 in
set_option maxHeartbeats 2000000 in
theorem rright_4 {h0 h1 h2 : Int} {h3 : Bool} {h4 h5 : Int} {A B : Ad} (hok : Fr.Ok ⟨h0, h1, h2, h3, h4, h5, A, B⟩) (e0 : h0 = 40) (e1 : 40 ≤ h1) (e2 : h1 ≤ 65575) (e3 : 0 ≤ h2) (e4 : ¬ h2 ≤ 255) (w : World) :
    Calls Try.prog 13 #[frC ⟨h0, h1, h2, h3, h4, h5, A, B⟩] w fun e w' => e = .returned (.bool false) ∧ Below w.heap.size w w' := by
  have hb1 := Blk.new w 28 (frL ⟨h0, h1, h2, h3, h4, h5, A, B⟩)
  have hB1 := (Below.refl w.heap.size w).alloc (Nat.le_refl _) (.cells (frL ⟨h0, h1, h2, h3, h4, h5, A, B⟩).toArray 28)
  have k0 := hb1.cell (i := 0) (v := .int .i64 h0) rfl
  have k1 := hb1.cell (i := 1) (v := .int .i64 h1) rfl
  have k2 := hb1.cell (i := 2) (v := .int .i64 h2) rfl
  have k3 := hb1.cell (i := 3) (v := .bool h3) rfl
  have k4 := hb1.cell (i := 4) (v := .int .i64 h4) rfl
  have k5 := hb1.cell (i := 5) (v := .int .i64 h5) rfl
  have k6 := hb1.cell (i := 6) (v := .bool A.six) rfl
  have k7 := hb1.dst hok 0 (.bool B.six) rfl
  rw [Nat.add_zero] at k7
  unfold frC
  generalize frL ⟨h0, h1, h2, h3, h4, h5, A, B⟩ = C at *
  subst e0
  have d1 : decide (40 ≤ h1) = true := decide_eq_true e1
  have d2 : decide (h1 ≤ 65575) = true := decide_eq_true e2
  have d3 : decide (0 ≤ h2) = true := decide_eq_true e3
  have d4 : decide (h2 ≤ 255) = false := decide_eq_false e4
  clear hb1
  go_enter Try.func13, Try.ntmps13
  go_wp2_with fail
  go_ret
  exact ⟨rfl, hB1⟩

set_option maxRecDepth 100000 in
set_option maxHeartbeats 2000000 in
theorem rright_5 {h0 h1 h2 : Int} {h3 : Bool} {h4 h5 : Int} {A B : Ad} (hok : Fr.Ok ⟨h0, h1, h2, h3, h4, h5, A, B⟩) (e0 : h0 = 40) (e1 : 40 ≤ h1) (e2 : h1 ≤ 65575) (e3 : 0 ≤ h2) (e4 : h2 ≤ 255) (e5 : ¬ 0 ≤ h5) (w : World) :
    Calls Try.prog 13 #[frC ⟨h0, h1, h2, h3, h4, h5, A, B⟩] w fun e w' => e = .returned (.bool false) ∧ Below w.heap.size w w' := by
  have hb1 := Blk.new w 28 (frL ⟨h0, h1, h2, h3, h4, h5, A, B⟩)
  have hB1 := (Below.refl w.heap.size w).alloc (Nat.le_refl _) (.cells (frL ⟨h0, h1, h2, h3, h4, h5, A, B⟩).toArray 28)
  have k0 := hb1.cell (i := 0) (v := .int .i64 h0) rfl
  have k1 := hb1.cell (i := 1) (v := .int .i64 h1) rfl
  have k2 := hb1.cell (i := 2) (v := .int .i64 h2) rfl
  have k3 := hb1.cell (i := 3) (v := .bool h3) rfl
  have k4 := hb1.cell (i := 4) (v := .int .i64 h4) rfl
  have k5 := hb1.cell (i := 5) (v := .int .i64 h5) rfl
  have k6 := hb1.cell (i := 6) (v := .bool A.six) rfl
  have k7 := hb1.dst hok 0 (.bool B.six) rfl
  rw [Nat.add_zero] at k7
  unfold frC
  generalize frL ⟨h0, h1, h2, h3, h4, h5, A, B⟩ = C at *
  subst e0
  have d1 : decide (40 ≤ h1) = true := decide_eq_true e1
  have d2 : decide (h1 ≤ 65575) = true := decide_eq_true e2
  have d3 : decide (0 ≤ h2) = true := decide_eq_true e3
  have d4 : decide (h2 ≤ 255) = true := decide_eq_true e4
  have d5 : decide (0 ≤ h5) = false := decide_eq_false e5
  clear hb1
  go_enter Try.func13, Try.ntmps13
  go_wp2_with fail
  go_ret
  exact ⟨rfl, hB1⟩

set_option maxRecDepth 100000 in
set_option maxHeartbeats 2000000 in
theorem rright_6 {h0 h1 h2 : Int} {h3 : Bool} {h4 h5 : Int} {A B : Ad} (hok : Fr.Ok ⟨h0, h1, h2, h3, h4, h5, A, B⟩) (e0 : h0 = 40) (e1 : 40 ≤ h1) (e2 : h1 ≤ 65575) (e3 : 0 ≤ h2) (e4 : h2 ≤ 255) (e5 : 0 ≤ h5) (e6 : ¬ h5 ≤ 255) (w : World) :
    Calls Try.prog 13 #[frC ⟨h0, h1, h2, h3, h4, h5, A, B⟩] w fun e w' => e = .returned (.bool false) ∧ Below w.heap.size w w' := by
  have hb1 := Blk.new w 28 (frL ⟨h0, h1, h2, h3, h4, h5, A, B⟩)
  have hB1 := (Below.refl w.heap.size w).alloc (Nat.le_refl _) (.cells (frL ⟨h0, h1, h2, h3, h4, h5, A, B⟩).toArray 28)
  have k0 := hb1.cell (i := 0) (v := .int .i64 h0) rfl
  have k1 := hb1.cell (i := 1) (v := .int .i64 h1) rfl
  have k2 := hb1.cell (i := 2) (v := .int .i64 h2) rfl
  have k3 := hb1.cell (i := 3) (v := .bool h3) rfl
  have k4 := hb1.cell (i := 4) (v := .int .i64 h4) rfl
  have k5 := hb1.cell (i := 5) (v := .int .i64 h5) rfl
  have k6 := hb1.cell (i := 6) (v := .bool A.six) rfl
  have k7 := hb1.dst hok 0 (.bool B.six) rfl
  rw [Nat.add_zero] at k7
  unfold frC
  generalize frL ⟨h0, h1, h2, h3, h4, h5, A, B⟩ = C at *
  subst e0
  have d1 : decide (40 ≤ h1) = true := decide_eq_true e1
  have d2 : decide (h1 ≤ 65575) = true := decide_eq_true e2
  have d3 : decide (0 ≤ h2) = true := decide_eq_true e3
  have d4 : decide (h2 ≤ 255) = true := decide_eq_true e4
  have d5 : decide (0 ≤ h5) = true := decide_eq_true e5
  have d6 : decide (h5 ≤ 255) = false := decide_eq_false e6
  clear hb1
  go_enter Try.func13, Try.ntmps13
  go_wp2_with fail
  go_ret
  exact ⟨rfl, hB1⟩

set_option maxRecDepth 100000 in
set_option maxHeartbeats 2000000 in
theorem rright_7 {h0 h1 h2 : Int} {h3 : Bool} {h4 h5 : Int} {A B : Ad} (hok : Fr.Ok ⟨h0, h1, h2, h3, h4, h5, A, B⟩) (e0 : h0 = 40) (e1 : 40 ≤ h1) (e2 : h1 ≤ 65575) (e3 : 0 ≤ h2) (e4 : h2 ≤ 255) (e5 : 0 ≤ h5) (e6 : h5 ≤ 255) (e7 : extI h5 = true) (w : World) :
    Calls Try.prog 13 #[frC ⟨h0, h1, h2, h3, h4, h5, A, B⟩] w fun e w' => e = .returned (.bool false) ∧ Below w.heap.size w w' := by
  have hb1 := Blk.new w 28 (frL ⟨h0, h1, h2, h3, h4, h5, A, B⟩)
  have hB1 := (Below.refl w.heap.size w).alloc (Nat.le_refl _) (.cells (frL ⟨h0, h1, h2, h3, h4, h5, A, B⟩).toArray 28)
  have k0 := hb1.cell (i := 0) (v := .int .i64 h0) rfl
  have k1 := hb1.cell (i := 1) (v := .int .i64 h1) rfl
  have k2 := hb1.cell (i := 2) (v := .int .i64 h2) rfl
  have k3 := hb1.cell (i := 3) (v := .bool h3) rfl
  have k4 := hb1.cell (i := 4) (v := .int .i64 h4) rfl
  have k5 := hb1.cell (i := 5) (v := .int .i64 h5) rfl
  have k6 := hb1.cell (i := 6) (v := .bool A.six) rfl
  have k7 := hb1.dst hok 0 (.bool B.six) rfl
  rw [Nat.add_zero] at k7
  unfold frC
  generalize frL ⟨h0, h1, h2, h3, h4, h5, A, B⟩ = C at *
  subst e0
  have d1 : decide (40 ≤ h1) = true := decide_eq_true e1
  have d2 : decide (h1 ≤ 65575) = true := decide_eq_true e2
  have d3 : decide (0 ≤ h2) = true := decide_eq_true e3
  have d4 : decide (h2 ≤ 255) = true := decide_eq_true e4
  have d5 : decide (0 ≤ h5) = true := decide_eq_true e5
  have d6 : decide (h5 ≤ 255) = true := decide_eq_true e6
  have H7 := Lib.hid (fun W => e7 ▸ rext_any h5 W)
  clear hb1
  go_enter Try.func13, Try.ntmps13
  go_wp2_with fail
  refine (H7.out _).mono ?_
  rintro e w2 ⟨rfl, rfl⟩
  go_wp2_with fail
  go_ret
  exact ⟨rfl, hB1⟩

set_option maxRecDepth 100000 in
set_option maxHeartbeats 2000000 in
theorem rright_8 {h0 h1 h2 : Int} {h3 : Bool} {h4 h5 : Int} {A B : Ad} (hok : Fr.Ok ⟨h0, h1, h2, h3, h4, h5, A, B⟩) (e0 : h0 = 40) (e1 : 40 ≤ h1) (e2 : h1 ≤ 65575) (e3 : 0 ≤ h2) (e4 : h2 ≤ 255) (e5 : 0 ≤ h5) (e6 : h5 ≤ 255) (e7 : extI h5 = false) (e8 : h3 = true) (w : World) :
    Calls Try.prog 13 #[frC ⟨h0, h1, h2, h3, h4, h5, A, B⟩] w fun e w' => e = .returned (.bool false) ∧ Below w.heap.size w w' := by
  have hb1 := Blk.new w 28 (frL ⟨h0, h1, h2, h3, h4, h5, A, B⟩)
  have hB1 := (Below.refl w.heap.size w).alloc (Nat.le_refl _) (.cells (frL ⟨h0, h1, h2, h3, h4, h5, A, B⟩).toArray 28)
  have k0 := hb1.cell (i := 0) (v := .int .i64 h0) rfl
  have k1 := hb1.cell (i := 1) (v := .int .i64 h1) rfl
  have k2 := hb1.cell (i := 2) (v := .int .i64 h2) rfl
  have k3 := hb1.cell (i := 3) (v := .bool h3) rfl
  have k4 := hb1.cell (i := 4) (v := .int .i64 h4) rfl
  have k5 := hb1.cell (i := 5) (v := .int .i64 h5) rfl
  have k6 := hb1.cell (i := 6) (v := .bool A.six) rfl
  have k7 := hb1.dst hok 0 (.bool B.six) rfl
  rw [Nat.add_zero] at k7
  unfold frC
  generalize frL ⟨h0, h1, h2, h3, h4, h5, A, B⟩ = C at *
  subst e0
  have d1 : decide (40 ≤ h1) = true := decide_eq_true e1
  have d2 : decide (h1 ≤ 65575) = true := decide_eq_true e2
  have d3 : decide (0 ≤ h2) = true := decide_eq_true e3
  have d4 : decide (h2 ≤ 255) = true := decide_eq_true e4
  have d5 : decide (0 ≤ h5) = true := decide_eq_true e5
  have d6 : decide (h5 ≤ 255) = true := decide_eq_true e6
  have H7 := Lib.hid (fun W => e7 ▸ rext_any h5 W)
  subst e8
  clear hb1
  go_enter Try.func13, Try.ntmps13
  go_wp2_with fail
  refine (H7.out _).mono ?_
  rintro e w2 ⟨rfl, rfl⟩
  go_wp2_with fail
  go_ret
  exact ⟨rfl, hB1⟩

set_option maxRecDepth 100000 in
set_option maxHeartbeats 2000000 in
theorem rright_9 {h0 h1 h2 : Int} {h3 : Bool} {h4 h5 : Int} {A B : Ad} (hok : Fr.Ok ⟨h0, h1, h2, h3, h4, h5, A, B⟩) (e0 : h0 = 40) (e1 : 40 ≤ h1) (e2 : h1 ≤ 65575) (e3 : 0 ≤ h2) (e4 : h2 ≤ 255) (e5 : 0 ≤ h5) (e6 : h5 ≤ 255) (e7 : extI h5 = false) (e8 : h3 = false) (e9 : h4 ≠ 0) (w : World) :
    Calls Try.prog 13 #[frC ⟨h0, h1, h2, h3, h4, h5, A, B⟩] w fun e w' => e = .returned (.bool false) ∧ Below w.heap.size w w' := by
  have hb1 := Blk.new w 28 (frL ⟨h0, h1, h2, h3, h4, h5, A, B⟩)
  have hB1 := (Below.refl w.heap.size w).alloc (Nat.le_refl _) (.cells (frL ⟨h0, h1, h2, h3, h4, h5, A, B⟩).toArray 28)
  have k0 := hb1.cell (i := 0) (v := .int .i64 h0) rfl
  have k1 := hb1.cell (i := 1) (v := .int .i64 h1) rfl
  have k2 := hb1.cell (i := 2) (v := .int .i64 h2) rfl
  have k3 := hb1.cell (i := 3) (v := .bool h3) rfl
  have k4 := hb1.cell (i := 4) (v := .int .i64 h4) rfl
  have k5 := hb1.cell (i := 5) (v := .int .i64 h5) rfl
  have k6 := hb1.cell (i := 6) (v := .bool A.six) rfl
  have k7 := hb1.dst hok 0 (.bool B.six) rfl
  rw [Nat.add_zero] at k7
  unfold frC
  generalize frL ⟨h0, h1, h2, h3, h4, h5, A, B⟩ = C at *
  subst e0
  have d1 : decide (40 ≤ h1) = true := decide_eq_true e1
  have d2 : decide (h1 ≤ 65575) = true := decide_eq_true e2
  have d3 : decide (0 ≤ h2) = true := decide_eq_true e3
  have d4 : decide (h2 ≤ 255) = true := decide_eq_true e4
  have d5 : decide (0 ≤ h5) = true := decide_eq_true e5
  have d6 : decide (h5 ≤ 255) = true := decide_eq_true e6
  have H7 := Lib.hid (fun W => e7 ▸ rext_any h5 W)
  subst e8
  have q4 : (h4 == 0) = false := beq_eq_false_iff_ne.2 e9
  clear hb1
  go_enter Try.func13, Try.ntmps13
  go_wp2_with fail
  refine (H7.out _).mono ?_
  rintro e w2 ⟨rfl, rfl⟩
  go_wp2_with fail
  go_ret
  exact ⟨rfl, hB1⟩

set_option maxRecDepth 100000 in
set_option maxHeartbeats 2000000 in
theorem rright_10 {h0 h1 h2 : Int} {h3 : Bool} {h4 h5 : Int} {A B : Ad} (hok : Fr.Ok ⟨h0, h1, h2, h3, h4, h5, A, B⟩) (e0 : h0 = 40) (e1 : 40 ≤ h1) (e2 : h1 ≤ 65575) (e3 : 0 ≤ h2) (e4 : h2 ≤ 255) (e5 : 0 ≤ h5) (e6 : h5 ≤ 255) (e7 : extI h5 = false) (e8 : h3 = false) (e9 : h4 = 0) (e10 : A.six = false) (w : World) :
    Calls Try.prog 13 #[frC ⟨h0, h1, h2, h3, h4, h5, A, B⟩] w fun e w' => e = .returned (.bool false) ∧ Below w.heap.size w w' := by
  have hb1 := Blk.new w 28 (frL ⟨h0, h1, h2, h3, h4, h5, A, B⟩)
  have hB1 := (Below.refl w.heap.size w).alloc (Nat.le_refl _) (.cells (frL ⟨h0, h1, h2, h3, h4, h5, A, B⟩).toArray 28)
  have k0 := hb1.cell (i := 0) (v := .int .i64 h0) rfl
  have k1 := hb1.cell (i := 1) (v := .int .i64 h1) rfl
  have k2 := hb1.cell (i := 2) (v := .int .i64 h2) rfl
  have k3 := hb1.cell (i := 3) (v := .bool h3) rfl
  have k4 := hb1.cell (i := 4) (v := .int .i64 h4) rfl
  have k5 := hb1.cell (i := 5) (v := .int .i64 h5) rfl
  have k6 := hb1.cell (i := 6) (v := .bool A.six) rfl
  have k7 := hb1.dst hok 0 (.bool B.six) rfl
  rw [Nat.add_zero] at k7
  unfold frC
  generalize frL ⟨h0, h1, h2, h3, h4, h5, A, B⟩ = C at *
  subst e0
  have d1 : decide (40 ≤ h1) = true := decide_eq_true e1
  have d2 : decide (h1 ≤ 65575) = true := decide_eq_true e2
  have d3 : decide (0 ≤ h2) = true := decide_eq_true e3
  have d4 : decide (h2 ≤ 255) = true := decide_eq_true e4
  have d5 : decide (0 ≤ h5) = true := decide_eq_true e5
  have d6 : decide (h5 ≤ 255) = true := decide_eq_true e6
  have H7 := Lib.hid (fun W => e7 ▸ rext_any h5 W)
  subst e8
  subst e9
  rw [e10] at k6
  clear hb1
  go_enter Try.func13, Try.ntmps13
  go_wp2_with fail
  refine (H7.out _).mono ?_
  rintro e w2 ⟨rfl, rfl⟩
  go_wp2_with fail
  go_ret
  exact ⟨rfl, hB1⟩

set_option maxRecDepth 100000 in
set_option maxHeartbeats 2000000 in
theorem rright_11 {h0 h1 h2 : Int} {h3 : Bool} {h4 h5 : Int} {A B : Ad} (hok : Fr.Ok ⟨h0, h1, h2, h3, h4, h5, A, B⟩) (e0 : h0 = 40) (e1 : 40 ≤ h1) (e2 : h1 ≤ 65575) (e3 : 0 ≤ h2) (e4 : h2 ≤ 255) (e5 : 0 ≤ h5) (e6 : h5 ≤ 255) (e7 : extI h5 = false) (e8 : h3 = false) (e9 : h4 = 0) (e10 : A.six = true) (e11 : B.six = false) (w : World) :
    Calls Try.prog 13 #[frC ⟨h0, h1, h2, h3, h4, h5, A, B⟩] w fun e w' => e = .returned (.bool false) ∧ Below w.heap.size w w' := by
  have hb1 := Blk.new w 28 (frL ⟨h0, h1, h2, h3, h4, h5, A, B⟩)
  have hB1 := (Below.refl w.heap.size w).alloc (Nat.le_refl _) (.cells (frL ⟨h0, h1, h2, h3, h4, h5, A, B⟩).toArray 28)
  have k0 := hb1.cell (i := 0) (v := .int .i64 h0) rfl
  have k1 := hb1.cell (i := 1) (v := .int .i64 h1) rfl
  have k2 := hb1.cell (i := 2) (v := .int .i64 h2) rfl
  have k3 := hb1.cell (i := 3) (v := .bool h3) rfl
  have k4 := hb1.cell (i := 4) (v := .int .i64 h4) rfl
  have k5 := hb1.cell (i := 5) (v := .int .i64 h5) rfl
  have k6 := hb1.cell (i := 6) (v := .bool A.six) rfl
  have k7 := hb1.dst hok 0 (.bool B.six) rfl
  rw [Nat.add_zero] at k7
  unfold frC
  generalize frL ⟨h0, h1, h2, h3, h4, h5, A, B⟩ = C at *
  subst e0
  have d1 : decide (40 ≤ h1) = true := decide_eq_true e1
  have d2 : decide (h1 ≤ 65575) = true := decide_eq_true e2
  have d3 : decide (0 ≤ h2) = true := decide_eq_true e3
  have d4 : decide (h2 ≤ 255) = true := decide_eq_true e4
  have d5 : decide (0 ≤ h5) = true := decide_eq_true e5
  have d6 : decide (h5 ≤ 255) = true := decide_eq_true e6
  have H7 := Lib.hid (fun W => e7 ▸ rext_any h5 W)
  subst e8
  subst e9
  rw [e10] at k6
  rw [e11] at k7
  clear hb1
  go_enter Try.func13, Try.ntmps13
  go_wp2_with fail
  refine (H7.out _).mono ?_
  rintro e w2 ⟨rfl, rfl⟩
  go_wp2_with fail
  go_ret
  exact ⟨rfl, hB1⟩

set_option maxRecDepth 100000 in
set_option maxHeartbeats 2000000 in
theorem rright_12 {h0 h1 h2 : Int} {h3 : Bool} {h4 h5 : Int} {A B : Ad} (hok : Fr.Ok ⟨h0, h1, h2, h3, h4, h5, A, B⟩) (e0 : h0 = 40) (e1 : 40 ≤ h1) (e2 : h1 ≤ 65575) (e3 : 0 ≤ h2) (e4 : h2 ≤ 255) (e5 : 0 ≤ h5) (e6 : h5 ≤ 255) (e7 : extI h5 = false) (e8 : h3 = false) (e9 : h4 = 0) (e10 : A.six = true) (e11 : B.six = true) (w : World) :
    Calls Try.prog 13 #[frC ⟨h0, h1, h2, h3, h4, h5, A, B⟩] w fun e w' => e = .returned (.bool true) ∧ Below w.heap.size w w' := by
  have hb1 := Blk.new w 28 (frL ⟨h0, h1, h2, h3, h4, h5, A, B⟩)
  have hB1 := (Below.refl w.heap.size w).alloc (Nat.le_refl _) (.cells (frL ⟨h0, h1, h2, h3, h4, h5, A, B⟩).toArray 28)
  have k0 := hb1.cell (i := 0) (v := .int .i64 h0) rfl
  have k1 := hb1.cell (i := 1) (v := .int .i64 h1) rfl
  have k2 := hb1.cell (i := 2) (v := .int .i64 h2) rfl
  have k3 := hb1.cell (i := 3) (v := .bool h3) rfl
  have k4 := hb1.cell (i := 4) (v := .int .i64 h4) rfl
  have k5 := hb1.cell (i := 5) (v := .int .i64 h5) rfl
  have k6 := hb1.cell (i := 6) (v := .bool A.six) rfl
  have k7 := hb1.dst hok 0 (.bool B.six) rfl
  rw [Nat.add_zero] at k7
  unfold frC
  generalize frL ⟨h0, h1, h2, h3, h4, h5, A, B⟩ = C at *
  subst e0
  have d1 : decide (40 ≤ h1) = true := decide_eq_true e1
  have d2 : decide (h1 ≤ 65575) = true := decide_eq_true e2
  have d3 : decide (0 ≤ h2) = true := decide_eq_true e3
  have d4 : decide (h2 ≤ 255) = true := decide_eq_true e4
  have d5 : decide (0 ≤ h5) = true := decide_eq_true e5
  have d6 : decide (h5 ≤ 255) = true := decide_eq_true e6
  have H7 := Lib.hid (fun W => e7 ▸ rext_any h5 W)
  subst e8
  subst e9
  rw [e10] at k6
  rw [e11] at k7
  clear hb1
  go_enter Try.func13, Try.ntmps13
  go_wp2_with fail
  refine (H7.out _).mono ?_
  rintro e w2 ⟨rfl, rfl⟩
  go_wp2_with fail
  go_ret
  exact ⟨rfl, hB1⟩

theorem rright_any {f : Fr} (hok : f.Ok) (w : World) : Calls Try.prog 13 #[frC f] w fun e w' => e = .returned (.bool (rightB f)) ∧ Below w.heap.size w w' := by
  obtain ⟨h0, h1, h2, h3, h4, h5, A, B⟩ := f
  by_cases e0 : h0 = 40
  rotate_left
  · have hr : rightB ⟨h0, h1, h2, h3, h4, h5, A, B⟩ = false := Bool.eq_false_iff.2 fun h => by have g := right_good h; have : h0 = 40 := g.head; exact e0 this
    rw [hr]; exact rright_0 hok  e0 w
  by_cases e1 : 40 ≤ h1
  rotate_left
  · have hr : rightB ⟨h0, h1, h2, h3, h4, h5, A, B⟩ = false := Bool.eq_false_iff.2 fun h => by have g := right_good h; have : 40 ≤ h1 := g.t0; exact e1 this
    rw [hr]; exact rright_1 hok e0 e1 w
  by_cases e2 : h1 ≤ 65575
  rotate_left
  · have hr : rightB ⟨h0, h1, h2, h3, h4, h5, A, B⟩ = false := Bool.eq_false_iff.2 fun h => by have g := right_good h; have : h1 ≤ 65575 := g.t1; exact e2 this
    rw [hr]; exact rright_2 hok e0 e1 e2 w
  by_cases e3 : 0 ≤ h2
  rotate_left
  · have hr : rightB ⟨h0, h1, h2, h3, h4, h5, A, B⟩ = false := Bool.eq_false_iff.2 fun h => by have g := right_good h; have : 0 ≤ h2 := g.o0; exact e3 this
    rw [hr]; exact rright_3 hok e0 e1 e2 e3 w
  by_cases e4 : h2 ≤ 255
  rotate_left
  · have hr : rightB ⟨h0, h1, h2, h3, h4, h5, A, B⟩ = false := Bool.eq_false_iff.2 fun h => by have g := right_good h; have : h2 ≤ 255 := g.o1; exact e4 this
    rw [hr]; exact rright_4 hok e0 e1 e2 e3 e4 w
  by_cases e5 : 0 ≤ h5
  rotate_left
  · have hr : rightB ⟨h0, h1, h2, h3, h4, h5, A, B⟩ = false := Bool.eq_false_iff.2 fun h => by have g := right_good h; have : 0 ≤ h5 := g.p0; exact e5 this
    rw [hr]; exact rright_5 hok e0 e1 e2 e3 e4 e5 w
  by_cases e6 : h5 ≤ 255
  rotate_left
  · have hr : rightB ⟨h0, h1, h2, h3, h4, h5, A, B⟩ = false := Bool.eq_false_iff.2 fun h => by have g := right_good h; have : h5 ≤ 255 := g.p1; exact e6 this
    rw [hr]; exact rright_6 hok e0 e1 e2 e3 e4 e5 e6 w
  by_cases e7 : extI h5 = false
  rotate_left
  · have hr : rightB ⟨h0, h1, h2, h3, h4, h5, A, B⟩ = false := Bool.eq_false_iff.2 fun h => by have g := right_good h; have : extI h5 = false := g.ext; exact e7 this
    rw [hr]; exact rright_7 hok e0 e1 e2 e3 e4 e5 e6 (by simpa using e7) w
  by_cases e8 : h3 = false
  rotate_left
  · have hr : rightB ⟨h0, h1, h2, h3, h4, h5, A, B⟩ = false := Bool.eq_false_iff.2 fun h => by have g := right_good h; have : h3 = false := g.frag; exact e8 this
    rw [hr]; exact rright_8 hok e0 e1 e2 e3 e4 e5 e6 e7 (by simpa using e8) w
  by_cases e9 : h4 = 0
  rotate_left
  · have hr : rightB ⟨h0, h1, h2, h3, h4, h5, A, B⟩ = false := Bool.eq_false_iff.2 fun h => by have g := right_good h; have : h4 = 0 := g.exts; exact e9 this
    rw [hr]; exact rright_9 hok e0 e1 e2 e3 e4 e5 e6 e7 e8 e9 w
  by_cases e10 : A.six = true
  rotate_left
  · have hr : rightB ⟨h0, h1, h2, h3, h4, h5, A, B⟩ = false := Bool.eq_false_iff.2 fun h => by have g := right_good h; have : A.six = true := g.s; exact e10 this
    rw [hr]; exact rright_10 hok e0 e1 e2 e3 e4 e5 e6 e7 e8 e9 (by simpa using e10) w
  by_cases e11 : B.six = true
  rotate_left
  · have hr : rightB ⟨h0, h1, h2, h3, h4, h5, A, B⟩ = false := Bool.eq_false_iff.2 fun h => by have g := right_good h; have : B.six = true := g.d; exact e11 this
    rw [hr]; exact rright_11 hok e0 e1 e2 e3 e4 e5 e6 e7 e8 e9 e10 (by simpa using e11) w
  rw [show rightB ⟨h0, h1, h2, h3, h4, h5, A, B⟩ = true by simp [rightB, inB, *]]; exact rright_12 hok e0 e1 e2 e3 e4 e5 e6 e7 e8 e9 e10 e11 w
end Go.Proofs.Ythicbdjambmnpaa
