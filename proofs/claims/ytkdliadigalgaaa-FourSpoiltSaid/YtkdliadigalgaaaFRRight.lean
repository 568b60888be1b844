/-
  The document's Right.
-/
import Derived.Test.YtkdliadigalgaaaFRAddr
namespace Go.Proofs.Ytkdliadigalgaaa
open Go.RowKit Go.Lib

set_option maxRecDepth 100000 in
set_option maxHeartbeats 2000000 in
theorem rright_0 {h0 h1 h2 h3 : Int} {h4 h5 : Bool} {h6 h7 : Int} {A B : Ad} (hok : Fr.Ok ⟨h0, h1, h2, h3, h4, h5, h6, h7, A, B⟩) (e0 : h0 ≠ 20) (w : World) :
    Calls Try.prog 13 #[frC ⟨h0, h1, h2, h3, h4, h5, h6, h7, A, B⟩] w fun e w' => e = .returned (.bool false) ∧ Below w.heap.size w w' := by
  have hA : A.b.length = 16 := hok.s
  have hB : B.b.length = 16 := hok.d
  have hb1 := Blk.new w 28 (frL ⟨h0, h1, h2, h3, h4, h5, h6, h7, A, B⟩)
  have hB1 := (Below.refl w.heap.size w).alloc (Nat.le_refl _) (.cells (frL ⟨h0, h1, h2, h3, h4, h5, h6, h7, A, B⟩).toArray 28)
  have hz1 : (w.alloc (.cells (frL ⟨h0, h1, h2, h3, h4, h5, h6, h7, A, B⟩).toArray 28)).heap.size = w.heap.size + 1 := by simp
  have k0 := hb1.cell (i := 0) (v := .int .i64 h0) rfl
  have k1 := hb1.cell (i := 1) (v := .int .i64 h1) rfl
  have k2 := hb1.cell (i := 2) (v := .int .i64 h2) rfl
  have k3 := hb1.cell (i := 3) (v := .int .i64 h3) rfl
  have k4 := hb1.cell (i := 4) (v := .bool h4) rfl
  have k6 := hb1.cell (i := 6) (v := .int .i64 h6) rfl
  have k7 := hb1.cell (i := 7) (v := .int .i64 h7) rfl
  have kA := Lib.hid hb1.src
  have kB := Lib.hid (hb1.dst hok)
  unfold frC
  generalize frL ⟨h0, h1, h2, h3, h4, h5, h6, h7, A, B⟩ = C at *
  have q0 : (h0 == 20) = false := beq_eq_false_iff_ne.2 e0
  clear hb1
  go_enter Try.func13, Try.ntmps13
  go_wp2_with fail
  go_ret
  exact ⟨rfl, hB1⟩

set_option maxRecDepth 100000 in
set_option maxHeartbeats 2000000 in
theorem rright_1 {h0 h1 h2 h3 : Int} {h4 h5 : Bool} {h6 h7 : Int} {A B : Ad} (hok : Fr.Ok ⟨h0, h1, h2, h3, h4, h5, h6, h7, A, B⟩) (e0 : h0 = 20) (e1 : ¬ 20 ≤ h1) (w : World) :
    Calls Try.prog 13 #[frC ⟨h0, h1, h2, h3, h4, h5, h6, h7, A, B⟩] w fun e w' => e = .returned (.bool false) ∧ Below w.heap.size w w' := by
  have hA : A.b.length = 16 := hok.s
  have hB : B.b.length = 16 := hok.d
  have hb1 := Blk.new w 28 (frL ⟨h0, h1, h2, h3, h4, h5, h6, h7, A, B⟩)
  have hB1 := (Below.refl w.heap.size w).alloc (Nat.le_refl _) (.cells (frL ⟨h0, h1, h2, h3, h4, h5, h6, h7, A, B⟩).toArray 28)
  have hz1 : (w.alloc (.cells (frL ⟨h0, h1, h2, h3, h4, h5, h6, h7, A, B⟩).toArray 28)).heap.size = w.heap.size + 1 := by simp
  have k0 := hb1.cell (i := 0) (v := .int .i64 h0) rfl
  have k1 := hb1.cell (i := 1) (v := .int .i64 h1) rfl
  have k2 := hb1.cell (i := 2) (v := .int .i64 h2) rfl
  have k3 := hb1.cell (i := 3) (v := .int .i64 h3) rfl
  have k4 := hb1.cell (i := 4) (v := .bool h4) rfl
  have k6 := hb1.cell (i := 6) (v := .int .i64 h6) rfl
  have k7 := hb1.cell (i := 7) (v := .int .i64 h7) rfl
  have kA := Lib.hid hb1.src
  have kB := Lib.hid (hb1.dst hok)
  unfold frC
  generalize frL ⟨h0, h1, h2, h3, h4, h5, h6, h7, A, B⟩ = C at *
  subst e0
  have d1 : decide (20 ≤ h1) = false := decide_eq_false e1
  clear hb1
  go_enter Try.func13, Try.ntmps13
  go_wp2_with fail
  go_ret
  exact ⟨rfl, hB1⟩

set_option maxRecDepth 100000 in
set_option maxHeartbeats 2000000 in
theorem rright_2 {h0 h1 h2 h3 : Int} {h4 h5 : Bool} {h6 h7 : Int} {A B : Ad} (hok : Fr.Ok ⟨h0, h1, h2, h3, h4, h5, h6, h7, A, B⟩) (e0 : h0 = 20) (e1 : 20 ≤ h1) (e2 : ¬ h1 ≤ 65535) (w : World) :
    Calls Try.prog 13 #[frC ⟨h0, h1, h2, h3, h4, h5, h6, h7, A, B⟩] w fun e w' => e = .returned (.bool false) ∧ Below w.heap.size w w' := by
  have hA : A.b.length = 16 := hok.s
  have hB : B.b.length = 16 := hok.d
  have hb1 := Blk.new w 28 (frL ⟨h0, h1, h2, h3, h4, h5, h6, h7, A, B⟩)
  have hB1 := (Below.refl w.heap.size w).alloc (Nat.le_refl _) (.cells (frL ⟨h0, h1, h2, h3, h4, h5, h6, h7, A, B⟩).toArray 28)
  have hz1 : (w.alloc (.cells (frL ⟨h0, h1, h2, h3, h4, h5, h6, h7, A, B⟩).toArray 28)).heap.size = w.heap.size + 1 := by simp
  have k0 := hb1.cell (i := 0) (v := .int .i64 h0) rfl
  have k1 := hb1.cell (i := 1) (v := .int .i64 h1) rfl
  have k2 := hb1.cell (i := 2) (v := .int .i64 h2) rfl
  have k3 := hb1.cell (i := 3) (v := .int .i64 h3) rfl
  have k4 := hb1.cell (i := 4) (v := .bool h4) rfl
  have k6 := hb1.cell (i := 6) (v := .int .i64 h6) rfl
  have k7 := hb1.cell (i := 7) (v := .int .i64 h7) rfl
  have kA := Lib.hid hb1.src
  have kB := Lib.hid (hb1.dst hok)
  unfold frC
  generalize frL ⟨h0, h1, h2, h3, h4, h5, h6, h7, A, B⟩ = C at *
  subst e0
  have d1 : decide (20 ≤ h1) = true := decide_eq_true e1
  have d2 : decide (h1 ≤ 65535) = false := decide_eq_false e2
  clear hb1
  go_enter Try.func13, Try.ntmps13
  go_wp2_with fail
  go_ret
  exact ⟨rfl, hB1⟩

set_option maxRecDepth 100000 in
set_option maxHeartbeats 2000000 in
theorem rright_3 {h0 h1 h2 h3 : Int} {h4 h5 : Bool} {h6 h7 : Int} {A B : Ad} (hok : Fr.Ok ⟨h0, h1, h2, h3, h4, h5, h6, h7, A, B⟩) (e0 : h0 = 20) (e1 : 20 ≤ h1) (e2 : h1 ≤ 65535) (e3 : ¬ 0 ≤ h2) (w : World) :
    Calls Try.prog 13 #[frC ⟨h0, h1, h2, h3, h4, h5, h6, h7, A, B⟩] w fun e w' => e = .returned (.bool false) ∧ Below w.heap.size w w' := by
  have hA : A.b.length = 16 := hok.s
  have hB : B.b.length = 16 := hok.d
  have hb1 := Blk.new w 28 (frL ⟨h0, h1, h2, h3, h4, h5, h6, h7, A, B⟩)
  have hB1 := (Below.refl w.heap.size w).alloc (Nat.le_refl _) (.cells (frL ⟨h0, h1, h2, h3, h4, h5, h6, h7, A, B⟩).toArray 28)
  have hz1 : (w.alloc (.cells (frL ⟨h0, h1, h2, h3, h4, h5, h6, h7, A, B⟩).toArray 28)).heap.size = w.heap.size + 1 := by simp
  have k0 := hb1.cell (i := 0) (v := .int .i64 h0) rfl
  have k1 := hb1.cell (i := 1) (v := .int .i64 h1) rfl
  have k2 := hb1.cell (i := 2) (v := .int .i64 h2) rfl
  have k3 := hb1.cell (i := 3) (v := .int .i64 h3) rfl
  have k4 := hb1.cell (i := 4) (v := .bool h4) rfl
  have k6 := hb1.cell (i := 6) (v := .int .i64 h6) rfl
  have k7 := hb1.cell (i := 7) (v := .int .i64 h7) rfl
  have kA := Lib.hid hb1.src
  have kB := Lib.hid (hb1.dst hok)
  unfold frC
  generalize frL ⟨h0, h1, h2, h3, h4, h5, h6, h7, A, B⟩ = C at *
  subst e0
  have d1 : decide (20 ≤ h1) = true := decide_eq_true e1
  have d2 : decide (h1 ≤ 65535) = true := decide_eq_true e2
  have d3 : decide (0 ≤ h2) = false := decide_eq_false e3
  clear hb1
  go_enter Try.func13, Try.ntmps13
  go_wp2_with fail
  go_ret
  exact ⟨rfl, hB1⟩

set_option maxRecDepth 100000 in
set_option maxHeartbeats 2000000 in
theorem rright_4 {h0 h1 h2 h3 : Int} {h4 h5 : Bool} {h6 h7 : Int} {A B : Ad} (hok : Fr.Ok ⟨h0, h1, h2, h3, h4, h5, h6, h7, A, B⟩) (e0 : h0 = 20) (e1 : 20 ≤ h1) (e2 : h1 ≤ 65535) (e3 : 0 ≤ h2) (e4 : ¬ h2 ≤ 255) (w : World) :
    Calls Try.prog 13 #[frC ⟨h0, h1, h2, h3, h4, h5, h6, h7, A, B⟩] w fun e w' => e = .returned (.bool false) ∧ Below w.heap.size w w' := by
  have hA : A.b.length = 16 := hok.s
  have hB : B.b.length = 16 := hok.d
  have hb1 := Blk.new w 28 (frL ⟨h0, h1, h2, h3, h4, h5, h6, h7, A, B⟩)
  have hB1 := (Below.refl w.heap.size w).alloc (Nat.le_refl _) (.cells (frL ⟨h0, h1, h2, h3, h4, h5, h6, h7, A, B⟩).toArray 28)
  have hz1 : (w.alloc (.cells (frL ⟨h0, h1, h2, h3, h4, h5, h6, h7, A, B⟩).toArray 28)).heap.size = w.heap.size + 1 := by simp
  have k0 := hb1.cell (i := 0) (v := .int .i64 h0) rfl
  have k1 := hb1.cell (i := 1) (v := .int .i64 h1) rfl
  have k2 := hb1.cell (i := 2) (v := .int .i64 h2) rfl
  have k3 := hb1.cell (i := 3) (v := .int .i64 h3) rfl
  have k4 := hb1.cell (i := 4) (v := .bool h4) rfl
  have k6 := hb1.cell (i := 6) (v := .int .i64 h6) rfl
  have k7 := hb1.cell (i := 7) (v := .int .i64 h7) rfl
  have kA := Lib.hid hb1.src
  have kB := Lib.hid (hb1.dst hok)
  unfold frC
  generalize frL ⟨h0, h1, h2, h3, h4, h5, h6, h7, A, B⟩ = C at *
  subst e0
  have d1 : decide (20 ≤ h1) = true := decide_eq_true e1
  have d2 : decide (h1 ≤ 65535) = true := decide_eq_true e2
  have d3 : decide (0 ≤ h2) = true := decide_eq_true e3
  have d4 : decide (h2 ≤ 255) = false := decide_eq_false e4
  clear hb1
  go_enter Try.func13, Try.ntmps13
  go_wp2_with fail
  go_ret
  exact ⟨rfl, hB1⟩

set_option maxRecDepth 100000 in
set_option maxHeartbeats 2000000 in
theorem rright_5 {h0 h1 h2 h3 : Int} {h4 h5 : Bool} {h6 h7 : Int} {A B : Ad} (hok : Fr.Ok ⟨h0, h1, h2, h3, h4, h5, h6, h7, A, B⟩) (e0 : h0 = 20) (e1 : 20 ≤ h1) (e2 : h1 ≤ 65535) (e3 : 0 ≤ h2) (e4 : h2 ≤ 255) (e5 : ¬ 0 ≤ h6) (w : World) :
    Calls Try.prog 13 #[frC ⟨h0, h1, h2, h3, h4, h5, h6, h7, A, B⟩] w fun e w' => e = .returned (.bool false) ∧ Below w.heap.size w w' := by
  have hA : A.b.length = 16 := hok.s
  have hB : B.b.length = 16 := hok.d
  have hb1 := Blk.new w 28 (frL ⟨h0, h1, h2, h3, h4, h5, h6, h7, A, B⟩)
  have hB1 := (Below.refl w.heap.size w).alloc (Nat.le_refl _) (.cells (frL ⟨h0, h1, h2, h3, h4, h5, h6, h7, A, B⟩).toArray 28)
  have hz1 : (w.alloc (.cells (frL ⟨h0, h1, h2, h3, h4, h5, h6, h7, A, B⟩).toArray 28)).heap.size = w.heap.size + 1 := by simp
  have k0 := hb1.cell (i := 0) (v := .int .i64 h0) rfl
  have k1 := hb1.cell (i := 1) (v := .int .i64 h1) rfl
  have k2 := hb1.cell (i := 2) (v := .int .i64 h2) rfl
  have k3 := hb1.cell (i := 3) (v := .int .i64 h3) rfl
  have k4 := hb1.cell (i := 4) (v := .bool h4) rfl
  have k6 := hb1.cell (i := 6) (v := .int .i64 h6) rfl
  have k7 := hb1.cell (i := 7) (v := .int .i64 h7) rfl
  have kA := Lib.hid hb1.src
  have kB := Lib.hid (hb1.dst hok)
  unfold frC
  generalize frL ⟨h0, h1, h2, h3, h4, h5, h6, h7, A, B⟩ = C at *
  subst e0
  have d1 : decide (20 ≤ h1) = true := decide_eq_true e1
  have d2 : decide (h1 ≤ 65535) = true := decide_eq_true e2
  have d3 : decide (0 ≤ h2) = true := decide_eq_true e3
  have d4 : decide (h2 ≤ 255) = true := decide_eq_true e4
  have d5 : decide (0 ≤ h6) = false := decide_eq_false e5
  clear hb1
  go_enter Try.func13, Try.ntmps13
  go_wp2_with fail
  go_ret
  exact ⟨rfl, hB1⟩

set_option maxRecDepth 100000 in
set_option maxHeartbeats 2000000 in
theorem rright_6 {h0 h1 h2 h3 : Int} {h4 h5 : Bool} {h6 h7 : Int} {A B : Ad} (hok : Fr.Ok ⟨h0, h1, h2, h3, h4, h5, h6, h7, A, B⟩) (e0 : h0 = 20) (e1 : 20 ≤ h1) (e2 : h1 ≤ 65535) (e3 : 0 ≤ h2) (e4 : h2 ≤ 255) (e5 : 0 ≤ h6) (e6 : ¬ h6 ≤ 255) (w : World) :
    Calls Try.prog 13 #[frC ⟨h0, h1, h2, h3, h4, h5, h6, h7, A, B⟩] w fun e w' => e = .returned (.bool false) ∧ Below w.heap.size w w' := by
  have hA : A.b.length = 16 := hok.s
  have hB : B.b.length = 16 := hok.d
  have hb1 := Blk.new w 28 (frL ⟨h0, h1, h2, h3, h4, h5, h6, h7, A, B⟩)
  have hB1 := (Below.refl w.heap.size w).alloc (Nat.le_refl _) (.cells (frL ⟨h0, h1, h2, h3, h4, h5, h6, h7, A, B⟩).toArray 28)
  have hz1 : (w.alloc (.cells (frL ⟨h0, h1, h2, h3, h4, h5, h6, h7, A, B⟩).toArray 28)).heap.size = w.heap.size + 1 := by simp
  have k0 := hb1.cell (i := 0) (v := .int .i64 h0) rfl
  have k1 := hb1.cell (i := 1) (v := .int .i64 h1) rfl
  have k2 := hb1.cell (i := 2) (v := .int .i64 h2) rfl
  have k3 := hb1.cell (i := 3) (v := .int .i64 h3) rfl
  have k4 := hb1.cell (i := 4) (v := .bool h4) rfl
  have k6 := hb1.cell (i := 6) (v := .int .i64 h6) rfl
  have k7 := hb1.cell (i := 7) (v := .int .i64 h7) rfl
  have kA := Lib.hid hb1.src
  have kB := Lib.hid (hb1.dst hok)
  unfold frC
  generalize frL ⟨h0, h1, h2, h3, h4, h5, h6, h7, A, B⟩ = C at *
  subst e0
  have d1 : decide (20 ≤ h1) = true := decide_eq_true e1
  have d2 : decide (h1 ≤ 65535) = true := decide_eq_true e2
  have d3 : decide (0 ≤ h2) = true := decide_eq_true e3
  have d4 : decide (h2 ≤ 255) = true := decide_eq_true e4
  have d5 : decide (0 ≤ h6) = true := decide_eq_true e5
  have d6 : decide (h6 ≤ 255) = false := decide_eq_false e6
  clear hb1
  go_enter Try.func13, Try.ntmps13
  go_wp2_with fail
  go_ret
  exact ⟨rfl, hB1⟩

set_option maxRecDepth 100000 in
set_option maxHeartbeats 2000000 in
theorem rright_7 {h0 h1 h2 h3 : Int} {h4 h5 : Bool} {h6 h7 : Int} {A B : Ad} (hok : Fr.Ok ⟨h0, h1, h2, h3, h4, h5, h6, h7, A, B⟩) (e0 : h0 = 20) (e1 : 20 ≤ h1) (e2 : h1 ≤ 65535) (e3 : 0 ≤ h2) (e4 : h2 ≤ 255) (e5 : 0 ≤ h6) (e6 : h6 ≤ 255) (e7 : ¬ 0 ≤ h7) (w : World) :
    Calls Try.prog 13 #[frC ⟨h0, h1, h2, h3, h4, h5, h6, h7, A, B⟩] w fun e w' => e = .returned (.bool false) ∧ Below w.heap.size w w' := by
  have hA : A.b.length = 16 := hok.s
  have hB : B.b.length = 16 := hok.d
  have hb1 := Blk.new w 28 (frL ⟨h0, h1, h2, h3, h4, h5, h6, h7, A, B⟩)
  have hB1 := (Below.refl w.heap.size w).alloc (Nat.le_refl _) (.cells (frL ⟨h0, h1, h2, h3, h4, h5, h6, h7, A, B⟩).toArray 28)
  have hz1 : (w.alloc (.cells (frL ⟨h0, h1, h2, h3, h4, h5, h6, h7, A, B⟩).toArray 28)).heap.size = w.heap.size + 1 := by simp
  have k0 := hb1.cell (i := 0) (v := .int .i64 h0) rfl
  have k1 := hb1.cell (i := 1) (v := .int .i64 h1) rfl
  have k2 := hb1.cell (i := 2) (v := .int .i64 h2) rfl
  have k3 := hb1.cell (i := 3) (v := .int .i64 h3) rfl
  have k4 := hb1.cell (i := 4) (v := .bool h4) rfl
  have k6 := hb1.cell (i := 6) (v := .int .i64 h6) rfl
  have k7 := hb1.cell (i := 7) (v := .int .i64 h7) rfl
  have kA := Lib.hid hb1.src
  have kB := Lib.hid (hb1.dst hok)
  unfold frC
  generalize frL ⟨h0, h1, h2, h3, h4, h5, h6, h7, A, B⟩ = C at *
  subst e0
  have d1 : decide (20 ≤ h1) = true := decide_eq_true e1
  have d2 : decide (h1 ≤ 65535) = true := decide_eq_true e2
  have d3 : decide (0 ≤ h2) = true := decide_eq_true e3
  have d4 : decide (h2 ≤ 255) = true := decide_eq_true e4
  have d5 : decide (0 ≤ h6) = true := decide_eq_true e5
  have d6 : decide (h6 ≤ 255) = true := decide_eq_true e6
  have d7 : decide (0 ≤ h7) = false := decide_eq_false e7
  clear hb1
  go_enter Try.func13, Try.ntmps13
  go_wp2_with fail
  go_ret
  exact ⟨rfl, hB1⟩

set_option maxRecDepth 100000 in
set_option maxHeartbeats 2000000 in
theorem rright_8 {h0 h1 h2 h3 : Int} {h4 h5 : Bool} {h6 h7 : Int} {A B : Ad} (hok : Fr.Ok ⟨h0, h1, h2, h3, h4, h5, h6, h7, A, B⟩) (e0 : h0 = 20) (e1 : 20 ≤ h1) (e2 : h1 ≤ 65535) (e3 : 0 ≤ h2) (e4 : h2 ≤ 255) (e5 : 0 ≤ h6) (e6 : h6 ≤ 255) (e7 : 0 ≤ h7) (e8 : ¬ h7 ≤ 255) (w : World) :
    Calls Try.prog 13 #[frC ⟨h0, h1, h2, h3, h4, h5, h6, h7, A, B⟩] w fun e w' => e = .returned (.bool false) ∧ Below w.heap.size w w' := by
  have hA : A.b.length = 16 := hok.s
  have hB : B.b.length = 16 := hok.d
  have hb1 := Blk.new w 28 (frL ⟨h0, h1, h2, h3, h4, h5, h6, h7, A, B⟩)
  have hB1 := (Below.refl w.heap.size w).alloc (Nat.le_refl _) (.cells (frL ⟨h0, h1, h2, h3, h4, h5, h6, h7, A, B⟩).toArray 28)
  have hz1 : (w.alloc (.cells (frL ⟨h0, h1, h2, h3, h4, h5, h6, h7, A, B⟩).toArray 28)).heap.size = w.heap.size + 1 := by simp
  have k0 := hb1.cell (i := 0) (v := .int .i64 h0) rfl
  have k1 := hb1.cell (i := 1) (v := .int .i64 h1) rfl
  have k2 := hb1.cell (i := 2) (v := .int .i64 h2) rfl
  have k3 := hb1.cell (i := 3) (v := .int .i64 h3) rfl
  have k4 := hb1.cell (i := 4) (v := .bool h4) rfl
  have k6 := hb1.cell (i := 6) (v := .int .i64 h6) rfl
  have k7 := hb1.cell (i := 7) (v := .int .i64 h7) rfl
  have kA := Lib.hid hb1.src
  have kB := Lib.hid (hb1.dst hok)
  unfold frC
  generalize frL ⟨h0, h1, h2, h3, h4, h5, h6, h7, A, B⟩ = C at *
  subst e0
  have d1 : decide (20 ≤ h1) = true := decide_eq_true e1
  have d2 : decide (h1 ≤ 65535) = true := decide_eq_true e2
  have d3 : decide (0 ≤ h2) = true := decide_eq_true e3
  have d4 : decide (h2 ≤ 255) = true := decide_eq_true e4
  have d5 : decide (0 ≤ h6) = true := decide_eq_true e5
  have d6 : decide (h6 ≤ 255) = true := decide_eq_true e6
  have d7 : decide (0 ≤ h7) = true := decide_eq_true e7
  have d8 : decide (h7 ≤ 255) = false := decide_eq_false e8
  clear hb1
  go_enter Try.func13, Try.ntmps13
  go_wp2_with fail
  go_ret
  exact ⟨rfl, hB1⟩

set_option maxRecDepth 100000 in
set_option maxHeartbeats 2000000 in
theorem rright_9 {h0 h1 h2 h3 : Int} {h4 h5 : Bool} {h6 h7 : Int} {A B : Ad} (hok : Fr.Ok ⟨h0, h1, h2, h3, h4, h5, h6, h7, A, B⟩) (e0 : h0 = 20) (e1 : 20 ≤ h1) (e2 : h1 ≤ 65535) (e3 : 0 ≤ h2) (e4 : h2 ≤ 255) (e5 : 0 ≤ h6) (e6 : h6 ≤ 255) (e7 : 0 ≤ h7) (e8 : h7 ≤ 255) (e9 : ¬ 0 ≤ h3) (w : World) :
    Calls Try.prog 13 #[frC ⟨h0, h1, h2, h3, h4, h5, h6, h7, A, B⟩] w fun e w' => e = .returned (.bool false) ∧ Below w.heap.size w w' := by
  have hA : A.b.length = 16 := hok.s
  have hB : B.b.length = 16 := hok.d
  have hb1 := Blk.new w 28 (frL ⟨h0, h1, h2, h3, h4, h5, h6, h7, A, B⟩)
  have hB1 := (Below.refl w.heap.size w).alloc (Nat.le_refl _) (.cells (frL ⟨h0, h1, h2, h3, h4, h5, h6, h7, A, B⟩).toArray 28)
  have hz1 : (w.alloc (.cells (frL ⟨h0, h1, h2, h3, h4, h5, h6, h7, A, B⟩).toArray 28)).heap.size = w.heap.size + 1 := by simp
  have k0 := hb1.cell (i := 0) (v := .int .i64 h0) rfl
  have k1 := hb1.cell (i := 1) (v := .int .i64 h1) rfl
  have k2 := hb1.cell (i := 2) (v := .int .i64 h2) rfl
  have k3 := hb1.cell (i := 3) (v := .int .i64 h3) rfl
  have k4 := hb1.cell (i := 4) (v := .bool h4) rfl
  have k6 := hb1.cell (i := 6) (v := .int .i64 h6) rfl
  have k7 := hb1.cell (i := 7) (v := .int .i64 h7) rfl
  have kA := Lib.hid hb1.src
  have kB := Lib.hid (hb1.dst hok)
  unfold frC
  generalize frL ⟨h0, h1, h2, h3, h4, h5, h6, h7, A, B⟩ = C at *
  subst e0
  have d1 : decide (20 ≤ h1) = true := decide_eq_true e1
  have d2 : decide (h1 ≤ 65535) = true := decide_eq_true e2
  have d3 : decide (0 ≤ h2) = true := decide_eq_true e3
  have d4 : decide (h2 ≤ 255) = true := decide_eq_true e4
  have d5 : decide (0 ≤ h6) = true := decide_eq_true e5
  have d6 : decide (h6 ≤ 255) = true := decide_eq_true e6
  have d7 : decide (0 ≤ h7) = true := decide_eq_true e7
  have d8 : decide (h7 ≤ 255) = true := decide_eq_true e8
  have d9 : decide (0 ≤ h3) = false := decide_eq_false e9
  clear hb1
  go_enter Try.func13, Try.ntmps13
  go_wp2_with fail
  go_ret
  exact ⟨rfl, hB1⟩

set_option maxRecDepth 100000 in
set_option maxHeartbeats 2000000 in
theorem rright_10 {h0 h1 h2 h3 : Int} {h4 h5 : Bool} {h6 h7 : Int} {A B : Ad} (hok : Fr.Ok ⟨h0, h1, h2, h3, h4, h5, h6, h7, A, B⟩) (e0 : h0 = 20) (e1 : 20 ≤ h1) (e2 : h1 ≤ 65535) (e3 : 0 ≤ h2) (e4 : h2 ≤ 255) (e5 : 0 ≤ h6) (e6 : h6 ≤ 255) (e7 : 0 ≤ h7) (e8 : h7 ≤ 255) (e9 : 0 ≤ h3) (e10 : ¬ h3 ≤ 65535) (w : World) :
    Calls Try.prog 13 #[frC ⟨h0, h1, h2, h3, h4, h5, h6, h7, A, B⟩] w fun e w' => e = .returned (.bool false) ∧ Below w.heap.size w w' := by
  have hA : A.b.length = 16 := hok.s
  have hB : B.b.length = 16 := hok.d
  have hb1 := Blk.new w 28 (frL ⟨h0, h1, h2, h3, h4, h5, h6, h7, A, B⟩)
  have hB1 := (Below.refl w.heap.size w).alloc (Nat.le_refl _) (.cells (frL ⟨h0, h1, h2, h3, h4, h5, h6, h7, A, B⟩).toArray 28)
  have hz1 : (w.alloc (.cells (frL ⟨h0, h1, h2, h3, h4, h5, h6, h7, A, B⟩).toArray 28)).heap.size = w.heap.size + 1 := by simp
  have k0 := hb1.cell (i := 0) (v := .int .i64 h0) rfl
  have k1 := hb1.cell (i := 1) (v := .int .i64 h1) rfl
  have k2 := hb1.cell (i := 2) (v := .int .i64 h2) rfl
  have k3 := hb1.cell (i := 3) (v := .int .i64 h3) rfl
  have k4 := hb1.cell (i := 4) (v := .bool h4) rfl
  have k6 := hb1.cell (i := 6) (v := .int .i64 h6) rfl
  have k7 := hb1.cell (i := 7) (v := .int .i64 h7) rfl
  have kA := Lib.hid hb1.src
  have kB := Lib.hid (hb1.dst hok)
  unfold frC
  generalize frL ⟨h0, h1, h2, h3, h4, h5, h6, h7, A, B⟩ = C at *
  subst e0
  have d1 : decide (20 ≤ h1) = true := decide_eq_true e1
  have d2 : decide (h1 ≤ 65535) = true := decide_eq_true e2
  have d3 : decide (0 ≤ h2) = true := decide_eq_true e3
  have d4 : decide (h2 ≤ 255) = true := decide_eq_true e4
  have d5 : decide (0 ≤ h6) = true := decide_eq_true e5
  have d6 : decide (h6 ≤ 255) = true := decide_eq_true e6
  have d7 : decide (0 ≤ h7) = true := decide_eq_true e7
  have d8 : decide (h7 ≤ 255) = true := decide_eq_true e8
  have d9 : decide (0 ≤ h3) = true := decide_eq_true e9
  have d10 : decide (h3 ≤ 65535) = false := decide_eq_false e10
  clear hb1
  go_enter Try.func13, Try.ntmps13
  go_wp2_with fail
  go_ret
  exact ⟨rfl, hB1⟩

set_option maxRecDepth 100000 in
set_option maxHeartbeats 2000000 in
theorem rright_11 {h0 h1 h2 h3 : Int} {h4 h5 : Bool} {h6 h7 : Int} {A B : Ad} (hok : Fr.Ok ⟨h0, h1, h2, h3, h4, h5, h6, h7, A, B⟩) (e0 : h0 = 20) (e1 : 20 ≤ h1) (e2 : h1 ≤ 65535) (e3 : 0 ≤ h2) (e4 : h2 ≤ 255) (e5 : 0 ≤ h6) (e6 : h6 ≤ 255) (e7 : 0 ≤ h7) (e8 : h7 ≤ 255) (e9 : 0 ≤ h3) (e10 : h3 ≤ 65535) (e11 : h4 = true) (w : World) :
    Calls Try.prog 13 #[frC ⟨h0, h1, h2, h3, h4, h5, h6, h7, A, B⟩] w fun e w' => e = .returned (.bool false) ∧ Below w.heap.size w w' := by
  have hA : A.b.length = 16 := hok.s
  have hB : B.b.length = 16 := hok.d
  have hb1 := Blk.new w 28 (frL ⟨h0, h1, h2, h3, h4, h5, h6, h7, A, B⟩)
  have hB1 := (Below.refl w.heap.size w).alloc (Nat.le_refl _) (.cells (frL ⟨h0, h1, h2, h3, h4, h5, h6, h7, A, B⟩).toArray 28)
  have hz1 : (w.alloc (.cells (frL ⟨h0, h1, h2, h3, h4, h5, h6, h7, A, B⟩).toArray 28)).heap.size = w.heap.size + 1 := by simp
  have k0 := hb1.cell (i := 0) (v := .int .i64 h0) rfl
  have k1 := hb1.cell (i := 1) (v := .int .i64 h1) rfl
  have k2 := hb1.cell (i := 2) (v := .int .i64 h2) rfl
  have k3 := hb1.cell (i := 3) (v := .int .i64 h3) rfl
  have k4 := hb1.cell (i := 4) (v := .bool h4) rfl
  have k6 := hb1.cell (i := 6) (v := .int .i64 h6) rfl
  have k7 := hb1.cell (i := 7) (v := .int .i64 h7) rfl
  have kA := Lib.hid hb1.src
  have kB := Lib.hid (hb1.dst hok)
  unfold frC
  generalize frL ⟨h0, h1, h2, h3, h4, h5, h6, h7, A, B⟩ = C at *
  subst e0
  have d1 : decide (20 ≤ h1) = true := decide_eq_true e1
  have d2 : decide (h1 ≤ 65535) = true := decide_eq_true e2
  have d3 : decide (0 ≤ h2) = true := decide_eq_true e3
  have d4 : decide (h2 ≤ 255) = true := decide_eq_true e4
  have d5 : decide (0 ≤ h6) = true := decide_eq_true e5
  have d6 : decide (h6 ≤ 255) = true := decide_eq_true e6
  have d7 : decide (0 ≤ h7) = true := decide_eq_true e7
  have d8 : decide (h7 ≤ 255) = true := decide_eq_true e8
  have d9 : decide (0 ≤ h3) = true := decide_eq_true e9
  have d10 : decide (h3 ≤ 65535) = true := decide_eq_true e10
  subst e11
  clear hb1
  go_enter Try.func13, Try.ntmps13
  go_wp2_with fail
  go_ret
  exact ⟨rfl, hB1⟩

set_option maxRecDepth 100000 in
set_option maxHeartbeats 2000000 in
theorem rright_12 {h0 h1 h2 h3 : Int} {h4 h5 : Bool} {h6 h7 : Int} {A B : Ad} (hok : Fr.Ok ⟨h0, h1, h2, h3, h4, h5, h6, h7, A, B⟩) (e0 : h0 = 20) (e1 : 20 ≤ h1) (e2 : h1 ≤ 65535) (e3 : 0 ≤ h2) (e4 : h2 ≤ 255) (e5 : 0 ≤ h6) (e6 : h6 ≤ 255) (e7 : 0 ≤ h7) (e8 : h7 ≤ 255) (e9 : 0 ≤ h3) (e10 : h3 ≤ 65535) (e11 : h4 = false) (e12 : shortB A = false) (w : World) :
    Calls Try.prog 13 #[frC ⟨h0, h1, h2, h3, h4, h5, h6, h7, A, B⟩] w fun e w' => e = .returned (.bool false) ∧ Below w.heap.size w w' := by
  have hA : A.b.length = 16 := hok.s
  have hB : B.b.length = 16 := hok.d
  have hb1 := Blk.new w 28 (frL ⟨h0, h1, h2, h3, h4, h5, h6, h7, A, B⟩)
  have hB1 := (Below.refl w.heap.size w).alloc (Nat.le_refl _) (.cells (frL ⟨h0, h1, h2, h3, h4, h5, h6, h7, A, B⟩).toArray 28)
  have hz1 : (w.alloc (.cells (frL ⟨h0, h1, h2, h3, h4, h5, h6, h7, A, B⟩).toArray 28)).heap.size = w.heap.size + 1 := by simp
  have k0 := hb1.cell (i := 0) (v := .int .i64 h0) rfl
  have k1 := hb1.cell (i := 1) (v := .int .i64 h1) rfl
  have k2 := hb1.cell (i := 2) (v := .int .i64 h2) rfl
  have k3 := hb1.cell (i := 3) (v := .int .i64 h3) rfl
  have k4 := hb1.cell (i := 4) (v := .bool h4) rfl
  have k6 := hb1.cell (i := 6) (v := .int .i64 h6) rfl
  have k7 := hb1.cell (i := 7) (v := .int .i64 h7) rfl
  have kA := Lib.hid hb1.src
  have kB := Lib.hid (hb1.dst hok)
  unfold frC
  generalize frL ⟨h0, h1, h2, h3, h4, h5, h6, h7, A, B⟩ = C at *
  subst e0
  have d1 : decide (20 ≤ h1) = true := decide_eq_true e1
  have d2 : decide (h1 ≤ 65535) = true := decide_eq_true e2
  have d3 : decide (0 ≤ h2) = true := decide_eq_true e3
  have d4 : decide (h2 ≤ 255) = true := decide_eq_true e4
  have d5 : decide (0 ≤ h6) = true := decide_eq_true e5
  have d6 : decide (h6 ≤ 255) = true := decide_eq_true e6
  have d7 : decide (0 ≤ h7) = true := decide_eq_true e7
  have d8 : decide (h7 ≤ 255) = true := decide_eq_true e8
  have d9 : decide (0 ≤ h3) = true := decide_eq_true e9
  have d10 : decide (h3 ≤ 65535) = true := decide_eq_true e10
  subst e11
  have H12 := Lib.hid (fun W => e12 ▸ rshort_any hA W)
  clear hb1
  go_enter Try.func13, Try.ntmps13
  go_wp2_with ((with_reducible show wpList _ _ _ _ _ _); refine wpList_loadAw _ rfl (by rfl) w.heap.size 8 (by rfl) A hA kA.out ?_)
  refine (H12.out _).mono ?_
  rintro e w2 ⟨rfl, hb2⟩
  have kB2 := Lib.hid (range_keep kB.out (by rw [hz1]; omega) hb2)
  have hB2 := Lib.hid (hB1.trans (hb2.mono hB1.size))
  clear hb2
  go_wp2_with fail
  go_ret
  exact ⟨rfl, hB2.out⟩

set_option maxRecDepth 100000 in
set_option maxHeartbeats 2000000 in
theorem rright_13 {h0 h1 h2 h3 : Int} {h4 h5 : Bool} {h6 h7 : Int} {A B : Ad} (hok : Fr.Ok ⟨h0, h1, h2, h3, h4, h5, h6, h7, A, B⟩) (e0 : h0 = 20) (e1 : 20 ≤ h1) (e2 : h1 ≤ 65535) (e3 : 0 ≤ h2) (e4 : h2 ≤ 255) (e5 : 0 ≤ h6) (e6 : h6 ≤ 255) (e7 : 0 ≤ h7) (e8 : h7 ≤ 255) (e9 : 0 ≤ h3) (e10 : h3 ≤ 65535) (e11 : h4 = false) (e12 : shortB A = true) (e13 : shortB B = false) (w : World) :
    Calls Try.prog 13 #[frC ⟨h0, h1, h2, h3, h4, h5, h6, h7, A, B⟩] w fun e w' => e = .returned (.bool false) ∧ Below w.heap.size w w' := by
  have hA : A.b.length = 16 := hok.s
  have hB : B.b.length = 16 := hok.d
  have hb1 := Blk.new w 28 (frL ⟨h0, h1, h2, h3, h4, h5, h6, h7, A, B⟩)
  have hB1 := (Below.refl w.heap.size w).alloc (Nat.le_refl _) (.cells (frL ⟨h0, h1, h2, h3, h4, h5, h6, h7, A, B⟩).toArray 28)
  have hz1 : (w.alloc (.cells (frL ⟨h0, h1, h2, h3, h4, h5, h6, h7, A, B⟩).toArray 28)).heap.size = w.heap.size + 1 := by simp
  have k0 := hb1.cell (i := 0) (v := .int .i64 h0) rfl
  have k1 := hb1.cell (i := 1) (v := .int .i64 h1) rfl
  have k2 := hb1.cell (i := 2) (v := .int .i64 h2) rfl
  have k3 := hb1.cell (i := 3) (v := .int .i64 h3) rfl
  have k4 := hb1.cell (i := 4) (v := .bool h4) rfl
  have k6 := hb1.cell (i := 6) (v := .int .i64 h6) rfl
  have k7 := hb1.cell (i := 7) (v := .int .i64 h7) rfl
  have kA := Lib.hid hb1.src
  have kB := Lib.hid (hb1.dst hok)
  unfold frC
  generalize frL ⟨h0, h1, h2, h3, h4, h5, h6, h7, A, B⟩ = C at *
  subst e0
  have d1 : decide (20 ≤ h1) = true := decide_eq_true e1
  have d2 : decide (h1 ≤ 65535) = true := decide_eq_true e2
  have d3 : decide (0 ≤ h2) = true := decide_eq_true e3
  have d4 : decide (h2 ≤ 255) = true := decide_eq_true e4
  have d5 : decide (0 ≤ h6) = true := decide_eq_true e5
  have d6 : decide (h6 ≤ 255) = true := decide_eq_true e6
  have d7 : decide (0 ≤ h7) = true := decide_eq_true e7
  have d8 : decide (h7 ≤ 255) = true := decide_eq_true e8
  have d9 : decide (0 ≤ h3) = true := decide_eq_true e9
  have d10 : decide (h3 ≤ 65535) = true := decide_eq_true e10
  subst e11
  have H12 := Lib.hid (fun W => e12 ▸ rshort_any hA W)
  have H13 := Lib.hid (fun W => e13 ▸ rshort_any hB W)
  clear hb1
  go_enter Try.func13, Try.ntmps13
  go_wp2_with ((with_reducible show wpList _ _ _ _ _ _); refine wpList_loadAw _ rfl (by rfl) w.heap.size 8 (by rfl) A hA kA.out ?_)
  refine (H12.out _).mono ?_
  rintro e w2 ⟨rfl, hb2⟩
  have kB2 := Lib.hid (range_keep kB.out (by rw [hz1]; omega) hb2)
  have hB2 := Lib.hid (hB1.trans (hb2.mono hB1.size))
  clear hb2
  go_wp2_with ((with_reducible show wpList _ _ _ _ _ _); refine wpList_loadAw _ rfl (by rfl) w.heap.size 25 (by rfl) B hB kB2.out ?_)
  refine (H13.out _).mono ?_
  rintro e w3 ⟨rfl, hb3⟩
  have hB3 := hB2.out.trans (hb3.mono hB2.out.size)
  go_wp2_with fail
  go_ret
  exact ⟨rfl, hB3⟩

set_option maxRecDepth 100000 in
set_option maxHeartbeats 2000000 in
theorem rright_14 {h0 h1 h2 h3 : Int} {h4 h5 : Bool} {h6 h7 : Int} {A B : Ad} (hok : Fr.Ok ⟨h0, h1, h2, h3, h4, h5, h6, h7, A, B⟩) (e0 : h0 = 20) (e1 : 20 ≤ h1) (e2 : h1 ≤ 65535) (e3 : 0 ≤ h2) (e4 : h2 ≤ 255) (e5 : 0 ≤ h6) (e6 : h6 ≤ 255) (e7 : 0 ≤ h7) (e8 : h7 ≤ 255) (e9 : 0 ≤ h3) (e10 : h3 ≤ 65535) (e11 : h4 = false) (e12 : shortB A = true) (e13 : shortB B = true) (w : World) :
    Calls Try.prog 13 #[frC ⟨h0, h1, h2, h3, h4, h5, h6, h7, A, B⟩] w fun e w' => e = .returned (.bool true) ∧ Below w.heap.size w w' := by
  have hA : A.b.length = 16 := hok.s
  have hB : B.b.length = 16 := hok.d
  have hb1 := Blk.new w 28 (frL ⟨h0, h1, h2, h3, h4, h5, h6, h7, A, B⟩)
  have hB1 := (Below.refl w.heap.size w).alloc (Nat.le_refl _) (.cells (frL ⟨h0, h1, h2, h3, h4, h5, h6, h7, A, B⟩).toArray 28)
  have hz1 : (w.alloc (.cells (frL ⟨h0, h1, h2, h3, h4, h5, h6, h7, A, B⟩).toArray 28)).heap.size = w.heap.size + 1 := by simp
  have k0 := hb1.cell (i := 0) (v := .int .i64 h0) rfl
  have k1 := hb1.cell (i := 1) (v := .int .i64 h1) rfl
  have k2 := hb1.cell (i := 2) (v := .int .i64 h2) rfl
  have k3 := hb1.cell (i := 3) (v := .int .i64 h3) rfl
  have k4 := hb1.cell (i := 4) (v := .bool h4) rfl
  have k6 := hb1.cell (i := 6) (v := .int .i64 h6) rfl
  have k7 := hb1.cell (i := 7) (v := .int .i64 h7) rfl
  have kA := Lib.hid hb1.src
  have kB := Lib.hid (hb1.dst hok)
  unfold frC
  generalize frL ⟨h0, h1, h2, h3, h4, h5, h6, h7, A, B⟩ = C at *
  subst e0
  have d1 : decide (20 ≤ h1) = true := decide_eq_true e1
  have d2 : decide (h1 ≤ 65535) = true := decide_eq_true e2
  have d3 : decide (0 ≤ h2) = true := decide_eq_true e3
  have d4 : decide (h2 ≤ 255) = true := decide_eq_true e4
  have d5 : decide (0 ≤ h6) = true := decide_eq_true e5
  have d6 : decide (h6 ≤ 255) = true := decide_eq_true e6
  have d7 : decide (0 ≤ h7) = true := decide_eq_true e7
  have d8 : decide (h7 ≤ 255) = true := decide_eq_true e8
  have d9 : decide (0 ≤ h3) = true := decide_eq_true e9
  have d10 : decide (h3 ≤ 65535) = true := decide_eq_true e10
  subst e11
  have H12 := Lib.hid (fun W => e12 ▸ rshort_any hA W)
  have H13 := Lib.hid (fun W => e13 ▸ rshort_any hB W)
  clear hb1
  go_enter Try.func13, Try.ntmps13
  go_wp2_with ((with_reducible show wpList _ _ _ _ _ _); refine wpList_loadAw _ rfl (by rfl) w.heap.size 8 (by rfl) A hA kA.out ?_)
  refine (H12.out _).mono ?_
  rintro e w2 ⟨rfl, hb2⟩
  have kB2 := Lib.hid (range_keep kB.out (by rw [hz1]; omega) hb2)
  have hB2 := Lib.hid (hB1.trans (hb2.mono hB1.size))
  clear hb2
  go_wp2_with ((with_reducible show wpList _ _ _ _ _ _); refine wpList_loadAw _ rfl (by rfl) w.heap.size 25 (by rfl) B hB kB2.out ?_)
  refine (H13.out _).mono ?_
  rintro e w3 ⟨rfl, hb3⟩
  have hB3 := hB2.out.trans (hb3.mono hB2.out.size)
  go_wp2_with fail
  go_ret
  exact ⟨rfl, hB3⟩

theorem rright_any {f : Fr} (hok : f.Ok) (w : World) : Calls Try.prog 13 #[frC f] w fun e w' => e = .returned (.bool (rightB f)) ∧ Below w.heap.size w w' := by
  obtain ⟨h0, h1, h2, h3, h4, h5, h6, h7, A, B⟩ := f
  by_cases e0 : h0 = 20
  rotate_left
  · have hr : rightB ⟨h0, h1, h2, h3, h4, h5, h6, h7, A, B⟩ = false := Bool.eq_false_iff.2 fun h => by have g := right_good h; have g1 := g.head; have g2 := g.t0; have g3 := g.t1; have g4 := g.o0; have g5 := g.o1; have g6 := g.l0; have g7 := g.l1; have g8 := g.p0; have g9 := g.p1; have ga := g.i0; have gb := g.i1; exact e0 (by assumption)
    rw [hr]; exact rright_0 hok e0 w
  by_cases e1 : 20 ≤ h1
  rotate_left
  · have hr : rightB ⟨h0, h1, h2, h3, h4, h5, h6, h7, A, B⟩ = false := Bool.eq_false_iff.2 fun h => by have g := right_good h; have g1 := g.head; have g2 := g.t0; have g3 := g.t1; have g4 := g.o0; have g5 := g.o1; have g6 := g.l0; have g7 := g.l1; have g8 := g.p0; have g9 := g.p1; have ga := g.i0; have gb := g.i1; exact e1 (by assumption)
    rw [hr]; exact rright_1 hok e0 e1 w
  by_cases e2 : h1 ≤ 65535
  rotate_left
  · have hr : rightB ⟨h0, h1, h2, h3, h4, h5, h6, h7, A, B⟩ = false := Bool.eq_false_iff.2 fun h => by have g := right_good h; have g1 := g.head; have g2 := g.t0; have g3 := g.t1; have g4 := g.o0; have g5 := g.o1; have g6 := g.l0; have g7 := g.l1; have g8 := g.p0; have g9 := g.p1; have ga := g.i0; have gb := g.i1; exact e2 (by assumption)
    rw [hr]; exact rright_2 hok e0 e1 e2 w
  by_cases e3 : 0 ≤ h2
  rotate_left
  · have hr : rightB ⟨h0, h1, h2, h3, h4, h5, h6, h7, A, B⟩ = false := Bool.eq_false_iff.2 fun h => by have g := right_good h; have g1 := g.head; have g2 := g.t0; have g3 := g.t1; have g4 := g.o0; have g5 := g.o1; have g6 := g.l0; have g7 := g.l1; have g8 := g.p0; have g9 := g.p1; have ga := g.i0; have gb := g.i1; exact e3 (by assumption)
    rw [hr]; exact rright_3 hok e0 e1 e2 e3 w
  by_cases e4 : h2 ≤ 255
  rotate_left
  · have hr : rightB ⟨h0, h1, h2, h3, h4, h5, h6, h7, A, B⟩ = false := Bool.eq_false_iff.2 fun h => by have g := right_good h; have g1 := g.head; have g2 := g.t0; have g3 := g.t1; have g4 := g.o0; have g5 := g.o1; have g6 := g.l0; have g7 := g.l1; have g8 := g.p0; have g9 := g.p1; have ga := g.i0; have gb := g.i1; exact e4 (by assumption)
    rw [hr]; exact rright_4 hok e0 e1 e2 e3 e4 w
  by_cases e5 : 0 ≤ h6
  rotate_left
  · have hr : rightB ⟨h0, h1, h2, h3, h4, h5, h6, h7, A, B⟩ = false := Bool.eq_false_iff.2 fun h => by have g := right_good h; have g1 := g.head; have g2 := g.t0; have g3 := g.t1; have g4 := g.o0; have g5 := g.o1; have g6 := g.l0; have g7 := g.l1; have g8 := g.p0; have g9 := g.p1; have ga := g.i0; have gb := g.i1; exact e5 (by assumption)
    rw [hr]; exact rright_5 hok e0 e1 e2 e3 e4 e5 w
  by_cases e6 : h6 ≤ 255
  rotate_left
  · have hr : rightB ⟨h0, h1, h2, h3, h4, h5, h6, h7, A, B⟩ = false := Bool.eq_false_iff.2 fun h => by have g := right_good h; have g1 := g.head; have g2 := g.t0; have g3 := g.t1; have g4 := g.o0; have g5 := g.o1; have g6 := g.l0; have g7 := g.l1; have g8 := g.p0; have g9 := g.p1; have ga := g.i0; have gb := g.i1; exact e6 (by assumption)
    rw [hr]; exact rright_6 hok e0 e1 e2 e3 e4 e5 e6 w
  by_cases e7 : 0 ≤ h7
  rotate_left
  · have hr : rightB ⟨h0, h1, h2, h3, h4, h5, h6, h7, A, B⟩ = false := Bool.eq_false_iff.2 fun h => by have g := right_good h; have g1 := g.head; have g2 := g.t0; have g3 := g.t1; have g4 := g.o0; have g5 := g.o1; have g6 := g.l0; have g7 := g.l1; have g8 := g.p0; have g9 := g.p1; have ga := g.i0; have gb := g.i1; exact e7 (by assumption)
    rw [hr]; exact rright_7 hok e0 e1 e2 e3 e4 e5 e6 e7 w
  by_cases e8 : h7 ≤ 255
  rotate_left
  · have hr : rightB ⟨h0, h1, h2, h3, h4, h5, h6, h7, A, B⟩ = false := Bool.eq_false_iff.2 fun h => by have g := right_good h; have g1 := g.head; have g2 := g.t0; have g3 := g.t1; have g4 := g.o0; have g5 := g.o1; have g6 := g.l0; have g7 := g.l1; have g8 := g.p0; have g9 := g.p1; have ga := g.i0; have gb := g.i1; exact e8 (by assumption)
    rw [hr]; exact rright_8 hok e0 e1 e2 e3 e4 e5 e6 e7 e8 w
  by_cases e9 : 0 ≤ h3
  rotate_left
  · have hr : rightB ⟨h0, h1, h2, h3, h4, h5, h6, h7, A, B⟩ = false := Bool.eq_false_iff.2 fun h => by have g := right_good h; have g1 := g.head; have g2 := g.t0; have g3 := g.t1; have g4 := g.o0; have g5 := g.o1; have g6 := g.l0; have g7 := g.l1; have g8 := g.p0; have g9 := g.p1; have ga := g.i0; have gb := g.i1; exact e9 (by assumption)
    rw [hr]; exact rright_9 hok e0 e1 e2 e3 e4 e5 e6 e7 e8 e9 w
  by_cases e10 : h3 ≤ 65535
  rotate_left
  · have hr : rightB ⟨h0, h1, h2, h3, h4, h5, h6, h7, A, B⟩ = false := Bool.eq_false_iff.2 fun h => by have g := right_good h; have g1 := g.head; have g2 := g.t0; have g3 := g.t1; have g4 := g.o0; have g5 := g.o1; have g6 := g.l0; have g7 := g.l1; have g8 := g.p0; have g9 := g.p1; have ga := g.i0; have gb := g.i1; exact e10 (by assumption)
    rw [hr]; exact rright_10 hok e0 e1 e2 e3 e4 e5 e6 e7 e8 e9 e10 w
  cases e11 : h4
  rotate_left
  · subst e11
    rw [show rightB ⟨h0, h1, h2, h3, true, h5, h6, h7, A, B⟩ = false by simp [rightB]]; exact rright_11 hok e0 e1 e2 e3 e4 e5 e6 e7 e8 e9 e10 rfl w
  subst e11
  cases e12 : shortB A
  · rw [show rightB ⟨h0, h1, h2, h3, false, h5, h6, h7, A, B⟩ = false by simp [rightB, e12]]; exact rright_12 hok e0 e1 e2 e3 e4 e5 e6 e7 e8 e9 e10 rfl e12 w
  cases e13 : shortB B
  · rw [show rightB ⟨h0, h1, h2, h3, false, h5, h6, h7, A, B⟩ = false by simp [rightB, e13]]; exact rright_13 hok e0 e1 e2 e3 e4 e5 e6 e7 e8 e9 e10 rfl e12 e13 w
  rw [show rightB ⟨h0, h1, h2, h3, false, h5, h6, h7, A, B⟩ = true by simp [rightB, inB, e0, e1, e2, e3, e4, e5, e6, e7, e8, e9, e10, e12, e13]]; exact rright_14 hok e0 e1 e2 e3 e4 e5 e6 e7 e8 e9 e10 rfl e12 e13 w
end Go.Proofs.Ytkdliadigalgaaa
