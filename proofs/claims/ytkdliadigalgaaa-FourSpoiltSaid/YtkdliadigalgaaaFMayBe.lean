/-
  The contract of four.mayBe.
-/
import Derived.Test.YtkdliadigalgaaaFAddr
namespace Go.Proofs.Ytkdliadigalgaaa
open Go.RowKit Go.Lib

set_option maxRecDepth 100000 in
set_option maxHeartbeats 2000000 in
theorem maybe_0 {h0 h1 h2 h3 : Int} {h4 h5 : Bool} {h6 h7 : Int} {A B : Ad} (hok : Fr.Ok ⟨h0, h1, h2, h3, h4, h5, h6, h7, A, B⟩) (e0 : h0 ≠ 20) (w : World) :
    Calls Try.prog 23 #[frC ⟨h0, h1, h2, h3, h4, h5, h6, h7, A, B⟩] w fun e w' => e = .returned (.bool false) ∧ Below w.heap.size w w' := by
  have hA : A.b.length = 16 := hok.s
  have hB : B.b.length = 16 := hok.d
  have hb1 := Blk.new w 28 (frL ⟨h0, h1, h2, h3, h4, h5, h6, h7, A, B⟩)
  have hB1 := (Below.refl w.heap.size w).alloc (Nat.le_refl _) (.cells (frL ⟨h0, h1, h2, h3, h4, h5, h6, h7, A, B⟩).toArray 28)
  have hz1 : (w.alloc (.cells (frL ⟨h0, h1, h2, h3, h4, h5, h6, h7, A, B⟩).toArray 28)).heap.size = w.heap.size + 1 := by simp
  have k0 := hb1.cell (i := 0) (v := .int .i64 h0) rfl
  have k1 := hb1.cell (i := 1) (v := .int .i64 h1) rfl
  have k2 := hb1.cell (i := 2) (v := .int .i64 h2) rfl
  have k3 := hb1.cell (i := 3) (v := .int .i64 h3) rfl
  have k4 := hb1.cell (i := 4) (v := .bool h4) rfl
  have k6 := hb1.cell (i := 6) (v := .int .i64 h6) rfl
  have k7 := hb1.cell (i := 7) (v := .int .i64 h7) rfl
  have kA := Lib.hid hb1.src
  have kB := Lib.hid (hb1.dst hok)
  unfold frC
  generalize frL ⟨h0, h1, h2, h3, h4, h5, h6, h7, A, B⟩ = C at *
  have q0 : (h0 == 20) = false := beq_eq_false_iff_ne.2 e0
  clear hb1
  go_enter Try.func23, Try.ntmps23
  go_wp2_with fail
  go_ret
  exact ⟨rfl, hB1⟩

set_option maxRecDepth 100000 in
set_option maxHeartbeats 2000000 in
theorem maybe_1 {h0 h1 h2 h3 : Int} {h4 h5 : Bool} {h6 h7 : Int} {A B : Ad} (hok : Fr.Ok ⟨h0, h1, h2, h3, h4, h5, h6, h7, A, B⟩) (e0 : h0 = 20) (e1 : inB h1 20 65535 = false) (w : World) :
    Calls Try.prog 23 #[frC ⟨h0, h1, h2, h3, h4, h5, h6, h7, A, B⟩] w fun e w' => e = .returned (.bool false) ∧ Below w.heap.size w w' := by
  have hA : A.b.length = 16 := hok.s
  have hB : B.b.length = 16 := hok.d
  have hb1 := Blk.new w 28 (frL ⟨h0, h1, h2, h3, h4, h5, h6, h7, A, B⟩)
  have hB1 := (Below.refl w.heap.size w).alloc (Nat.le_refl _) (.cells (frL ⟨h0, h1, h2, h3, h4, h5, h6, h7, A, B⟩).toArray 28)
  have hz1 : (w.alloc (.cells (frL ⟨h0, h1, h2, h3, h4, h5, h6, h7, A, B⟩).toArray 28)).heap.size = w.heap.size + 1 := by simp
  have k0 := hb1.cell (i := 0) (v := .int .i64 h0) rfl
  have k1 := hb1.cell (i := 1) (v := .int .i64 h1) rfl
  have k2 := hb1.cell (i := 2) (v := .int .i64 h2) rfl
  have k3 := hb1.cell (i := 3) (v := .int .i64 h3) rfl
  have k4 := hb1.cell (i := 4) (v := .bool h4) rfl
  have k6 := hb1.cell (i := 6) (v := .int .i64 h6) rfl
  have k7 := hb1.cell (i := 7) (v := .int .i64 h7) rfl
  have kA := Lib.hid hb1.src
  have kB := Lib.hid (hb1.dst hok)
  unfold frC
  generalize frL ⟨h0, h1, h2, h3, h4, h5, h6, h7, A, B⟩ = C at *
  subst e0
  have H1 := Lib.hid (fun W => e1 ▸ within_any h1 20 65535 W)
  clear hb1
  go_enter Try.func23, Try.ntmps23
  go_wp2_with fail
  refine (H1.out _).mono ?_
  rintro e w2 ⟨rfl, rfl⟩
  go_wp2_with fail
  go_ret
  exact ⟨rfl, hB1⟩

set_option maxRecDepth 100000 in
set_option maxHeartbeats 2000000 in
theorem maybe_2 {h0 h1 h2 h3 : Int} {h4 h5 : Bool} {h6 h7 : Int} {A B : Ad} (hok : Fr.Ok ⟨h0, h1, h2, h3, h4, h5, h6, h7, A, B⟩) (e0 : h0 = 20) (e1 : inB h1 20 65535 = true) (e2 : h4 = true) (w : World) :
    Calls Try.prog 23 #[frC ⟨h0, h1, h2, h3, h4, h5, h6, h7, A, B⟩] w fun e w' => e = .returned (.bool false) ∧ Below w.heap.size w w' := by
  have hA : A.b.length = 16 := hok.s
  have hB : B.b.length = 16 := hok.d
  have hb1 := Blk.new w 28 (frL ⟨h0, h1, h2, h3, h4, h5, h6, h7, A, B⟩)
  have hB1 := (Below.refl w.heap.size w).alloc (Nat.le_refl _) (.cells (frL ⟨h0, h1, h2, h3, h4, h5, h6, h7, A, B⟩).toArray 28)
  have hz1 : (w.alloc (.cells (frL ⟨h0, h1, h2, h3, h4, h5, h6, h7, A, B⟩).toArray 28)).heap.size = w.heap.size + 1 := by simp
  have k0 := hb1.cell (i := 0) (v := .int .i64 h0) rfl
  have k1 := hb1.cell (i := 1) (v := .int .i64 h1) rfl
  have k2 := hb1.cell (i := 2) (v := .int .i64 h2) rfl
  have k3 := hb1.cell (i := 3) (v := .int .i64 h3) rfl
  have k4 := hb1.cell (i := 4) (v := .bool h4) rfl
  have k6 := hb1.cell (i := 6) (v := .int .i64 h6) rfl
  have k7 := hb1.cell (i := 7) (v := .int .i64 h7) rfl
  have kA := Lib.hid hb1.src
  have kB := Lib.hid (hb1.dst hok)
  unfold frC
  generalize frL ⟨h0, h1, h2, h3, h4, h5, h6, h7, A, B⟩ = C at *
  subst e0
  have H1 := Lib.hid (fun W => e1 ▸ within_any h1 20 65535 W)
  subst e2
  clear hb1
  go_enter Try.func23, Try.ntmps23
  go_wp2_with fail
  refine (H1.out _).mono ?_
  rintro e w2 ⟨rfl, rfl⟩
  go_wp2_with fail
  go_ret
  exact ⟨rfl, hB1⟩

set_option maxRecDepth 100000 in
set_option maxHeartbeats 2000000 in
theorem maybe_3 {h0 h1 h2 h3 : Int} {h4 h5 : Bool} {h6 h7 : Int} {A B : Ad} (hok : Fr.Ok ⟨h0, h1, h2, h3, h4, h5, h6, h7, A, B⟩) (e0 : h0 = 20) (e1 : inB h1 20 65535 = true) (e2 : h4 = false) (e3 : inB h2 0 255 = false) (w : World) :
    Calls Try.prog 23 #[frC ⟨h0, h1, h2, h3, h4, h5, h6, h7, A, B⟩] w fun e w' => e = .returned (.bool false) ∧ Below w.heap.size w w' := by
  have hA : A.b.length = 16 := hok.s
  have hB : B.b.length = 16 := hok.d
  have hb1 := Blk.new w 28 (frL ⟨h0, h1, h2, h3, h4, h5, h6, h7, A, B⟩)
  have hB1 := (Below.refl w.heap.size w).alloc (Nat.le_refl _) (.cells (frL ⟨h0, h1, h2, h3, h4, h5, h6, h7, A, B⟩).toArray 28)
  have hz1 : (w.alloc (.cells (frL ⟨h0, h1, h2, h3, h4, h5, h6, h7, A, B⟩).toArray 28)).heap.size = w.heap.size + 1 := by simp
  have k0 := hb1.cell (i := 0) (v := .int .i64 h0) rfl
  have k1 := hb1.cell (i := 1) (v := .int .i64 h1) rfl
  have k2 := hb1.cell (i := 2) (v := .int .i64 h2) rfl
  have k3 := hb1.cell (i := 3) (v := .int .i64 h3) rfl
  have k4 := hb1.cell (i := 4) (v := .bool h4) rfl
  have k6 := hb1.cell (i := 6) (v := .int .i64 h6) rfl
  have k7 := hb1.cell (i := 7) (v := .int .i64 h7) rfl
  have kA := Lib.hid hb1.src
  have kB := Lib.hid (hb1.dst hok)
  unfold frC
  generalize frL ⟨h0, h1, h2, h3, h4, h5, h6, h7, A, B⟩ = C at *
  subst e0
  have H1 := Lib.hid (fun W => e1 ▸ within_any h1 20 65535 W)
  subst e2
  have H3 := Lib.hid (fun W => e3 ▸ within_any h2 0 255 W)
  clear hb1
  go_enter Try.func23, Try.ntmps23
  go_wp2_with fail
  refine (H1.out _).mono ?_
  rintro e w2 ⟨rfl, rfl⟩
  go_wp2_with fail
  refine (H3.out _).mono ?_
  rintro e w2 ⟨rfl, rfl⟩
  go_wp2_with fail
  go_ret
  exact ⟨rfl, hB1⟩

set_option maxRecDepth 100000 in
set_option maxHeartbeats 2000000 in
theorem maybe_4 {h0 h1 h2 h3 : Int} {h4 h5 : Bool} {h6 h7 : Int} {A B : Ad} (hok : Fr.Ok ⟨h0, h1, h2, h3, h4, h5, h6, h7, A, B⟩) (e0 : h0 = 20) (e1 : inB h1 20 65535 = true) (e2 : h4 = false) (e3 : inB h2 0 255 = true) (e4 : inB h6 0 255 = false) (w : World) :
    Calls Try.prog 23 #[frC ⟨h0, h1, h2, h3, h4, h5, h6, h7, A, B⟩] w fun e w' => e = .returned (.bool false) ∧ Below w.heap.size w w' := by
  have hA : A.b.length = 16 := hok.s
  have hB : B.b.length = 16 := hok.d
  have hb1 := Blk.new w 28 (frL ⟨h0, h1, h2, h3, h4, h5, h6, h7, A, B⟩)
  have hB1 := (Below.refl w.heap.size w).alloc (Nat.le_refl _) (.cells (frL ⟨h0, h1, h2, h3, h4, h5, h6, h7, A, B⟩).toArray 28)
  have hz1 : (w.alloc (.cells (frL ⟨h0, h1, h2, h3, h4, h5, h6, h7, A, B⟩).toArray 28)).heap.size = w.heap.size + 1 := by simp
  have k0 := hb1.cell (i := 0) (v := .int .i64 h0) rfl
  have k1 := hb1.cell (i := 1) (v := .int .i64 h1) rfl
  have k2 := hb1.cell (i := 2) (v := .int .i64 h2) rfl
  have k3 := hb1.cell (i := 3) (v := .int .i64 h3) rfl
  have k4 := hb1.cell (i := 4) (v := .bool h4) rfl
  have k6 := hb1.cell (i := 6) (v := .int .i64 h6) rfl
  have k7 := hb1.cell (i := 7) (v := .int .i64 h7) rfl
  have kA := Lib.hid hb1.src
  have kB := Lib.hid (hb1.dst hok)
  unfold frC
  generalize frL ⟨h0, h1, h2, h3, h4, h5, h6, h7, A, B⟩ = C at *
  subst e0
  have H1 := Lib.hid (fun W => e1 ▸ within_any h1 20 65535 W)
  subst e2
  have H3 := Lib.hid (fun W => e3 ▸ within_any h2 0 255 W)
  have H4 := Lib.hid (fun W => e4 ▸ within_any h6 0 255 W)
  clear hb1
  go_enter Try.func23, Try.ntmps23
  go_wp2_with fail
  refine (H1.out _).mono ?_
  rintro e w2 ⟨rfl, rfl⟩
  go_wp2_with fail
  refine (H3.out _).mono ?_
  rintro e w2 ⟨rfl, rfl⟩
  go_wp2_with fail
  refine (H4.out _).mono ?_
  rintro e w2 ⟨rfl, rfl⟩
  go_wp2_with fail
  go_ret
  exact ⟨rfl, hB1⟩

set_option maxRecDepth 100000 in
set_option maxHeartbeats 2000000 in
theorem maybe_5 {h0 h1 h2 h3 : Int} {h4 h5 : Bool} {h6 h7 : Int} {A B : Ad} (hok : Fr.Ok ⟨h0, h1, h2, h3, h4, h5, h6, h7, A, B⟩) (e0 : h0 = 20) (e1 : inB h1 20 65535 = true) (e2 : h4 = false) (e3 : inB h2 0 255 = true) (e4 : inB h6 0 255 = true) (e5 : inB h7 0 255 = false) (w : World) :
    Calls Try.prog 23 #[frC ⟨h0, h1, h2, h3, h4, h5, h6, h7, A, B⟩] w fun e w' => e = .returned (.bool false) ∧ Below w.heap.size w w' := by
  have hA : A.b.length = 16 := hok.s
  have hB : B.b.length = 16 := hok.d
  have hb1 := Blk.new w 28 (frL ⟨h0, h1, h2, h3, h4, h5, h6, h7, A, B⟩)
  have hB1 := (Below.refl w.heap.size w).alloc (Nat.le_refl _) (.cells (frL ⟨h0, h1, h2, h3, h4, h5, h6, h7, A, B⟩).toArray 28)
  have hz1 : (w.alloc (.cells (frL ⟨h0, h1, h2, h3, h4, h5, h6, h7, A, B⟩).toArray 28)).heap.size = w.heap.size + 1 := by simp
  have k0 := hb1.cell (i := 0) (v := .int .i64 h0) rfl
  have k1 := hb1.cell (i := 1) (v := .int .i64 h1) rfl
  have k2 := hb1.cell (i := 2) (v := .int .i64 h2) rfl
  have k3 := hb1.cell (i := 3) (v := .int .i64 h3) rfl
  have k4 := hb1.cell (i := 4) (v := .bool h4) rfl
  have k6 := hb1.cell (i := 6) (v := .int .i64 h6) rfl
  have k7 := hb1.cell (i := 7) (v := .int .i64 h7) rfl
  have kA := Lib.hid hb1.src
  have kB := Lib.hid (hb1.dst hok)
  unfold frC
  generalize frL ⟨h0, h1, h2, h3, h4, h5, h6, h7, A, B⟩ = C at *
  subst e0
  have H1 := Lib.hid (fun W => e1 ▸ within_any h1 20 65535 W)
  subst e2
  have H3 := Lib.hid (fun W => e3 ▸ within_any h2 0 255 W)
  have H4 := Lib.hid (fun W => e4 ▸ within_any h6 0 255 W)
  have H5 := Lib.hid (fun W => e5 ▸ within_any h7 0 255 W)
  clear hb1
  go_enter Try.func23, Try.ntmps23
  go_wp2_with fail
  refine (H1.out _).mono ?_
  rintro e w2 ⟨rfl, rfl⟩
  go_wp2_with fail
  refine (H3.out _).mono ?_
  rintro e w2 ⟨rfl, rfl⟩
  go_wp2_with fail
  refine (H4.out _).mono ?_
  rintro e w2 ⟨rfl, rfl⟩
  go_wp2_with fail
  refine (H5.out _).mono ?_
  rintro e w2 ⟨rfl, rfl⟩
  go_wp2_with fail
  go_ret
  exact ⟨rfl, hB1⟩

set_option maxRecDepth 100000 in
set_option maxHeartbeats 2000000 in
theorem maybe_6 {h0 h1 h2 h3 : Int} {h4 h5 : Bool} {h6 h7 : Int} {A B : Ad} (hok : Fr.Ok ⟨h0, h1, h2, h3, h4, h5, h6, h7, A, B⟩) (e0 : h0 = 20) (e1 : inB h1 20 65535 = true) (e2 : h4 = false) (e3 : inB h2 0 255 = true) (e4 : inB h6 0 255 = true) (e5 : inB h7 0 255 = true) (e6 : inB h3 0 65535 = false) (w : World) :
    Calls Try.prog 23 #[frC ⟨h0, h1, h2, h3, h4, h5, h6, h7, A, B⟩] w fun e w' => e = .returned (.bool false) ∧ Below w.heap.size w w' := by
  have hA : A.b.length = 16 := hok.s
  have hB : B.b.length = 16 := hok.d
  have hb1 := Blk.new w 28 (frL ⟨h0, h1, h2, h3, h4, h5, h6, h7, A, B⟩)
  have hB1 := (Below.refl w.heap.size w).alloc (Nat.le_refl _) (.cells (frL ⟨h0, h1, h2, h3, h4, h5, h6, h7, A, B⟩).toArray 28)
  have hz1 : (w.alloc (.cells (frL ⟨h0, h1, h2, h3, h4, h5, h6, h7, A, B⟩).toArray 28)).heap.size = w.heap.size + 1 := by simp
  have k0 := hb1.cell (i := 0) (v := .int .i64 h0) rfl
  have k1 := hb1.cell (i := 1) (v := .int .i64 h1) rfl
  have k2 := hb1.cell (i := 2) (v := .int .i64 h2) rfl
  have k3 := hb1.cell (i := 3) (v := .int .i64 h3) rfl
  have k4 := hb1.cell (i := 4) (v := .bool h4) rfl
  have k6 := hb1.cell (i := 6) (v := .int .i64 h6) rfl
  have k7 := hb1.cell (i := 7) (v := .int .i64 h7) rfl
  have kA := Lib.hid hb1.src
  have kB := Lib.hid (hb1.dst hok)
  unfold frC
  generalize frL ⟨h0, h1, h2, h3, h4, h5, h6, h7, A, B⟩ = C at *
  subst e0
  have H1 := Lib.hid (fun W => e1 ▸ within_any h1 20 65535 W)
  subst e2
  have H3 := Lib.hid (fun W => e3 ▸ within_any h2 0 255 W)
  have H4 := Lib.hid (fun W => e4 ▸ within_any h6 0 255 W)
  have H5 := Lib.hid (fun W => e5 ▸ within_any h7 0 255 W)
  have H6 := Lib.hid (fun W => e6 ▸ within_any h3 0 65535 W)
  clear hb1
  go_enter Try.func23, Try.ntmps23
  go_wp2_with fail
  refine (H1.out _).mono ?_
  rintro e w2 ⟨rfl, rfl⟩
  go_wp2_with fail
  refine (H3.out _).mono ?_
  rintro e w2 ⟨rfl, rfl⟩
  go_wp2_with fail
  refine (H4.out _).mono ?_
  rintro e w2 ⟨rfl, rfl⟩
  go_wp2_with fail
  refine (H5.out _).mono ?_
  rintro e w2 ⟨rfl, rfl⟩
  go_wp2_with fail
  refine (H6.out _).mono ?_
  rintro e w2 ⟨rfl, rfl⟩
  go_wp2_with fail
  go_ret
  exact ⟨rfl, hB1⟩

set_option maxRecDepth 100000 in
set_option maxHeartbeats 2000000 in
theorem maybe_7 {h0 h1 h2 h3 : Int} {h4 h5 : Bool} {h6 h7 : Int} {A B : Ad} (hok : Fr.Ok ⟨h0, h1, h2, h3, h4, h5, h6, h7, A, B⟩) (e0 : h0 = 20) (e1 : inB h1 20 65535 = true) (e2 : h4 = false) (e3 : inB h2 0 255 = true) (e4 : inB h6 0 255 = true) (e5 : inB h7 0 255 = true) (e6 : inB h3 0 65535 = true) (e7 : shortB A = false) (w : World) :
    Calls Try.prog 23 #[frC ⟨h0, h1, h2, h3, h4, h5, h6, h7, A, B⟩] w fun e w' => e = .returned (.bool false) ∧ Below w.heap.size w w' := by
  have hA : A.b.length = 16 := hok.s
  have hB : B.b.length = 16 := hok.d
  have hb1 := Blk.new w 28 (frL ⟨h0, h1, h2, h3, h4, h5, h6, h7, A, B⟩)
  have hB1 := (Below.refl w.heap.size w).alloc (Nat.le_refl _) (.cells (frL ⟨h0, h1, h2, h3, h4, h5, h6, h7, A, B⟩).toArray 28)
  have hz1 : (w.alloc (.cells (frL ⟨h0, h1, h2, h3, h4, h5, h6, h7, A, B⟩).toArray 28)).heap.size = w.heap.size + 1 := by simp
  have k0 := hb1.cell (i := 0) (v := .int .i64 h0) rfl
  have k1 := hb1.cell (i := 1) (v := .int .i64 h1) rfl
  have k2 := hb1.cell (i := 2) (v := .int .i64 h2) rfl
  have k3 := hb1.cell (i := 3) (v := .int .i64 h3) rfl
  have k4 := hb1.cell (i := 4) (v := .bool h4) rfl
  have k6 := hb1.cell (i := 6) (v := .int .i64 h6) rfl
  have k7 := hb1.cell (i := 7) (v := .int .i64 h7) rfl
  have kA := Lib.hid hb1.src
  have kB := Lib.hid (hb1.dst hok)
  unfold frC
  generalize frL ⟨h0, h1, h2, h3, h4, h5, h6, h7, A, B⟩ = C at *
  subst e0
  have H1 := Lib.hid (fun W => e1 ▸ within_any h1 20 65535 W)
  subst e2
  have H3 := Lib.hid (fun W => e3 ▸ within_any h2 0 255 W)
  have H4 := Lib.hid (fun W => e4 ▸ within_any h6 0 255 W)
  have H5 := Lib.hid (fun W => e5 ▸ within_any h7 0 255 W)
  have H6 := Lib.hid (fun W => e6 ▸ within_any h3 0 65535 W)
  have H7 := Lib.hid (fun W => e7 ▸ isfour_any hA W)
  clear hb1
  go_enter Try.func23, Try.ntmps23
  go_wp2_with fail
  refine (H1.out _).mono ?_
  rintro e w2 ⟨rfl, rfl⟩
  go_wp2_with fail
  refine (H3.out _).mono ?_
  rintro e w2 ⟨rfl, rfl⟩
  go_wp2_with fail
  refine (H4.out _).mono ?_
  rintro e w2 ⟨rfl, rfl⟩
  go_wp2_with fail
  refine (H5.out _).mono ?_
  rintro e w2 ⟨rfl, rfl⟩
  go_wp2_with fail
  refine (H6.out _).mono ?_
  rintro e w2 ⟨rfl, rfl⟩
  go_wp2_with ((with_reducible show wpList _ _ _ _ _ _); refine wpList_loadAw _ rfl (by rfl) w.heap.size 8 (by rfl) A hA kA.out ?_)
  refine (H7.out _).mono ?_
  rintro e w2 ⟨rfl, hb2⟩
  have kB2 := Lib.hid (range_keep kB.out (by rw [hz1]; omega) hb2)
  have hB2 := Lib.hid (hB1.trans (hb2.mono hB1.size))
  clear hb2
  go_wp2_with fail
  go_ret
  exact ⟨rfl, hB2.out⟩

set_option maxRecDepth 100000 in
set_option maxHeartbeats 2000000 in
theorem maybe_8 {h0 h1 h2 h3 : Int} {h4 h5 : Bool} {h6 h7 : Int} {A B : Ad} (hok : Fr.Ok ⟨h0, h1, h2, h3, h4, h5, h6, h7, A, B⟩) (e0 : h0 = 20) (e1 : inB h1 20 65535 = true) (e2 : h4 = false) (e3 : inB h2 0 255 = true) (e4 : inB h6 0 255 = true) (e5 : inB h7 0 255 = true) (e6 : inB h3 0 65535 = true) (e7 : shortB A = true) (e8 : shortB B = false) (w : World) :
    Calls Try.prog 23 #[frC ⟨h0, h1, h2, h3, h4, h5, h6, h7, A, B⟩] w fun e w' => e = .returned (.bool false) ∧ Below w.heap.size w w' := by
  have hA : A.b.length = 16 := hok.s
  have hB : B.b.length = 16 := hok.d
  have hb1 := Blk.new w 28 (frL ⟨h0, h1, h2, h3, h4, h5, h6, h7, A, B⟩)
  have hB1 := (Below.refl w.heap.size w).alloc (Nat.le_refl _) (.cells (frL ⟨h0, h1, h2, h3, h4, h5, h6, h7, A, B⟩).toArray 28)
  have hz1 : (w.alloc (.cells (frL ⟨h0, h1, h2, h3, h4, h5, h6, h7, A, B⟩).toArray 28)).heap.size = w.heap.size + 1 := by simp
  have k0 := hb1.cell (i := 0) (v := .int .i64 h0) rfl
  have k1 := hb1.cell (i := 1) (v := .int .i64 h1) rfl
  have k2 := hb1.cell (i := 2) (v := .int .i64 h2) rfl
  have k3 := hb1.cell (i := 3) (v := .int .i64 h3) rfl
  have k4 := hb1.cell (i := 4) (v := .bool h4) rfl
  have k6 := hb1.cell (i := 6) (v := .int .i64 h6) rfl
  have k7 := hb1.cell (i := 7) (v := .int .i64 h7) rfl
  have kA := Lib.hid hb1.src
  have kB := Lib.hid (hb1.dst hok)
  unfold frC
  generalize frL ⟨h0, h1, h2, h3, h4, h5, h6, h7, A, B⟩ = C at *
  subst e0
  have H1 := Lib.hid (fun W => e1 ▸ within_any h1 20 65535 W)
  subst e2
  have H3 := Lib.hid (fun W => e3 ▸ within_any h2 0 255 W)
  have H4 := Lib.hid (fun W => e4 ▸ within_any h6 0 255 W)
  have H5 := Lib.hid (fun W => e5 ▸ within_any h7 0 255 W)
  have H6 := Lib.hid (fun W => e6 ▸ within_any h3 0 65535 W)
  have H7 := Lib.hid (fun W => e7 ▸ isfour_any hA W)
  have H8 := Lib.hid (fun W => e8 ▸ isfour_any hB W)
  clear hb1
  go_enter Try.func23, Try.ntmps23
  go_wp2_with fail
  refine (H1.out _).mono ?_
  rintro e w2 ⟨rfl, rfl⟩
  go_wp2_with fail
  refine (H3.out _).mono ?_
  rintro e w2 ⟨rfl, rfl⟩
  go_wp2_with fail
  refine (H4.out _).mono ?_
  rintro e w2 ⟨rfl, rfl⟩
  go_wp2_with fail
  refine (H5.out _).mono ?_
  rintro e w2 ⟨rfl, rfl⟩
  go_wp2_with fail
  refine (H6.out _).mono ?_
  rintro e w2 ⟨rfl, rfl⟩
  go_wp2_with ((with_reducible show wpList _ _ _ _ _ _); refine wpList_loadAw _ rfl (by rfl) w.heap.size 8 (by rfl) A hA kA.out ?_)
  refine (H7.out _).mono ?_
  rintro e w2 ⟨rfl, hb2⟩
  have kB2 := Lib.hid (range_keep kB.out (by rw [hz1]; omega) hb2)
  have hB2 := Lib.hid (hB1.trans (hb2.mono hB1.size))
  clear hb2
  go_wp2_with ((with_reducible show wpList _ _ _ _ _ _); refine wpList_loadAw _ rfl (by rfl) w.heap.size 25 (by rfl) B hB kB2.out ?_)
  refine (H8.out _).mono ?_
  rintro e w3 ⟨rfl, hb3⟩
  have hB3 := hB2.out.trans (hb3.mono hB2.out.size)
  go_wp2_with fail
  go_ret
  exact ⟨rfl, hB3⟩

set_option maxRecDepth 100000 in
set_option maxHeartbeats 2000000 in
theorem maybe_9 {h0 h1 h2 h3 : Int} {h4 h5 : Bool} {h6 h7 : Int} {A B : Ad} (hok : Fr.Ok ⟨h0, h1, h2, h3, h4, h5, h6, h7, A, B⟩) (e0 : h0 = 20) (e1 : inB h1 20 65535 = true) (e2 : h4 = false) (e3 : inB h2 0 255 = true) (e4 : inB h6 0 255 = true) (e5 : inB h7 0 255 = true) (e6 : inB h3 0 65535 = true) (e7 : shortB A = true) (e8 : shortB B = true) (w : World) :
    Calls Try.prog 23 #[frC ⟨h0, h1, h2, h3, h4, h5, h6, h7, A, B⟩] w fun e w' => e = .returned (.bool true) ∧ Below w.heap.size w w' := by
  have hA : A.b.length = 16 := hok.s
  have hB : B.b.length = 16 := hok.d
  have hb1 := Blk.new w 28 (frL ⟨h0, h1, h2, h3, h4, h5, h6, h7, A, B⟩)
  have hB1 := (Below.refl w.heap.size w).alloc (Nat.le_refl _) (.cells (frL ⟨h0, h1, h2, h3, h4, h5, h6, h7, A, B⟩).toArray 28)
  have hz1 : (w.alloc (.cells (frL ⟨h0, h1, h2, h3, h4, h5, h6, h7, A, B⟩).toArray 28)).heap.size = w.heap.size + 1 := by simp
  have k0 := hb1.cell (i := 0) (v := .int .i64 h0) rfl
  have k1 := hb1.cell (i := 1) (v := .int .i64 h1) rfl
  have k2 := hb1.cell (i := 2) (v := .int .i64 h2) rfl
  have k3 := hb1.cell (i := 3) (v := .int .i64 h3) rfl
  have k4 := hb1.cell (i := 4) (v := .bool h4) rfl
  have k6 := hb1.cell (i := 6) (v := .int .i64 h6) rfl
  have k7 := hb1.cell (i := 7) (v := .int .i64 h7) rfl
  have kA := Lib.hid hb1.src
  have kB := Lib.hid (hb1.dst hok)
  unfold frC
  generalize frL ⟨h0, h1, h2, h3, h4, h5, h6, h7, A, B⟩ = C at *
  subst e0
  have H1 := Lib.hid (fun W => e1 ▸ within_any h1 20 65535 W)
  subst e2
  have H3 := Lib.hid (fun W => e3 ▸ within_any h2 0 255 W)
  have H4 := Lib.hid (fun W => e4 ▸ within_any h6 0 255 W)
  have H5 := Lib.hid (fun W => e5 ▸ within_any h7 0 255 W)
  have H6 := Lib.hid (fun W => e6 ▸ within_any h3 0 65535 W)
  have H7 := Lib.hid (fun W => e7 ▸ isfour_any hA W)
  have H8 := Lib.hid (fun W => e8 ▸ isfour_any hB W)
  clear hb1
  go_enter Try.func23, Try.ntmps23
  go_wp2_with fail
  refine (H1.out _).mono ?_
  rintro e w2 ⟨rfl, rfl⟩
  go_wp2_with fail
  refine (H3.out _).mono ?_
  rintro e w2 ⟨rfl, rfl⟩
  go_wp2_with fail
  refine (H4.out _).mono ?_
  rintro e w2 ⟨rfl, rfl⟩
  go_wp2_with fail
  refine (H5.out _).mono ?_
  rintro e w2 ⟨rfl, rfl⟩
  go_wp2_with fail
  refine (H6.out _).mono ?_
  rintro e w2 ⟨rfl, rfl⟩
  go_wp2_with ((with_reducible show wpList _ _ _ _ _ _); refine wpList_loadAw _ rfl (by rfl) w.heap.size 8 (by rfl) A hA kA.out ?_)
  refine (H7.out _).mono ?_
  rintro e w2 ⟨rfl, hb2⟩
  have kB2 := Lib.hid (range_keep kB.out (by rw [hz1]; omega) hb2)
  have hB2 := Lib.hid (hB1.trans (hb2.mono hB1.size))
  clear hb2
  go_wp2_with ((with_reducible show wpList _ _ _ _ _ _); refine wpList_loadAw _ rfl (by rfl) w.heap.size 25 (by rfl) B hB kB2.out ?_)
  refine (H8.out _).mono ?_
  rintro e w3 ⟨rfl, hb3⟩
  have hB3 := hB2.out.trans (hb3.mono hB2.out.size)
  go_wp2_with fail
  go_ret
  exact ⟨rfl, hB3⟩

theorem maybe_any {f : Fr} (hok : f.Ok) (w : World) : Calls Try.prog 23 #[frC f] w fun e w' => e = .returned (.bool (rightB f)) ∧ Below w.heap.size w w' := by
  obtain ⟨h0, h1, h2, h3, h4, h5, h6, h7, A, B⟩ := f
  by_cases e0 : h0 = 20
  · cases e1 : inB h1 20 65535
    · rw [show rightB ⟨h0, h1, h2, h3, h4, h5, h6, h7, A, B⟩ = false by simp [rightB, e1]]; exact maybe_1 hok e0 e1 w
    · cases e2 : h4
      · cases e3 : inB h2 0 255
        · rw [show rightB ⟨h0, h1, h2, h3, false, h5, h6, h7, A, B⟩ = false by simp [rightB, e3]]; exact maybe_3 (e2 ▸ hok) e0 e1 rfl e3 w
        · cases e4 : inB h6 0 255
          · rw [show rightB ⟨h0, h1, h2, h3, false, h5, h6, h7, A, B⟩ = false by simp [rightB, e4]]; exact maybe_4 (e2 ▸ hok) e0 e1 rfl e3 e4 w
          · cases e5 : inB h7 0 255
            · rw [show rightB ⟨h0, h1, h2, h3, false, h5, h6, h7, A, B⟩ = false by simp [rightB, e5]]; exact maybe_5 (e2 ▸ hok) e0 e1 rfl e3 e4 e5 w
            · cases e6 : inB h3 0 65535
              · rw [show rightB ⟨h0, h1, h2, h3, false, h5, h6, h7, A, B⟩ = false by simp [rightB, e6]]; exact maybe_6 (e2 ▸ hok) e0 e1 rfl e3 e4 e5 e6 w
              · cases e7 : shortB A
                · rw [show rightB ⟨h0, h1, h2, h3, false, h5, h6, h7, A, B⟩ = false by simp [rightB, e7]]; exact maybe_7 (e2 ▸ hok) e0 e1 rfl e3 e4 e5 e6 e7 w
                · cases e8 : shortB B
                  · rw [show rightB ⟨h0, h1, h2, h3, false, h5, h6, h7, A, B⟩ = false by simp [rightB, e8]]; exact maybe_8 (e2 ▸ hok) e0 e1 rfl e3 e4 e5 e6 e7 e8 w
                  · rw [show rightB ⟨h0, h1, h2, h3, false, h5, h6, h7, A, B⟩ = true by simp [rightB, e0, e1, e3, e4, e5, e6, e7, e8]]; exact maybe_9 (e2 ▸ hok) e0 e1 rfl e3 e4 e5 e6 e7 e8 w
      · rw [show rightB ⟨h0, h1, h2, h3, true, h5, h6, h7, A, B⟩ = false by simp [rightB]]; exact maybe_2 (e2 ▸ hok) e0 e1 rfl w
  · rw [show rightB ⟨h0, h1, h2, h3, h4, h5, h6, h7, A, B⟩ = false by simp [rightB, e0]]; exact maybe_0 hok e0 w
end Go.Proofs.Ytkdliadigalgaaa
