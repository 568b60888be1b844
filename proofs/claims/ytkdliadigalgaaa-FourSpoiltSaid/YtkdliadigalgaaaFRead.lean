/-
  The contract of four.Read.
-/
import Derived.Test.YtkdliadigalgaaaFFault
import Derived.Test.YtkdliadigalgaaaFAddr
namespace Go.Proofs.Ytkdliadigalgaaa
open Go.RowKit Go.Lib

theorem zeroF : #[Value.int .i64 0, .int .i64 0, .int .i64 0, .int .i64 0, .bool false, .bool false, .int .i64 0, .int .i64 0, .bool false, .int .u8 0, .int .u8 0, .int .u8 0, .int .u8 0, .int .u8 0, .int .u8 0, .int .u8 0, .int .u8 0, .int .u8 0, .int .u8 0, .int .u8 0, .int .u8 0, .int .u8 0, .int .u8 0, .int .u8 0, .int .u8 0, .bool false, .int .u8 0, .int .u8 0, .int .u8 0, .int .u8 0, .int .u8 0, .int .u8 0, .int .u8 0, .int .u8 0, .int .u8 0, .int .u8 0, .int .u8 0, .int .u8 0, .int .u8 0, .int .u8 0, .int .u8 0, .int .u8 0] = (frL Fr.zero).toArray := by rfl
theorem and_16383 (n : Nat) (h : n < 65536) : bits .and .i64 (n : Int) 16383 = ((n &&& 16383 : Nat) : Int) := (bits_nat .i64 63 (by decide) (fun n h0 h1 => by rw [IntKind.wrap_i64]; omega) n 16383 (by omega) (by omega)).1
theorem and_16384 (n : Nat) (h : n < 65536) : bits .and .i64 (n : Int) 16384 = ((n &&& 16384 : Nat) : Int) := (bits_nat .i64 63 (by decide) (fun n h0 h1 => by rw [IntKind.wrap_i64]; omega) n 16384 (by omega) (by omega)).1
theorem mask_frag (n : Nat) : (((n &&& 16383 : Nat) : Int) != 0) = decide (n % 16384 ≠ 0) := by
  rw [show (16383 : Nat) = 2 ^ 14 - 1 from rfl, Nat.and_two_pow_sub_one_eq_mod]
  apply Bool.eq_iff_iff.2
  simp
  omega
theorem mask_bit (n : Nat) : (n &&& 16384) = if n / 16384 % 2 = 1 then 16384 else 0 := by
  have ht : n.testBit 14 = decide (n / 16384 % 2 = 1) := Nat.testBit_eq_decide_div_mod_eq
  apply Nat.eq_of_testBit_eq
  intro i
  rw [Nat.testBit_and, show (16384 : Nat) = 2 ^ 14 from rfl, Nat.testBit_two_pow]
  by_cases h : n / 16384 % 2 = 1
  · rw [if_pos h, Nat.testBit_two_pow]
    by_cases e : 14 = i
    · subst e; simp [ht, h]
    · simp [e]
  · rw [if_neg h, Nat.zero_testBit]
    by_cases e : 14 = i
    · subst e; simp [ht, h]
    · simp [e]
theorem mask_keep (n : Nat) : (((n &&& 16384 : Nat) : Int) != 0) = decide (n / 16384 % 2 ≠ 0) := by
  rw [mask_bit]
  rcases Nat.mod_two_eq_zero_or_one (n / 16384) with h | h <;> simp [h]

/-- What Read answers. -/
def ReadGave (w : World) (f : Fr) (k : Nat) (e : Ending) (w' : World) : Prop := e = .returned (.tuple #[frC f, .int .i64 (k : Int)]) ∧ Below w.heap.size w w'

set_option maxRecDepth 100000 in
set_option maxHeartbeats 4000000 in
theorem read_any (A : Option Addr) (len cap : Nat) (xs : List UInt8) (hlen : len ≤ 1000000) (hcap : len ≤ cap) (hcap2 : cap ≤ maxLen) (w : World) (hI : Rd w w.heap.size A len xs) :
    Calls Try.prog 10 #[.slice A len cap] w (ReadGave w (rdF xs) (faultN xs)) := by
  have HL := Lib.hid hI.len
  obtain ⟨Z, hZ⟩ : ∃ Z : World, w.alloc (.cells (frL Fr.zero).toArray 28) = Z := ⟨_, rfl⟩
  have hR0 : Blk Z 28 w.heap.size (frL Fr.zero) := by rw [← hZ]; exact Blk.new w _ _
  have hB0 : Below w.heap.size w Z := by rw [← hZ]; exact (Below.refl w.heap.size w).alloc (Nat.le_refl _) _
  rw [← zeroF] at hZ
  have HZ := Lib.hid hZ
  have HF := Lib.hid (fault_any A len cap xs hlen hcap hcap2 Z ((hI.below hB0).more hB0.size))
  have HI0 := Lib.hid (hI.below hB0)
  have HR0 := Lib.hid hR0
  have HB0 := Lib.hid hB0
  clear hZ hI hR0 hB0
  by_cases h0 : faultN xs = 0
  · rw [rdF_yes h0, h0]
    rw [h0] at HF
    have h20 : 20 ≤ len := by have := (fault_zero h0).1; rw [HL.out] at this; exact this
    have hOK := frOf_ok xs (by rw [HL.out]; exact h20)
    have hBU := built_at (ihl xs : Nat) (wat xs 2 : Nat) (batN xs 1 : Nat) (wat xs 4 : Nat) (decide (wat xs 6 % 16384 ≠ 0)) (decide (wat xs 6 / 16384 % 2 ≠ 0)) (batN xs 8 : Nat) (batN xs 9 : Nat) (adOf xs 12) (adOf xs 16) hOK.s hOK.d
    rw [show (⟨(ihl xs : Nat), (wat xs 2 : Nat), (batN xs 1 : Nat), (wat xs 4 : Nat), decide (wat xs 6 % 16384 ≠ 0), decide (wat xs 6 / 16384 % 2 ≠ 0), (batN xs 8 : Nat), (batN xs 9 : Nat), adOf xs 12, adOf xs 16⟩ : Fr) = frOf xs from rfl] at hBU
    generalize frOf xs = f at *
    have q3 := mask_frag (wat xs 6)
    have q4 := mask_keep (wat xs 6)
    obtain ⟨fr, hfr⟩ : ∃ fr, decide (wat xs 6 % 16384 ≠ 0) = fr := ⟨_, rfl⟩
    obtain ⟨ke, hke⟩ : ∃ ke, decide (wat xs 6 / 16384 % 2 ≠ 0) = ke := ⟨_, rfl⟩
    rw [hfr] at hBU q3
    rw [hke] at hBU q4
    have HBU := Lib.hid hBU
    have HOK := Lib.hid hOK
    have Q3 := Lib.hid q3
    have Q4 := Lib.hid q4
    clear hfr hke hBU hOK q3 q4
    clear h0
    go_enter Try.func10, Try.ntmps10
    go_wp2_with fail
    rw [HZ.out]
    refine HF.out.mono ?_
    rintro e w0 ⟨rfl, hb0⟩
    have HI1 := HI0.out.below (hb0.mono HB0.out.size)
    have HR1 := HR0.out.below HR0.out.lt hb0
    have HB1 := HB0.out.trans (hb0.mono HB0.out.size)
    clear hb0
    have HI1 := Lib.hid HI1
    have HR1 := Lib.hid HR1
    have HB1 := Lib.hid HB1
    have HN6 := Lib.hid (num_any (p := 6) 6 rfl (by omega) hcap hcap2 (by omega) (HI1.out.more HB1.out.size))
    go_wp2_with fail
    refine HN6.out.mono ?_
    rintro e w1 ⟨rfl, hb1⟩
    have HI2 := Lib.hid (HI1.out.below (hb1.mono HB1.out.size))
    have HR2 := Lib.hid (HR1.out.below HR1.out.lt hb1)
    have HB2 := Lib.hid (HB1.out.trans (hb1.mono HB1.out.size))
    clear HI1 HR1 HB1 HN6 hb1
    have HR1 := HR2
    have HB1 := HB2
    clear HR2 HB2
    obtain ⟨b, off, rfl, _⟩ := HI2.out.addr (by omega)
    have hRd := fun W (hW : Below w.heap.size w1 W) => (HI2.out.below hW).more (Nat.le_trans HB1.out.size hW.size)
    have HN2 := Lib.hid (fun W (hW : Below w.heap.size w1 W) => num_any (p := 2) (cap := cap) 2 rfl (by omega) hcap hcap2 (by omega) (hRd W hW))
    have HN4 := Lib.hid (fun W (hW : Below w.heap.size w1 W) => num_any (p := 4) (cap := cap) 4 rfl (by omega) hcap hcap2 (by omega) (hRd W hW))
    have HH := Lib.hid (fun W (hW : Below w.heap.size w1 W) => head_any (cap := cap) (by omega) (hRd W hW))
    have HA12 := Lib.hid (fun W (hW : Below w.heap.size w1 W) => addr_any (A := cutA (some ⟨b, off, none⟩) cap 12) (len := len - 12) (cap := cap - 12) (xs := xs.drop 12) (by omega) (by omega) (Nat.le_refl _) ((hRd W hW).from (l := 12) (by omega) cap hcap))
    have HA16 := Lib.hid (fun W (hW : Below w.heap.size w1 W) => addr_any (A := cutA (some ⟨b, off, none⟩) cap 16) (len := len - 16) (cap := cap - 16) (xs := xs.drop 16) (by omega) (by omega) (Nat.le_refl _) ((hRd W hW).from (l := 16) (by omega) cap hcap))
    have C1 := Lib.hid (fun W (hW : Below w.heap.size w1 W) => (hRd W hW).cellD (k := 1) (by omega))
    have C8 := Lib.hid (fun W (hW : Below w.heap.size w1 W) => (hRd W hW).cellD (k := 8) (by omega))
    have C9 := Lib.hid (fun W (hW : Below w.heap.size w1 W) => (hRd W hW).cellD (k := 9) (by omega))
    have hc12 : ∀ W, (Instr.slice 22 (.slice (some ⟨b, off, none⟩) len cap) (some (.int .i64 12)) none none).run Try.prog W = .ok (.slice (cutA (some ⟨b, off, none⟩) cap 12) (len - 12) (cap - 12)) W := fun W => run_from8 _ len cap 12 (by omega) W
    have hc16 : ∀ W, (Instr.slice 22 (.slice (some ⟨b, off, none⟩) len cap) (some (.int .i64 16)) none none).run Try.prog W = .ok (.slice (cutA (some ⟨b, off, none⟩) cap 16) (len - 16) (cap - 16)) W := fun W => run_from8 _ len cap 16 (by omega) W
    have l1 : (1 : Int) < (len : Int) := by omega
    have l8 : (8 : Int) < (len : Int) := by omega
    have l9 : (9 : Int) < (len : Int) := by omega
    have x1l := batN_lt xs 1
    have x8l := batN_lt xs 8
    have x9l := batN_lt xs 9
    have n6l := wat_lt xs 6
    have q1 := and_16383 (wat xs 6) n6l
    have q2 := and_16384 (wat xs 6) n6l
    have e12 : ad4 (xs.drop 12) = adOf xs 12 := rfl
    have e16 : ad4 (xs.drop 16) = adOf xs 16 := rfl
    rw [e12] at HA12
    rw [e16] at HA16
    have q3 := Q3.out
    have q4 := Q4.out
    clear Q3 Q4
    generalize adOf xs 12 = a12 at *
    generalize adOf xs 16 = a16 at *
    generalize wat xs 6 = n6 at *
    generalize wat xs 2 = n2 at *
    generalize wat xs 4 = n4 at *
    generalize ihl xs = ih at *
    generalize batN xs 1 = x1 at *
    generalize batN xs 8 = x8 at *
    generalize batN xs 9 = x9 at *
    have w1' : IntKind.i64.wrap (x1 : Int) = (x1 : Int) := by rw [IntKind.wrap_i64]; omega
    have w8' : IntKind.i64.wrap (x8 : Int) = (x8 : Int) := by rw [IntKind.wrap_i64]; omega
    have w9' : IntKind.i64.wrap (x9 : Int) = (x9 : Int) := by rw [IntKind.wrap_i64]; omega
    clear hRd e12 e16
    go_wp2_with fail
    refine wp_region_held_drew (S := fun W => Below w.heap.size w1 W) (by kernel_rfl) (Below.refl _ _).drew (fun hHeld => ?_)
    refine wpAnyH_take (i := 0) (oi := ⟨some 14, _, _, _, _, _⟩) (v := .slice (some ⟨b, off, none⟩) len cap) rfl (by kernel_rfl) (by kernel_rfl) (by kernel_rfl) (fun _ _ _ h => h) (Or.inl ⟨by rfl, fun _ _ => by go_simp⟩) hHeld ?_
    simp only [Act.put, List.setIfInBounds_toArray, List.set_cons_zero, List.set_cons_succ]
    refine wpAnyH_take (i := 2) (oi := ⟨some 16, _, _, _, _, _⟩) (v := .slice (some ⟨b, off, none⟩) len cap) rfl (by kernel_rfl) (by kernel_rfl) (by kernel_rfl) (fun _ _ _ h => h) (Or.inl ⟨by rfl, fun _ _ => by go_simp⟩) hHeld ?_
    simp only [Act.put, List.setIfInBounds_toArray, List.set_cons_zero, List.set_cons_succ]
    refine wpAnyH_take (i := 4) (oi := ⟨some 18, _, _, _, _, _⟩) (v := .slice (some ⟨b, off, none⟩) len cap) rfl (by kernel_rfl) (by kernel_rfl) (by kernel_rfl) (fun _ _ _ h => h) (Or.inl ⟨by rfl, fun _ _ => by go_simp⟩) hHeld ?_
    simp only [Act.put, List.setIfInBounds_toArray, List.set_cons_zero, List.set_cons_succ]
    refine wpAnyH_take (i := 5) (oi := ⟨some 19, _, _, _, _, _⟩) (v := .pointer (some ⟨b, off + 1, none⟩)) rfl (by kernel_rfl) (by kernel_rfl) (by kernel_rfl) (fun _ _ _ h => h) (Or.inl ⟨by rfl, fun _ _ => by go_simp⟩) hHeld ?_
    simp only [Act.put, List.setIfInBounds_toArray, List.set_cons_zero, List.set_cons_succ]
    refine wpAnyH_take (i := 6) (oi := ⟨some 20, _, _, _, _, _⟩) (v := .int .u8 (x1 : Int)) rfl (by kernel_rfl) (by kernel_rfl) (by kernel_rfl) (fun _ _ _ h => h) (Or.inl ⟨by rfl, fun W hW => by have hc := C1.out W hW; go_simp⟩) hHeld ?_
    simp only [Act.put, List.setIfInBounds_toArray, List.set_cons_zero, List.set_cons_succ]
    refine wpAnyH_take (i := 7) (oi := ⟨some 21, _, _, _, _, _⟩) (v := .int .i64 (x1 : Int)) rfl (by kernel_rfl) (by kernel_rfl) (by kernel_rfl) (fun _ _ _ h => h) (Or.inl ⟨by rfl, fun _ _ => by go_simp⟩) hHeld ?_
    simp only [Act.put, List.setIfInBounds_toArray, List.set_cons_zero, List.set_cons_succ]
    refine wpAnyH_take (i := 8) (oi := ⟨some 22, _, _, _, _, _⟩) (v := .slice (some ⟨b, off, none⟩) len cap) rfl (by kernel_rfl) (by kernel_rfl) (by kernel_rfl) (fun _ _ _ h => h) (Or.inl ⟨by rfl, fun _ _ => by go_simp⟩) hHeld ?_
    simp only [Act.put, List.setIfInBounds_toArray, List.set_cons_zero, List.set_cons_succ]
    refine wpAnyH_take (i := 10) (oi := ⟨some 24, _, _, _, _, _⟩) (v := .int .i64 (n6 : Int)) rfl (by kernel_rfl) (by kernel_rfl) (by kernel_rfl) (fun _ _ _ h => h) (Or.inl ⟨by rfl, fun _ _ => by go_simp⟩) hHeld ?_
    simp only [Act.put, List.setIfInBounds_toArray, List.set_cons_zero, List.set_cons_succ]
    refine wpAnyH_take (i := 11) (oi := ⟨some 25, _, _, _, _, _⟩) (v := .int .i64 ((n6 &&& 16383 : Nat) : Int)) rfl (by kernel_rfl) (by kernel_rfl) (by kernel_rfl) (fun _ _ _ h => h) (Or.inl ⟨by rfl, fun _ _ => by go_simp⟩) hHeld ?_
    simp only [Act.put, List.setIfInBounds_toArray, List.set_cons_zero, List.set_cons_succ]
    refine wpAnyH_take (i := 12) (oi := ⟨some 26, _, _, _, _, _⟩) (v := .bool fr) rfl (by kernel_rfl) (by kernel_rfl) (by kernel_rfl) (fun _ _ _ h => h) (Or.inl ⟨by rfl, fun _ _ => by go_simp⟩) hHeld ?_
    simp only [Act.put, List.setIfInBounds_toArray, List.set_cons_zero, List.set_cons_succ]
    refine wpAnyH_take (i := 13) (oi := ⟨some 27, _, _, _, _, _⟩) (v := .int .i64 (n6 : Int)) rfl (by kernel_rfl) (by kernel_rfl) (by kernel_rfl) (fun _ _ _ h => h) (Or.inl ⟨by rfl, fun _ _ => by go_simp⟩) hHeld ?_
    simp only [Act.put, List.setIfInBounds_toArray, List.set_cons_zero, List.set_cons_succ]
    refine wpAnyH_take (i := 14) (oi := ⟨some 28, _, _, _, _, _⟩) (v := .int .i64 ((n6 &&& 16384 : Nat) : Int)) rfl (by kernel_rfl) (by kernel_rfl) (by kernel_rfl) (fun _ _ _ h => h) (Or.inl ⟨by rfl, fun _ _ => by go_simp⟩) hHeld ?_
    simp only [Act.put, List.setIfInBounds_toArray, List.set_cons_zero, List.set_cons_succ]
    refine wpAnyH_take (i := 15) (oi := ⟨some 29, _, _, _, _, _⟩) (v := .bool ke) rfl (by kernel_rfl) (by kernel_rfl) (by kernel_rfl) (fun _ _ _ h => h) (Or.inl ⟨by rfl, fun _ _ => by go_simp⟩) hHeld ?_
    simp only [Act.put, List.setIfInBounds_toArray, List.set_cons_zero, List.set_cons_succ]
    refine wpAnyH_take (i := 16) (oi := ⟨some 30, _, _, _, _, _⟩) (v := .slice (some ⟨b, off, none⟩) len cap) rfl (by kernel_rfl) (by kernel_rfl) (by kernel_rfl) (fun _ _ _ h => h) (Or.inl ⟨by rfl, fun _ _ => by go_simp⟩) hHeld ?_
    simp only [Act.put, List.setIfInBounds_toArray, List.set_cons_zero, List.set_cons_succ]
    refine wpAnyH_take (i := 17) (oi := ⟨some 31, _, _, _, _, _⟩) (v := .pointer (some ⟨b, off + 8, none⟩)) rfl (by kernel_rfl) (by kernel_rfl) (by kernel_rfl) (fun _ _ _ h => h) (Or.inl ⟨by rfl, fun _ _ => by go_simp⟩) hHeld ?_
    simp only [Act.put, List.setIfInBounds_toArray, List.set_cons_zero, List.set_cons_succ]
    refine wpAnyH_take (i := 18) (oi := ⟨some 32, _, _, _, _, _⟩) (v := .int .u8 (x8 : Int)) rfl (by kernel_rfl) (by kernel_rfl) (by kernel_rfl) (fun _ _ _ h => h) (Or.inl ⟨by rfl, fun W hW => by have hc := C8.out W hW; go_simp⟩) hHeld ?_
    simp only [Act.put, List.setIfInBounds_toArray, List.set_cons_zero, List.set_cons_succ]
    refine wpAnyH_take (i := 19) (oi := ⟨some 33, _, _, _, _, _⟩) (v := .int .i64 (x8 : Int)) rfl (by kernel_rfl) (by kernel_rfl) (by kernel_rfl) (fun _ _ _ h => h) (Or.inl ⟨by rfl, fun _ _ => by go_simp⟩) hHeld ?_
    simp only [Act.put, List.setIfInBounds_toArray, List.set_cons_zero, List.set_cons_succ]
    refine wpAnyH_take (i := 20) (oi := ⟨some 34, _, _, _, _, _⟩) (v := .slice (some ⟨b, off, none⟩) len cap) rfl (by kernel_rfl) (by kernel_rfl) (by kernel_rfl) (fun _ _ _ h => h) (Or.inl ⟨by rfl, fun _ _ => by go_simp⟩) hHeld ?_
    simp only [Act.put, List.setIfInBounds_toArray, List.set_cons_zero, List.set_cons_succ]
    refine wpAnyH_take (i := 21) (oi := ⟨some 35, _, _, _, _, _⟩) (v := .pointer (some ⟨b, off + 9, none⟩)) rfl (by kernel_rfl) (by kernel_rfl) (by kernel_rfl) (fun _ _ _ h => h) (Or.inl ⟨by rfl, fun _ _ => by go_simp⟩) hHeld ?_
    simp only [Act.put, List.setIfInBounds_toArray, List.set_cons_zero, List.set_cons_succ]
    refine wpAnyH_take (i := 22) (oi := ⟨some 36, _, _, _, _, _⟩) (v := .int .u8 (x9 : Int)) rfl (by kernel_rfl) (by kernel_rfl) (by kernel_rfl) (fun _ _ _ h => h) (Or.inl ⟨by rfl, fun W hW => by have hc := C9.out W hW; go_simp⟩) hHeld ?_
    simp only [Act.put, List.setIfInBounds_toArray, List.set_cons_zero, List.set_cons_succ]
    refine wpAnyH_take (i := 23) (oi := ⟨some 37, _, _, _, _, _⟩) (v := .int .i64 (x9 : Int)) rfl (by kernel_rfl) (by kernel_rfl) (by kernel_rfl) (fun _ _ _ h => h) (Or.inl ⟨by rfl, fun _ _ => by go_simp⟩) hHeld ?_
    simp only [Act.put, List.setIfInBounds_toArray, List.set_cons_zero, List.set_cons_succ]
    refine wpAnyH_take (i := 24) (oi := ⟨some 38, _, _, _, _, _⟩) (v := .slice (some ⟨b, off, none⟩) len cap) rfl (by kernel_rfl) (by kernel_rfl) (by kernel_rfl) (fun _ _ _ h => h) (Or.inl ⟨by rfl, fun _ _ => by go_simp⟩) hHeld ?_
    simp only [Act.put, List.setIfInBounds_toArray, List.set_cons_zero, List.set_cons_succ]
    refine wpAnyH_take (i := 25) (oi := ⟨some 39, _, _, _, _, _⟩) (v := .slice (cutA (some ⟨b, off, none⟩) cap 12) (len - 12) (cap - 12)) rfl (by kernel_rfl) (by kernel_rfl) (by kernel_rfl) (fun _ _ _ h => h) (Or.inl ⟨by rfl, fun _ _ => by go_simp⟩) hHeld ?_
    simp only [Act.put, List.setIfInBounds_toArray, List.set_cons_zero, List.set_cons_succ]
    refine wpAnyH_take (i := 27) (oi := ⟨some 41, _, _, _, _, _⟩) (v := .slice (some ⟨b, off, none⟩) len cap) rfl (by kernel_rfl) (by kernel_rfl) (by kernel_rfl) (fun _ _ _ h => h) (Or.inl ⟨by rfl, fun _ _ => by go_simp⟩) hHeld ?_
    simp only [Act.put, List.setIfInBounds_toArray, List.set_cons_zero, List.set_cons_succ]
    refine wpAnyH_take (i := 28) (oi := ⟨some 42, _, _, _, _, _⟩) (v := .slice (cutA (some ⟨b, off, none⟩) cap 16) (len - 16) (cap - 16)) rfl (by kernel_rfl) (by kernel_rfl) (by kernel_rfl) (fun _ _ _ h => h) (Or.inl ⟨by rfl, fun _ _ => by go_simp⟩) hHeld ?_
    simp only [Act.put, List.setIfInBounds_toArray, List.set_cons_zero, List.set_cons_succ]
    have HR2 : Hid (Blk w1.drew 28 w.heap.size (frL Fr.zero)) := Lib.hid HR1.out
    refine wpAnyH_ready (rs := [1]) (by kernel_rfl) (by simp) (AllReadyH.cons (o := ⟨some 15, _, _, _, _, _⟩) rfl (fun K hK => ?_) AllReadyH.nil)
    go_simp
    refine (HH.out _ hHeld).mono ?_
    rintro e w2 ⟨rfl, rfl⟩
    refine hK.out _ _ hHeld (fun hHeld => ?_)
    clear hK K
    refine wpAnyH_ready (rs := [3]) (by kernel_rfl) (by simp) (AllReadyH.cons (o := ⟨some 17, _, _, _, _, _⟩) rfl (fun K hK => ?_) AllReadyH.nil)
    go_simp
    refine (HN2.out _ hHeld).mono ?_
    rintro e w3 ⟨rfl, hb3⟩
    have HR3 := Lib.hid (HR2.out.below HR2.out.lt hb3)
    refine hK.out _ _ (hHeld.trans (hb3.mono (Nat.le_trans HB1.out.size hHeld.size))) (fun hHeld => ?_)
    clear hK K hb3 HR2
    refine wpAnyH_ready (rs := [9]) (by kernel_rfl) (by simp) (AllReadyH.cons (o := ⟨some 23, _, _, _, _, _⟩) rfl (fun K hK => ?_) AllReadyH.nil)
    go_simp
    refine (HN4.out _ hHeld).mono ?_
    rintro e w4 ⟨rfl, hb4⟩
    have HR4 := Lib.hid (HR3.out.below HR3.out.lt hb4)
    refine hK.out _ _ (hHeld.trans (hb4.mono (Nat.le_trans HB1.out.size hHeld.size))) (fun hHeld => ?_)
    clear hK K hb4 HR3
    refine wpAnyH_ready (rs := [26]) (by kernel_rfl) (by simp) (AllReadyH.cons (o := ⟨some 40, _, _, _, _, _⟩) rfl (fun K hK => ?_) AllReadyH.nil)
    go_simp
    refine (HA12.out _ hHeld).mono ?_
    rintro e w5 ⟨rfl, hb5⟩
    have HR5 := Lib.hid (HR4.out.below HR4.out.lt hb5)
    refine hK.out _ _ (hHeld.trans (hb5.mono (Nat.le_trans HB1.out.size hHeld.size))) (fun hHeld => ?_)
    clear hK K hb5 HR4
    refine wpAnyH_ready (rs := [29]) (by kernel_rfl) (by simp) (AllReadyH.cons (o := ⟨some 43, _, _, _, _, _⟩) rfl (fun K hK => ?_) AllReadyH.nil)
    go_simp
    refine (HA16.out _ hHeld).mono ?_
    rintro e w6 ⟨rfl, hb6⟩
    have HR6 := Lib.hid (HR5.out.below HR5.out.lt hb6)
    refine hK.out _ _ (hHeld.trans (hb6.mono (Nat.le_trans HB1.out.size hHeld.size))) (fun hHeld => ?_)
    clear hK K hb6 HR5
    refine wpAnyH_take (i := 30) (oi := ⟨some 44, _, _, _, _, _⟩) (v := .agg (frL f).toArray) rfl (by kernel_rfl) (by kernel_rfl) (by kernel_rfl) (fun _ _ _ h => h) (yields_build (by rfl) 28 _ rfl _ (by kernel_rfl) _ HBU.out) hHeld ?_
    simp only [Act.put, List.setIfInBounds_toArray, List.set_cons_zero, List.set_cons_succ]
    refine wpAnyH_ready (rs := [31]) (by kernel_rfl) (by simp) (AllReadyH.cons (o := ⟨none, _, _, _, _, _⟩) rfl (fun K hK => ?_) AllReadyH.nil)
    refine step_storeR rfl 28 _ _ rfl w.heap.size (by rfl) (frL f) (by rfl) _ HR6.out (by rw [frL_len HOK.out]; rfl) (sizeFrL HOK.out) (frL_one _) ?_
    have hR9 := Lib.hid (HR6.out.setRow_ (frL f))
    refine hK.out _ _ (below_setRow hHeld (Nat.le_refl _) _) (fun hHeld => ?_)
    clear hK K
    refine wpAnyH_take (i := 32) (oi := ⟨some 3, _, _, _, _, _⟩) (v := .int .i64 0) rfl (by kernel_rfl) (by kernel_rfl) (by kernel_rfl) (fun _ _ _ h => h) (Or.inl ⟨by rfl, fun _ _ => by go_simp⟩) hHeld ?_
    simp only [Act.put, List.setIfInBounds_toArray, List.set_cons_zero, List.set_cons_succ]
    refine wpAnyH_done (by kernel_rfl) ?_ _
    go_wp2_with fail
    refine bodyPost_ret (v := .tuple #[frC f, .int .i64 0]) (results_fr rfl _ _ w.heap.size (by rfl) _ HOK.out hR9.out _ (by rfl)) rfl ?_
    exact ⟨rfl, HB1.out.trans hHeld⟩
  · rw [rdF_no h0]
    have hle := faultN_le xs
    obtain ⟨F, hF⟩ : ∃ F, faultN xs = F := ⟨_, rfl⟩
    rw [hF] at h0 HF hle ⊢
    have n1 : ((F : Int) != 0) = true := by simp; omega
    have HZO := Lib.hid Fr.ok_zero
    clear hF
    go_enter Try.func10, Try.ntmps10
    go_wp2_with fail
    rw [HZ.out]
    refine HF.out.mono ?_
    rintro e w0 ⟨rfl, hb0⟩
    have HR1 := Lib.hid (HR0.out.below HR0.out.lt hb0)
    have HB1 := Lib.hid (HB0.out.trans (hb0.mono HB0.out.size))
    clear hb0
    go_wp2_with (first
      | ((with_reducible show wpList _ _ _ _ _ _); refine wpList_buildTo rfl 28 _ rfl (some 10) rfl (frL Fr.zero).toArray (by kernel_rfl) ?_)
      | ((with_reducible show wpList _ _ _ _ _ _); refine wpList_storeR rfl 28 _ _ rfl w.heap.size (by rfl) (frL Fr.zero) (by rfl) _ HR1.out rfl (sizeFrL HZO.out) (frL_one _) ?_))
    refine bodyPost_ret (v := .tuple #[frC Fr.zero, .int .i64 (F : Int)]) (results_fr rfl _ _ w.heap.size (by rfl) _ HZO.out (HR1.out.setRow_ _) _ (by rfl)) rfl ?_
    exact ⟨rfl, below_setRow HB1.out (Nat.le_refl _) _⟩
end Go.Proofs.Ytkdliadigalgaaa
