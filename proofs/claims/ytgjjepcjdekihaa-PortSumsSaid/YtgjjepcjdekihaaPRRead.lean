/-
  The document's Read.
-/
import Derived.Test.YtgjjepcjdekihaaPRead
namespace Go.Proofs.Ytgjjepcjdekihaa
open Go.RowKit Go.Lib

theorem two_b {A : Option Addr} {len : Nat} {cap p : Nat} {xs : List UInt8} (hp : p ≤ 1000) (h : p + 2 ≤ len) (z : Int) (hz : z = (p : Int)) {w : World} {B : Nat} (hI : Rd w B A len xs) :
    Calls Try.prog 24 #[.slice A len cap, .int .i64 z] w fun e w' => e = .returned (.int .i64 (wat xs p : Nat)) ∧ Below w.heap.size w w' := by
  subst hz
  refine (two_any hp h hI).mono ?_
  rintro e w' ⟨rfl, n, rfl⟩
  exact ⟨rfl, below_drewN (Below.refl _ _) n⟩

section
variable {A : Option Addr} {len cap : Nat} {xs : List UInt8}
set_option maxRecDepth 100000 in
set_option maxHeartbeats 1000000 in
theorem rread_N (w : World) (n : Int) (h6 : n ≠ 6) (h17 : n ≠ 17) :
    Calls Try.prog 11 #[.int .i64 n, .slice A len cap] w (ReadGave w (rdP n xs) (faultP n xs)) := by
  have hB0 := (Below.refl w.heap.size w).alloc (Nat.le_refl _) (.cells (poL Po.zero).toArray 25)
  have hR0 := Blk.new w 25 (poL Po.zero)
  obtain ⟨Z, hZ⟩ : ∃ Z : World, w.alloc (.cells (poL Po.zero).toArray 25) = Z := ⟨_, rfl⟩
  rw [hZ] at hB0 hR0
  rw [← zeroP] at hZ
  have HZ := Lib.hid hZ
  have HR0 := Lib.hid hR0
  have HB0 := Lib.hid hB0
  clear hZ hR0 hB0
  have E : faultP n xs = 5 := by unfold faultP; rw [if_neg h6, if_neg h17]
  rw [rdP_no (by rw [E]; decide), E]
  have b6 : (n == 6) = false := beq_eq_false_iff_ne.2 h6
  have b17 : (n != 17) = true := by simp [h17]
  clear E
  go_enter Try.func11, Try.ntmps11
  go_wp2_with (first
    | ((with_reducible show wpList _ _ _ _ _ _); refine wpList_buildw 25 _ rfl (by rfl) _ (by kernel_rfl) (poL Po.zero).toArray (by kernel_rfl) ?_)
    | ((with_reducible show wpList _ _ _ _ _ _); rw [HZ.out]; refine wpList_storeR rfl 25 _ _ rfl w.heap.size (by rfl) (poL Po.zero) (by rfl) _ HR0.out rfl (sizePoL _) (poL_one _) ?_))
  refine bodyPost_ret (v := .tuple #[poC Po.zero, .int .i64 5]) (results_po rfl _ _ w.heap.size (by rfl) _ (HR0.out.setRow_ _) _ (by rfl)) rfl ?_
  exact ⟨rfl, below_setRow HB0.out (Nat.le_refl _) _⟩
set_option maxRecDepth 100000 in
set_option maxHeartbeats 1000000 in
theorem rread_U (w : World) (hI : Rd w w.heap.size A len xs) :
    Calls Try.prog 11 #[.int .i64 17, .slice A len cap] w (ReadGave w (rdP 17 xs) (faultP 17 xs)) := by
  have hB0 := (Below.refl w.heap.size w).alloc (Nat.le_refl _) (.cells (poL Po.zero).toArray 25)
  have hR0 := Blk.new w 25 (poL Po.zero)
  obtain ⟨Z, hZ⟩ : ∃ Z : World, w.alloc (.cells (poL Po.zero).toArray 25) = Z := ⟨_, rfl⟩
  rw [hZ] at hB0 hR0
  rw [← zeroP] at hZ
  have HZ := Lib.hid hZ
  have HR0 := Lib.hid hR0
  have HB0 := Lib.hid hB0
  clear hZ hR0 hB0
  have hL := hI.len
  have hle := wat_lt xs 4
  by_cases h1 : len < 8
  · have E : faultP 17 xs = 2 := by show faultU xs = 2; unfold faultU; rw [if_pos (by omega)]
    rw [rdP_no (by rw [E]; decide), E]
    have h1' : (len : Int) < 8 := by omega
    clear E
    go_enter Try.func11, Try.ntmps11
    go_wp2_with (first
      | ((with_reducible show wpList _ _ _ _ _ _); refine wpList_buildw 25 _ rfl (by rfl) _ (by kernel_rfl) (poL Po.zero).toArray (by kernel_rfl) ?_)
      | ((with_reducible show wpList _ _ _ _ _ _); rw [HZ.out]; refine wpList_storeR rfl 25 _ _ rfl w.heap.size (by rfl) (poL Po.zero) (by rfl) _ HR0.out rfl (sizePoL _) (poL_one _) ?_))
    refine bodyPost_ret (v := .tuple #[poC Po.zero, .int .i64 2]) (results_po rfl _ _ w.heap.size (by rfl) _ (HR0.out.setRow_ _) _ (by rfl)) rfl ?_
    exact ⟨rfl, below_setRow HB0.out (Nat.le_refl _) _⟩
  · have h1' : ¬ (len : Int) < 8 := by omega
    have T0 := Lib.hid (fun W (hB : Below w.heap.size w W) => two_b (p := 0) (cap := cap) (by omega) (by omega) 0 rfl (hI.below hB))
    have T2 := Lib.hid (fun W (hB : Below w.heap.size w W) => two_b (p := 2) (cap := cap) (by omega) (by omega) 2 rfl (hI.below hB))
    have T4 := Lib.hid (fun W (hB : Below w.heap.size w W) => two_b (p := 4) (cap := cap) (by omega) (by omega) 4 rfl (hI.below hB))
    have E1 := Lib.hid (fun (h2 : wat xs 4 < 8) => show faultP 17 xs = 3 by show faultU xs = 3; unfold faultU; rw [if_neg (by omega), if_pos h2])
    have E2 := Lib.hid (fun (h2 : ¬ wat xs 4 < 8) (h3 : len < wat xs 4) => show faultP 17 xs = 2 by show faultU xs = 2; unfold faultU; rw [if_neg (by omega), if_neg h2, if_pos (by omega)])
    have E3 := Lib.hid (fun (h2 : ¬ wat xs 4 < 8) (h3 : ¬ len < wat xs 4) => show faultP 17 xs = 0 by show faultU xs = 0; unfold faultU; rw [if_neg (by omega), if_neg h2, if_neg (by omega)])
    have EN := Lib.hid (fun (h : faultP 17 xs ≠ 0) => rdP_no h)
    have EY := Lib.hid (fun (h : faultP 17 xs = 0) => (rdP_U h).trans (show poU xs = ⟨wat xs 0, wat xs 2, 0, 8, wat xs 4⟩ from rfl))
    generalize rdP 17 xs = PP at *
    generalize faultP 17 xs = F at *
    generalize wat xs 4 = t at *
    generalize wat xs 0 = s at *
    generalize wat xs 2 = d at *
    clear hI hL
    by_cases h2 : t < 8
    · have e := E1.out h2
      have e2 := EN.out (by omega)
      subst e e2
      have h2' : (t : Int) < 8 := by omega
      go_enter Try.func11, Try.ntmps11
      go_wp2_with fail
      rw [HZ.out]
      refine (T4.out _ HB0.out).mono ?_
      rintro e w1 ⟨rfl, hb1⟩
      have HB1 := Lib.hid (HB0.out.trans (hb1.mono HB0.out.size))
      have HR1 := Lib.hid (HR0.out.below HR0.out.lt hb1)
      clear hb1
      go_wp2_with (first
        | ((with_reducible show wpList _ _ _ _ _ _); refine wpList_buildw 25 _ rfl (by rfl) _ (by kernel_rfl) (poL Po.zero).toArray (by kernel_rfl) ?_)
        | ((with_reducible show wpList _ _ _ _ _ _); refine wpList_storeR rfl 25 _ _ rfl w.heap.size (by rfl) (poL Po.zero) (by rfl) _ HR1.out rfl (sizePoL _) (poL_one _) ?_))
      refine bodyPost_ret (v := .tuple #[poC Po.zero, .int .i64 3]) (results_po rfl _ _ w.heap.size (by rfl) _ (HR1.out.setRow_ _) _ (by rfl)) rfl ?_
      exact ⟨rfl, below_setRow HB1.out (Nat.le_refl _) _⟩
    · have h2' : ¬ (t : Int) < 8 := by omega
      by_cases h3 : len < t
      · have e := E2.out h2 h3
        have e2 := EN.out (by omega)
        subst e e2
        have h3' : (len : Int) < (t : Int) := by omega
        go_enter Try.func11, Try.ntmps11
        go_wp2_with fail
        rw [HZ.out]
        refine (T4.out _ HB0.out).mono ?_
        rintro e w1 ⟨rfl, hb1⟩
        have HB1 := Lib.hid (HB0.out.trans (hb1.mono HB0.out.size))
        have HR1 := Lib.hid (HR0.out.below HR0.out.lt hb1)
        clear hb1
        go_wp2_with fail
        refine (T4.out _ HB1.out).mono ?_
        rintro e w2 ⟨rfl, hb2⟩
        have HB2 := Lib.hid (HB1.out.trans (hb2.mono HB1.out.size))
        have HR2 := Lib.hid (HR1.out.below HR1.out.lt hb2)
        clear hb2
        go_wp2_with (first
          | ((with_reducible show wpList _ _ _ _ _ _); refine wpList_buildw 25 _ rfl (by rfl) _ (by kernel_rfl) (poL Po.zero).toArray (by kernel_rfl) ?_)
          | ((with_reducible show wpList _ _ _ _ _ _); refine wpList_storeR rfl 25 _ _ rfl w.heap.size (by rfl) (poL Po.zero) (by rfl) _ HR2.out rfl (sizePoL _) (poL_one _) ?_))
        refine bodyPost_ret (v := .tuple #[poC Po.zero, .int .i64 2]) (results_po rfl _ _ w.heap.size (by rfl) _ (HR2.out.setRow_ _) _ (by rfl)) rfl ?_
        exact ⟨rfl, below_setRow HB2.out (Nat.le_refl _) _⟩
      · have e := E3.out h2 h3
        have e2 := EY.out e
        subst e e2
        have h3' : ¬ (len : Int) < (t : Int) := by omega
        go_enter Try.func11, Try.ntmps11
        go_wp2_with fail
        rw [HZ.out]
        refine (T4.out _ HB0.out).mono ?_
        rintro e w1 ⟨rfl, hb1⟩
        have HB1 := Lib.hid (HB0.out.trans (hb1.mono HB0.out.size))
        have HR1 := Lib.hid (HR0.out.below HR0.out.lt hb1)
        clear hb1
        go_wp2_with fail
        refine (T4.out _ HB1.out).mono ?_
        rintro e w2 ⟨rfl, hb2⟩
        have HB2 := Lib.hid (HB1.out.trans (hb2.mono HB1.out.size))
        have HR2 := Lib.hid (HR1.out.below HR1.out.lt hb2)
        clear hb2
        go_wp2_with fail
        refine (T0.out _ HB2.out).mono ?_
        rintro e w3 ⟨rfl, hb3⟩
        have HB3 := Lib.hid (HB2.out.trans (hb3.mono HB2.out.size))
        have HR3 := Lib.hid (HR2.out.below HR2.out.lt hb3)
        clear hb3
        go_wp2_with fail
        refine (T2.out _ HB3.out).mono ?_
        rintro e w4 ⟨rfl, hb4⟩
        have HB4 := Lib.hid (HB3.out.trans (hb4.mono HB3.out.size))
        have HR4 := Lib.hid (HR3.out.below HR3.out.lt hb4)
        clear hb4
        go_wp2_with fail
        refine (T4.out _ HB4.out).mono ?_
        rintro e w5 ⟨rfl, hb5⟩
        have HB5 := Lib.hid (HB4.out.trans (hb5.mono HB4.out.size))
        have HR5 := Lib.hid (HR4.out.below HR4.out.lt hb5)
        clear hb5
        go_wp2_with (first
          | ((with_reducible show wpList _ _ _ _ _ _); refine wpList_buildw 25 _ rfl (by rfl) _ (by kernel_rfl) (poL ⟨s, d, 0, 8, t⟩).toArray (by kernel_rfl) ?_)
          | ((with_reducible show wpList _ _ _ _ _ _); refine wpList_storeR rfl 25 _ _ rfl w.heap.size (by rfl) (poL ⟨s, d, 0, 8, t⟩) (by rfl) _ HR5.out rfl (sizePoL _) (poL_one _) ?_))
        refine bodyPost_ret (v := .tuple #[poC ⟨s, d, 0, 8, t⟩, .int .i64 0]) (results_po rfl _ _ w.heap.size (by rfl) _ (HR5.out.setRow_ _) _ (by rfl)) rfl ?_
        exact ⟨rfl, below_setRow HB5.out (Nat.le_refl _) _⟩
set_option maxRecDepth 100000 in
set_option maxHeartbeats 1000000 in
theorem rread_T (w : World) (hI : Rd w w.heap.size A len xs) :
    Calls Try.prog 11 #[.int .i64 6, .slice A len cap] w (ReadGave w (rdP 6 xs) (faultP 6 xs)) := by
  have hB0 := (Below.refl w.heap.size w).alloc (Nat.le_refl _) (.cells (poL Po.zero).toArray 25)
  have hR0 := Blk.new w 25 (poL Po.zero)
  obtain ⟨Z, hZ⟩ : ∃ Z : World, w.alloc (.cells (poL Po.zero).toArray 25) = Z := ⟨_, rfl⟩
  rw [hZ] at hB0 hR0
  rw [← zeroP] at hZ
  have HZ := Lib.hid hZ
  have HR0 := Lib.hid hR0
  have HB0 := Lib.hid hB0
  clear hZ hR0 hB0
  have hL := hI.len
  have hle := hlN_le xs
  by_cases h1 : len < 20
  · have E : faultP 6 xs = 2 := by show faultT xs = 2; unfold faultT; rw [if_pos (by omega)]
    rw [rdP_no (by rw [E]; decide), E]
    have h1' : (len : Int) < 20 := by omega
    clear E
    go_enter Try.func11, Try.ntmps11
    go_wp2_with (first
      | ((with_reducible show wpList _ _ _ _ _ _); refine wpList_buildw 25 _ rfl (by rfl) _ (by kernel_rfl) (poL Po.zero).toArray (by kernel_rfl) ?_)
      | ((with_reducible show wpList _ _ _ _ _ _); rw [HZ.out]; refine wpList_storeR rfl 25 _ _ rfl w.heap.size (by rfl) (poL Po.zero) (by rfl) _ HR0.out rfl (sizePoL _) (poL_one _) ?_))
    refine bodyPost_ret (v := .tuple #[poC Po.zero, .int .i64 2]) (results_po rfl _ _ w.heap.size (by rfl) _ (HR0.out.setRow_ _) _ (by rfl)) rfl ?_
    exact ⟨rfl, below_setRow HB0.out (Nat.le_refl _) _⟩
  · have h1' : ¬ (len : Int) < 20 := by omega
    have T0 := Lib.hid (fun W (hB : Below w.heap.size w W) => two_b (p := 0) (cap := cap) (by omega) (by omega) 0 rfl (hI.below hB))
    have T2 := Lib.hid (fun W (hB : Below w.heap.size w W) => two_b (p := 2) (cap := cap) (by omega) (by omega) 2 rfl (hI.below hB))
    obtain ⟨b, off, rfl, _⟩ := hI.addr (by omega)
    have c12 := (hI.below HB0.out).cellD (k := 12) (by omega)
    rw [← HZ.out] at c12
    have HC := Lib.hid (fun W (hB : Below w.heap.size w W) => (hI.below hB).cellD (k := 13) (by omega))
    have hx := batN_lt xs 13
    have hy := batN_lt xs 12
    have hr : ((hlN xs : Nat) : Int) = 4 * ((batN xs 12 : Int) / 16) := by unfold hlN; omega
    have E1 := Lib.hid (fun (h2 : hlN xs < 20) => show faultP 6 xs = 3 by show faultT xs = 3; unfold faultT; rw [if_neg (by omega), if_pos h2])
    have E2 := Lib.hid (fun (h2 : ¬ hlN xs < 20) (h3 : len < hlN xs) => show faultP 6 xs = 2 by show faultT xs = 2; unfold faultT; rw [if_neg (by omega), if_neg h2, if_pos (by omega)])
    have E3 := Lib.hid (fun (h2 : ¬ hlN xs < 20) (h3 : ¬ len < hlN xs) => show faultP 6 xs = 0 by show faultT xs = 0; unfold faultT; rw [if_neg (by omega), if_neg h2, if_neg (by omega)])
    have EN := Lib.hid (fun (h : faultP 6 xs ≠ 0) => rdP_no h)
    have EY := Lib.hid (fun (h : faultP 6 xs = 0) => (rdP_T h).trans (show poT xs = ⟨wat xs 0, wat xs 2, batN xs 13 % 64, hlN xs, len⟩ by unfold poT; rw [hL]))
    generalize rdP 6 xs = PP at *
    generalize faultP 6 xs = F at *
    generalize hlN xs = r at *
    generalize wat xs 0 = s at *
    generalize wat xs 2 = d at *
    generalize batN xs 13 = x at *
    generalize batN xs 12 = y at *
    have l12 : (12 : Int) < (len : Int) := by omega
    have l13 : (13 : Int) < (len : Int) := by omega
    have hwr : IntKind.i64.wrap (4 * ((y : Int) / 16)) = (r : Int) := by rw [IntKind.wrap_i64]; omega
    have hwy : IntKind.i64.wrap ((y : Int) / 16) = (y : Int) / 16 := by rw [IntKind.wrap_i64]; omega
    have hwx : IntKind.i64.wrap ((x : Int) % 64) = (x : Int) % 64 := by rw [IntKind.wrap_i64]; omega
    have htm : Int.tmod (x : Int) 64 = (x : Int) % 64 := Int.tmod_eq_emod_of_nonneg (by omega)
    clear hI hL hr
    by_cases h2 : r < 20
    · have e := E1.out h2
      have e2 := EN.out (by omega)
      subst e e2
      have h2' : (r : Int) < 20 := by omega
      go_enter Try.func11, Try.ntmps11
      go_wp2_with (first
        | ((with_reducible show wpList _ _ _ _ _ _); refine wpList_buildw 25 _ rfl (by rfl) _ (by kernel_rfl) (poL Po.zero).toArray (by kernel_rfl) ?_)
        | ((with_reducible show wpList _ _ _ _ _ _); rw [HZ.out]; refine wpList_storeR rfl 25 _ _ rfl w.heap.size (by rfl) (poL Po.zero) (by rfl) _ HR0.out rfl (sizePoL _) (poL_one _) ?_))
      refine bodyPost_ret (v := .tuple #[poC Po.zero, .int .i64 3]) (results_po rfl _ _ w.heap.size (by rfl) _ (HR0.out.setRow_ _) _ (by rfl)) rfl ?_
      exact ⟨rfl, below_setRow HB0.out (Nat.le_refl _) _⟩
    · have h2' : ¬ (r : Int) < 20 := by omega
      by_cases h3 : len < r
      · have e := E2.out h2 h3
        have e2 := EN.out (by omega)
        subst e e2
        have h3' : (len : Int) < (r : Int) := by omega
        go_enter Try.func11, Try.ntmps11
        go_wp2_with (first
          | ((with_reducible show wpList _ _ _ _ _ _); refine wpList_buildw 25 _ rfl (by rfl) _ (by kernel_rfl) (poL Po.zero).toArray (by kernel_rfl) ?_)
          | ((with_reducible show wpList _ _ _ _ _ _); rw [HZ.out]; refine wpList_storeR rfl 25 _ _ rfl w.heap.size (by rfl) (poL Po.zero) (by rfl) _ HR0.out rfl (sizePoL _) (poL_one _) ?_))
        refine bodyPost_ret (v := .tuple #[poC Po.zero, .int .i64 2]) (results_po rfl _ _ w.heap.size (by rfl) _ (HR0.out.setRow_ _) _ (by rfl)) rfl ?_
        exact ⟨rfl, below_setRow HB0.out (Nat.le_refl _) _⟩
      · have e := E3.out h2 h3
        have e2 := EY.out e
        subst e e2
        have h3' : ¬ (len : Int) < (r : Int) := by omega
        go_enter Try.func11, Try.ntmps11
        go_wp2_with fail
        rw [HZ.out]
        refine wp_region_held_drew (S := fun W => Below w.heap.size w W) (by kernel_rfl) (HB0.out.drew) (fun hHeld => ?_)
        refine wpAnyH_take (i := 0) (oi := ⟨some 27, _, _, _, _, _⟩) (v := .slice (some ⟨b, off, none⟩) len cap) rfl (by kernel_rfl) (by kernel_rfl) (by kernel_rfl) (fun _ _ _ h => h) (Or.inl ⟨by rfl, fun _ _ => by go_simp⟩) hHeld ?_
        simp only [Act.put, List.setIfInBounds_toArray, List.set_cons_zero, List.set_cons_succ]
        refine wpAnyH_take (i := 2) (oi := ⟨some 29, _, _, _, _, _⟩) (v := .slice (some ⟨b, off, none⟩) len cap) rfl (by kernel_rfl) (by kernel_rfl) (by kernel_rfl) (fun _ _ _ h => h) (Or.inl ⟨by rfl, fun _ _ => by go_simp⟩) hHeld ?_
        simp only [Act.put, List.setIfInBounds_toArray, List.set_cons_zero, List.set_cons_succ]
        refine wpAnyH_take (i := 4) (oi := ⟨some 31, _, _, _, _, _⟩) (v := .slice (some ⟨b, off, none⟩) len cap) rfl (by kernel_rfl) (by kernel_rfl) (by kernel_rfl) (fun _ _ _ h => h) (Or.inl ⟨by rfl, fun _ _ => by go_simp⟩) hHeld ?_
        simp only [Act.put, List.setIfInBounds_toArray, List.set_cons_zero, List.set_cons_succ]
        refine wpAnyH_take (i := 5) (oi := ⟨some 32, _, _, _, _, _⟩) (v := .pointer (some ⟨b, off + 13, none⟩)) rfl (by kernel_rfl) (by kernel_rfl) (by kernel_rfl) (fun _ _ _ h => h) (Or.inl ⟨by rfl, fun _ _ => by go_simp⟩) hHeld ?_
        simp only [Act.put, List.setIfInBounds_toArray, List.set_cons_zero, List.set_cons_succ]
        refine wpAnyH_take (i := 6) (oi := ⟨some 33, _, _, _, _, _⟩) (v := .int .u8 (x : Int)) rfl (by kernel_rfl) (by kernel_rfl) (by kernel_rfl) (fun _ _ _ h => h) (Or.inl ⟨by rfl, fun W hW => by have hc := HC.out W hW; go_simp⟩) hHeld ?_
        simp only [Act.put, List.setIfInBounds_toArray, List.set_cons_zero, List.set_cons_succ]
        refine wpAnyH_take (i := 7) (oi := ⟨some 34, _, _, _, _, _⟩) (v := .int .u8 ((x : Int) % 64)) rfl (by kernel_rfl) (by kernel_rfl) (by kernel_rfl) (fun _ _ _ h => h) (Or.inl ⟨by rfl, fun _ _ => by go_simp⟩) hHeld ?_
        simp only [Act.put, List.setIfInBounds_toArray, List.set_cons_zero, List.set_cons_succ]
        refine wpAnyH_take (i := 8) (oi := ⟨some 35, _, _, _, _, _⟩) (v := .int .i64 ((x : Int) % 64)) rfl (by kernel_rfl) (by kernel_rfl) (by kernel_rfl) (fun _ _ _ h => h) (Or.inl ⟨by rfl, fun _ _ => by go_simp⟩) hHeld ?_
        simp only [Act.put, List.setIfInBounds_toArray, List.set_cons_zero, List.set_cons_succ]
        refine wpAnyH_take (i := 9) (oi := ⟨some 36, _, _, _, _, _⟩) (v := .int .i64 (r : Int)) rfl (by kernel_rfl) (by kernel_rfl) (by kernel_rfl) (fun _ _ _ h => h) (Or.inl ⟨by rfl, fun _ _ => by go_simp⟩) hHeld ?_
        simp only [Act.put, List.setIfInBounds_toArray, List.set_cons_zero, List.set_cons_succ]
        refine wpAnyH_take (i := 10) (oi := ⟨some 37, _, _, _, _, _⟩) (v := .slice (some ⟨b, off, none⟩) len cap) rfl (by kernel_rfl) (by kernel_rfl) (by kernel_rfl) (fun _ _ _ h => h) (Or.inl ⟨by rfl, fun _ _ => by go_simp⟩) hHeld ?_
        simp only [Act.put, List.setIfInBounds_toArray, List.set_cons_zero, List.set_cons_succ]
        refine wpAnyH_take (i := 11) (oi := ⟨some 38, _, _, _, _, _⟩) (v := .int .i64 (len : Int)) rfl (by kernel_rfl) (by kernel_rfl) (by kernel_rfl) (fun _ _ _ h => h) (Or.inl ⟨by rfl, fun _ _ => by go_simp⟩) hHeld ?_
        simp only [Act.put, List.setIfInBounds_toArray, List.set_cons_zero, List.set_cons_succ]
        have HR1 : Hid (Blk Z.drew 25 w.heap.size (poL Po.zero)) := Lib.hid HR0.out
        clear HR0
        refine wpAnyH_ready (rs := [1]) (by kernel_rfl) (by simp) (AllReadyH.cons (o := ⟨some 28, _, _, _, _, _⟩) rfl (fun K hK => ?_) AllReadyH.nil)
        go_simp
        refine (T0.out _ hHeld).mono ?_
        rintro e w2 ⟨rfl, hb2⟩
        have HR2 := Lib.hid (HR1.out.below HR1.out.lt hb2)
        refine hK.out _ _ (hHeld.trans (hb2.mono hHeld.size)) (fun hHeld => ?_)
        clear hK K hb2 HR1
        refine wpAnyH_ready (rs := [3]) (by kernel_rfl) (by simp) (AllReadyH.cons (o := ⟨some 30, _, _, _, _, _⟩) rfl (fun K hK => ?_) AllReadyH.nil)
        go_simp
        refine (T2.out _ hHeld).mono ?_
        rintro e w3 ⟨rfl, hb3⟩
        have HR3 := Lib.hid (HR2.out.below HR2.out.lt hb3)
        refine hK.out _ _ (hHeld.trans (hb3.mono hHeld.size)) (fun hHeld => ?_)
        clear hK K hb3 HR2
        refine wpAnyH_take (i := 12) (oi := ⟨some 39, _, _, _, _, _⟩) (v := .agg (poL ⟨s, d, x % 64, r, len⟩).toArray) rfl (by kernel_rfl) (by kernel_rfl) (by kernel_rfl) (fun _ _ _ h => h) (yields_build (by rfl) 25 _ rfl [(0, .int .i64 (s : Int)), (1, .int .i64 (d : Int)), (2, .int .i64 ((x : Int) % 64)), (3, .int .i64 (r : Int)), (4, .int .i64 (len : Int))] (by kernel_rfl) _ (by kernel_rfl)) hHeld ?_
        simp only [Act.put, List.setIfInBounds_toArray, List.set_cons_zero, List.set_cons_succ]
        refine wpAnyH_ready (rs := [13]) (by kernel_rfl) (by simp) (AllReadyH.cons (o := ⟨none, _, _, _, _, _⟩) rfl (fun K hK => ?_) AllReadyH.nil)
        refine step_storeR rfl 25 _ _ rfl w.heap.size (by rfl) (poL ⟨s, d, x % 64, r, len⟩) (by rfl) _ HR3.out rfl (sizePoL _) (poL_one _) ?_
        have hR9 := Lib.hid (HR3.out.setRow_ (poL ⟨s, d, x % 64, r, len⟩))
        refine hK.out _ _ (below_setRow hHeld (Nat.le_refl _) _) (fun hHeld => ?_)
        clear hK K HR3
        refine wpAnyH_take (i := 14) (oi := ⟨some 5, _, _, _, _, _⟩) (v := .int .i64 0) rfl (by kernel_rfl) (by kernel_rfl) (by kernel_rfl) (fun _ _ _ h => h) (Or.inl ⟨by rfl, fun _ _ => by go_simp⟩) hHeld ?_
        simp only [Act.put, List.setIfInBounds_toArray, List.set_cons_zero, List.set_cons_succ]
        refine wpAnyH_done (by kernel_rfl) ?_ _
        go_wp2_with fail
        refine bodyPost_ret (v := .tuple #[poC ⟨s, d, x % 64, r, len⟩, .int .i64 0]) (results_po rfl _ _ w.heap.size (by rfl) _ hR9.out _ (by rfl)) rfl ?_
        exact ⟨rfl, hHeld⟩
/-- The document's Read. -/
theorem rread_any (n : Int) (w : World) (hI : Rd w w.heap.size A len xs) :
    Calls Try.prog 11 #[.int .i64 n, .slice A len cap] w (ReadGave w (rdP n xs) (faultP n xs)) := by
  by_cases h6 : n = 6
  · subst h6; exact rread_T w hI
  · by_cases h17 : n = 17
    · subst h17; exact rread_U w hI
    · exact rread_N w n h6 h17
end
end Go.Proofs.Ytgjjepcjdekihaa
