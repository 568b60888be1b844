/-
  The document's Read.
-/
import Derived.Test.YtkdliadigalgaaaFRead
import Derived.Test.YtkdliadigalgaaaFRAddr
import Derived.Test.YtkdliadigalgaaaFRef
namespace Go.Proofs.Ytkdliadigalgaaa
open Go.RowKit Go.Lib

theorem wat2 (xs : List UInt8) : wat xs 2 = 256 * batN xs 2 + batN xs 3 := rfl
theorem wat4 (xs : List UInt8) : wat xs 4 = 256 * batN xs 4 + batN xs 5 := rfl
theorem wat6 (xs : List UInt8) : wat xs 6 = 256 * batN xs 6 + batN xs 7 := rfl
theorem wat_frag (xs : List UInt8) : decide (wat xs 6 % 16384 ≠ 0) = (decide (batN xs 6 % 64 ≠ 0) || decide (batN xs 7 ≠ 0)) := by
  have h1 := batN_lt xs 6
  have h2 := batN_lt xs 7
  rw [wat6]
  apply Bool.eq_iff_iff.2
  rw [Bool.or_eq_true, decide_eq_true_eq, decide_eq_true_eq, decide_eq_true_eq]
  omega
theorem wat_keep (xs : List UInt8) : decide (wat xs 6 / 16384 % 2 ≠ 0) = decide (batN xs 6 / 64 % 2 = 1) := by
  have h1 := batN_lt xs 6
  have h2 := batN_lt xs 7
  rw [wat6]
  apply Bool.eq_iff_iff.2
  rw [decide_eq_true_eq, decide_eq_true_eq]
  omega
set_option maxRecDepth 100000 in
set_option maxHeartbeats 2000000 in
theorem rread_any (A : Option Addr) (len cap : Nat) (xs : List UInt8) (hlen : len ≤ 100000) (hcap : len ≤ cap) (w : World) (hI : Rd w w.heap.size A len xs) :
    Calls Try.prog 11 #[.slice A len cap] w (ReadGave w (rdF xs) (faultN xs)) := by
  have HL := Lib.hid hI.len
  obtain ⟨Z, hZ⟩ : ∃ Z : World, w.alloc (.cells (frL Fr.zero).toArray 28) = Z := ⟨_, rfl⟩
  have hR0 : Blk Z 28 w.heap.size (frL Fr.zero) := by rw [← hZ]; exact Blk.new w _ _
  have hB0 : Below w.heap.size w Z := by rw [← hZ]; exact (Below.refl w.heap.size w).alloc (Nat.le_refl _) _
  rw [← zeroF] at hZ
  have HZ := Lib.hid hZ
  have HI0 := Lib.hid (hI.below hB0)
  have HR0 := Lib.hid hR0
  have HB0 := Lib.hid hB0
  have HZO := Lib.hid Fr.ok_zero
  clear hZ hI hR0 hB0
  by_cases h20 : 20 ≤ len
  · have h20' : ¬ (len : Int) < 20 := by omega
    obtain ⟨b, off, rfl, _⟩ := HI0.out.addr (by omega)
    have c0 := HI0.out.cellD (k := 0) (by omega)
    have c2 := HI0.out.cellD (k := 2) (by omega)
    have c3 := HI0.out.cellD (k := 3) (by omega)
    rw [Nat.add_zero] at c0
    rw [← HZ.out] at c0 c2 c3
    have hx0 := batN_lt xs 0
    have hx2 := batN_lt xs 2
    have hx3 := batN_lt xs 3
    have hih : ((ihl xs : Nat) : Int) = (batN xs 0 : Int) % 16 * 4 := by unfold ihl; omega
    have hn2 : ((wat xs 2 : Nat) : Int) = 256 * (batN xs 2 : Int) + (batN xs 3 : Int) := by have := wat2 xs; have := wat4 xs; omega
    have hihl := ihl_le xs
    have F1 := Lib.hid (fun (h : batN xs 0 / 16 ≠ 4 ∨ ihl xs < 20) => fault_form (xs := xs) (by rw [HL.out]; exact h20) h)
    have F2 := Lib.hid (fun h1 h2 (h3 : len < ihl xs) => fault_head (xs := xs) (by rw [HL.out]; exact h20) h1 h2 (by rw [HL.out]; exact h3))
    have F3 := Lib.hid (fun h1 h2 (h3 : ihl xs ≤ len) h4 => fault_less (xs := xs) (by rw [HL.out]; exact h20) h1 h2 (by rw [HL.out]; exact h3) h4)
    have F4 := Lib.hid (fun h1 h2 (h3 : ihl xs ≤ len) h4 (h5 : len < wat xs 2) => fault_more (xs := xs) (by rw [HL.out]; exact h20) h1 h2 (by rw [HL.out]; exact h3) h4 (by rw [HL.out]; exact h5))
    have F5 := Lib.hid (fun h1 h2 (h3 : ihl xs ≤ len) h4 (h5 : wat xs 2 ≤ len) h6 => fault_sum (xs := xs) (by rw [HL.out]; exact h20) h1 h2 (by rw [HL.out]; exact h3) h4 (by rw [HL.out]; exact h5) h6)
    have F6 := Lib.hid (fun h1 h2 (h3 : ihl xs ≤ len) h4 (h5 : wat xs 2 ≤ len) h6 => fault_no (xs := xs) (by rw [HL.out]; exact h20) h1 h2 (by rw [HL.out]; exact h3) h4 (by rw [HL.out]; exact h5) h6)
    have HT := Lib.hid (fun (h3 : ihl xs ≤ len) => HI0.out.take h3)
    have HP := Lib.hid (fun (h : faultN xs ≠ 0) => rdF_no h)
    have HP0 := Lib.hid (fun (h : faultN xs = 0) => rdF_yes h)
    have hOK := frOf_ok xs (by rw [HL.out]; exact h20)
    have hBU := built_at (ihl xs : Nat) (wat xs 2 : Nat) (batN xs 1 : Nat) (wat xs 4 : Nat) (decide (wat xs 6 % 16384 ≠ 0)) (decide (wat xs 6 / 16384 % 2 ≠ 0)) (batN xs 8 : Nat) (batN xs 9 : Nat) (adOf xs 12) (adOf xs 16) hOK.s hOK.d
    rw [show (⟨(ihl xs : Nat), (wat xs 2 : Nat), (batN xs 1 : Nat), (wat xs 4 : Nat), decide (wat xs 6 % 16384 ≠ 0), decide (wat xs 6 / 16384 % 2 ≠ 0), (batN xs 8 : Nat), (batN xs 9 : Nat), adOf xs 12, adOf xs 16⟩ : Fr) = frOf xs from rfl] at hBU
    rw [wat_frag, wat_keep, show ((wat xs 4 : Nat) : Int) = 256 * (batN xs 4 : Int) + (batN xs 5 : Int) by have := wat2 xs; have := wat4 xs; omega] at hBU
    have HBU := Lib.hid hBU
    have HOK := Lib.hid hOK
    clear hBU hOK
    have X1 := batN_lt xs 1
    have X4 := batN_lt xs 4
    have X5 := batN_lt xs 5
    have X6 := batN_lt xs 6
    have X7 := batN_lt xs 7
    have X8 := batN_lt xs 8
    have X9 := batN_lt xs 9
    have C1 := Lib.hid (fun W (hW : Below w.heap.size Z W) => (HI0.out.below hW).cellD (k := 1) (by omega))
    have C4 := Lib.hid (fun W (hW : Below w.heap.size Z W) => (HI0.out.below hW).cellD (k := 4) (by omega))
    have C5 := Lib.hid (fun W (hW : Below w.heap.size Z W) => (HI0.out.below hW).cellD (k := 5) (by omega))
    have C6 := Lib.hid (fun W (hW : Below w.heap.size Z W) => (HI0.out.below hW).cellD (k := 6) (by omega))
    have C7 := Lib.hid (fun W (hW : Below w.heap.size Z W) => (HI0.out.below hW).cellD (k := 7) (by omega))
    have C8 := Lib.hid (fun W (hW : Below w.heap.size Z W) => (HI0.out.below hW).cellD (k := 8) (by omega))
    have C9 := Lib.hid (fun W (hW : Below w.heap.size Z W) => (HI0.out.below hW).cellD (k := 9) (by omega))
    have HA12 := Lib.hid (fun W (hW : Below w.heap.size Z W) => raddr_any (p := 12) (cap := cap) 12 rfl (by omega) (by omega) (Nat.le_trans HB0.out.size hW.size) (HI0.out.below hW))
    have HA16 := Lib.hid (fun W (hW : Below w.heap.size Z W) => raddr_any (p := 16) (cap := cap) 16 rfl (by omega) (by omega) (Nat.le_trans HB0.out.size hW.size) (HI0.out.below hW))
    generalize frOf xs = f at *
    generalize rdF xs = R at *
    generalize adOf xs 12 = a12 at *
    generalize adOf xs 16 = a16 at *
    generalize wat xs 2 = n2 at *
    generalize ihl xs = ih at *
    generalize faultN xs = F at *
    generalize batN xs 0 = x0 at *
    generalize batN xs 1 = x1 at *
    generalize batN xs 2 = x2 at *
    generalize batN xs 3 = x3 at *
    generalize batN xs 4 = x4 at *
    generalize batN xs 5 = x5 at *
    generalize batN xs 6 = x6 at *
    generalize batN xs 7 = x7 at *
    generalize batN xs 8 = x8 at *
    generalize batN xs 9 = x9 at *
    have H_ih := Lib.hid hih
    have H_n2 := Lib.hid hn2
    clear hih hn2
    have r1 : IntKind.i64.wrap ((x0 : Int) % 16) = (x0 : Int) % 16 := by rw [IntKind.wrap_i64]; omega
    have r2 : IntKind.i64.wrap ((x0 : Int) % 16 * 4) = (x0 : Int) % 16 * 4 := by rw [IntKind.wrap_i64]; omega
    have r3 : IntKind.i64.wrap (x2 : Int) = (x2 : Int) := by rw [IntKind.wrap_i64]; omega
    have r4 : IntKind.i64.wrap (x3 : Int) = (x3 : Int) := by rw [IntKind.wrap_i64]; omega
    have r5 : IntKind.i64.wrap (256 * (x2 : Int)) = 256 * (x2 : Int) := by rw [IntKind.wrap_i64]; omega
    have r6 : IntKind.i64.wrap (256 * (x2 : Int) + (x3 : Int)) = 256 * (x2 : Int) + (x3 : Int) := by rw [IntKind.wrap_i64]; omega
    have l0 : (0 : Int) < (len : Int) := by omega
    have l2 : (2 : Int) < (len : Int) := by omega
    have l3 : (3 : Int) < (len : Int) := by omega
    by_cases hv : x0 / 16 = 4
    · have v1 : ((x0 : Int) / 16 != 4) = false := by simp; omega
      have hv' := Lib.hid hv
      clear hv
      by_cases hh : ih < 20
      · have hh' : (x0 : Int) % 16 * 4 < 20 := by have := H_ih.out; omega
        have hF := F1.out (.inr hh)
        have hR := HP.out (by omega)
        subst hF hR
        go_enter Try.func11, Try.ntmps11
        go_wp2_with (first
          | ((with_reducible show wpList _ _ _ _ _ _); refine wpList_buildTo rfl 28 _ rfl (some 25) rfl (frL Fr.zero).toArray (by kernel_rfl) ?_)
          | ((with_reducible show wpList _ _ _ _ _ _); rw [HZ.out]; refine wpList_storeR rfl 28 _ _ rfl w.heap.size (by rfl) (frL Fr.zero) (by rfl) _ HR0.out rfl (sizeFrL HZO.out) (frL_one _) ?_))
        refine bodyPost_ret (v := .tuple #[frC Fr.zero, .int .i64 3]) (results_fr rfl _ _ w.heap.size (by rfl) _ HZO.out (HR0.out.setRow_ _) _ (by rfl)) rfl ?_
        exact ⟨rfl, below_setRow HB0.out (Nat.le_refl _) _⟩
      · have hh' : ¬ (x0 : Int) % 16 * 4 < 20 := by have := H_ih.out; omega
        by_cases h3 : len < ih
        · have h3' : (len : Int) < (x0 : Int) % 16 * 4 := by have := H_ih.out; omega
          have hF := F2.out hv'.out (by omega) h3
          have hR := HP.out (by omega)
          subst hF hR
          go_enter Try.func11, Try.ntmps11
          go_wp2_with (first
            | ((with_reducible show wpList _ _ _ _ _ _); refine wpList_buildTo rfl 28 _ rfl (some 30) rfl (frL Fr.zero).toArray (by kernel_rfl) ?_)
            | ((with_reducible show wpList _ _ _ _ _ _); rw [HZ.out]; refine wpList_storeR rfl 28 _ _ rfl w.heap.size (by rfl) (frL Fr.zero) (by rfl) _ HR0.out rfl (sizeFrL HZO.out) (frL_one _) ?_))
          refine bodyPost_ret (v := .tuple #[frC Fr.zero, .int .i64 2]) (results_fr rfl _ _ w.heap.size (by rfl) _ HZO.out (HR0.out.setRow_ _) _ (by rfl)) rfl ?_
          exact ⟨rfl, below_setRow HB0.out (Nat.le_refl _) _⟩
        · have h3' : ¬ (len : Int) < (x0 : Int) % 16 * 4 := by have := H_ih.out; omega
          go_enter Try.func11, Try.ntmps11
          go_wp2_with fail
          rw [HZ.out]
          rw [HZ.out] at c0 c2 c3
          go_quiet (fail)
          rename_i nq
          have HI1 := Lib.hid (show Rd (Z.drewN nq) w.heap.size (some ⟨b, off, none⟩) len xs from HI0.out)
          have HR1 := Lib.hid (show Blk (Z.drewN nq) 28 w.heap.size (frL Fr.zero) from HR0.out)
          have HB1 := Lib.hid (below_drewN HB0.out nq)
          have HBZ := Lib.hid (below_drewN (Below.refl w.heap.size Z) nq)
          rw [← H_ih.out, ← H_n2.out]
          clear c0 c2 c3 r1 r2 r3 r4 r5 r6 h3' hh'
          by_cases h4 : n2 < ih
          · have h4' : (n2 : Int) < (ih : Int) := by omega
            have hF := F3.out hv'.out (by omega) (by omega) h4
            have hR := HP.out (by omega)
            subst hF hR
            go_wp2_with (first
              | ((with_reducible show wpList _ _ _ _ _ _); refine wpList_buildTo rfl 28 _ rfl (some 44) rfl (frL Fr.zero).toArray (by kernel_rfl) ?_)
              | ((with_reducible show wpList _ _ _ _ _ _); refine wpList_storeR rfl 28 _ _ rfl w.heap.size (by rfl) (frL Fr.zero) (by rfl) _ HR1.out rfl (sizeFrL HZO.out) (frL_one _) ?_))
            refine bodyPost_ret (v := .tuple #[frC Fr.zero, .int .i64 3]) (results_fr rfl _ _ w.heap.size (by rfl) _ HZO.out (HR1.out.setRow_ _) _ (by rfl)) rfl ?_
            exact ⟨rfl, below_setRow HB1.out (Nat.le_refl _) _⟩
          · have h4' : ¬ (n2 : Int) < (ih : Int) := by omega
            by_cases h5 : len < n2
            · have h5' : (len : Int) < (n2 : Int) := by omega
              have hF := F4.out hv'.out (by omega) (by omega) (by omega) h5
              have hR := HP.out (by omega)
              subst hF hR
              go_wp2_with (first
                | ((with_reducible show wpList _ _ _ _ _ _); refine wpList_buildTo rfl 28 _ rfl (some 49) rfl (frL Fr.zero).toArray (by kernel_rfl) ?_)
                | ((with_reducible show wpList _ _ _ _ _ _); refine wpList_storeR rfl 28 _ _ rfl w.heap.size (by rfl) (frL Fr.zero) (by rfl) _ HR1.out rfl (sizeFrL HZO.out) (frL_one _) ?_))
              refine bodyPost_ret (v := .tuple #[frC Fr.zero, .int .i64 2]) (results_fr rfl _ _ w.heap.size (by rfl) _ HZO.out (HR1.out.setRow_ _) _ (by rfl)) rfl ?_
              exact ⟨rfl, below_setRow HB1.out (Nat.le_refl _) _⟩
            · have h5' : ¬ (len : Int) < (n2 : Int) := by omega
              have hr := (HT.out (by omega)).below HBZ.out
              have hcut := run_upto8 (some ⟨b, off, none⟩) len cap ih (ih : Int) rfl (by omega)
              have HS := Lib.hid (rsum_any (some ⟨b, off, none⟩) ih cap (xs.take ih) (by omega) _ hr HB1.out.size)
              by_cases h6 : ckOf (xs.take ih) = 0
              · have hF := F6.out hv'.out (by omega) (by omega) (by omega) (by omega) h6
                have hR := (HP0.out hF).symm
                subst hF hR
                rw [h6] at HS
                clear h6 hr
                go_wp2_with fail
                refine HS.out.mono ?_
                rintro e w1 ⟨rfl, hb1⟩
                have HR2 := Lib.hid (HR1.out.below HR1.out.lt hb1)
                have HB2 := Lib.hid (HB1.out.trans (hb1.mono HB1.out.size))
                have HBZ2 := Lib.hid (HBZ.out.trans (hb1.mono HB1.out.size))
                clear hb1 HR1 HB1 HS HI1
                have HR1 := HR2
                have HB1 := HB2
                clear HR2 HB2
                have l1 : (1 : Int) < (len : Int) := by omega
                have l4 : (4 : Int) < (len : Int) := by omega
                have l5 : (5 : Int) < (len : Int) := by omega
                have l6 : (6 : Int) < (len : Int) := by omega
                have l7 : (7 : Int) < (len : Int) := by omega
                have l8 : (8 : Int) < (len : Int) := by omega
                have l9 : (9 : Int) < (len : Int) := by omega
                have s1 : IntKind.i64.wrap (x1 : Int) = (x1 : Int) := by rw [IntKind.wrap_i64]; omega
                have s4 : IntKind.i64.wrap (x4 : Int) = (x4 : Int) := by rw [IntKind.wrap_i64]; omega
                have s5 : IntKind.i64.wrap (x5 : Int) = (x5 : Int) := by rw [IntKind.wrap_i64]; omega
                have s8 : IntKind.i64.wrap (x8 : Int) = (x8 : Int) := by rw [IntKind.wrap_i64]; omega
                have s9 : IntKind.i64.wrap (x9 : Int) = (x9 : Int) := by rw [IntKind.wrap_i64]; omega
                have s45 : IntKind.i64.wrap (256 * (x4 : Int)) = 256 * (x4 : Int) := by rw [IntKind.wrap_i64]; omega
                have s46 : IntKind.i64.wrap (256 * (x4 : Int) + (x5 : Int)) = 256 * (x4 : Int) + (x5 : Int) := by rw [IntKind.wrap_i64]; omega
                have D1 := Lib.hid (fun W (hW : Below w.heap.size w1 W) => C1.out W (HBZ2.out.trans hW))
                have D4 := Lib.hid (fun W (hW : Below w.heap.size w1 W) => C4.out W (HBZ2.out.trans hW))
                have D5 := Lib.hid (fun W (hW : Below w.heap.size w1 W) => C5.out W (HBZ2.out.trans hW))
                have D6 := Lib.hid (fun W (hW : Below w.heap.size w1 W) => C6.out W (HBZ2.out.trans hW))
                have D7 := Lib.hid (fun W (hW : Below w.heap.size w1 W) => C7.out W (HBZ2.out.trans hW))
                have D8 := Lib.hid (fun W (hW : Below w.heap.size w1 W) => C8.out W (HBZ2.out.trans hW))
                have D9 := Lib.hid (fun W (hW : Below w.heap.size w1 W) => C9.out W (HBZ2.out.trans hW))
                have E12 := Lib.hid (fun W (hW : Below w.heap.size w1 W) => HA12.out W (HBZ2.out.trans hW))
                have E16 := Lib.hid (fun W (hW : Below w.heap.size w1 W) => HA16.out W (HBZ2.out.trans hW))
                clear C1 C4 C5 C6 C7 C8 C9 HA12 HA16
                obtain ⟨ke, hke⟩ : ∃ ke, decide (x6 / 64 % 2 = 1) = ke := ⟨_, rfl⟩
                have k1 : (((x6 : Int) / 64 % 2) == 1) = ke := by
                  rw [← hke]
                  apply Bool.eq_iff_iff.2
                  rw [beq_iff_eq, decide_eq_true_eq]
                  omega
                rw [hke] at HBU
                have t6 : IntKind.u8.wrap ((x6 : Int) / 64) = (x6 : Int) / 64 := by rw [IntKind.wrap_u8]; omega
                have t62 : IntKind.u8.wrap ((x6 : Int) / 64 % 2) = (x6 : Int) / 64 % 2 := by rw [IntKind.wrap_u8]; omega
                have t64 : IntKind.u8.wrap ((x6 : Int) % 64) = (x6 : Int) % 64 := by rw [IntKind.wrap_u8]; omega
                have m64 : ((x6 : Int)).tmod 64 = (x6 : Int) % 64 := Int.tmod_eq_emod_of_nonneg (by omega)
                have m62 : ((x6 : Int) / 64).tmod 2 = (x6 : Int) / 64 % 2 := Int.tmod_eq_emod_of_nonneg (by omega)
                clear hke
                go_wp2_with fail
                by_cases h64 : x6 % 64 = 0
                · obtain ⟨fr, hfr⟩ : ∃ fr, decide (x7 ≠ 0) = fr := ⟨_, rfl⟩
                  have k2 : ((x7 : Int) != 0) = fr := by
                    rw [← hfr]
                    apply Bool.eq_iff_iff.2
                    simp
                  have k3 : ((x6 : Int) % 64 != 0) = false := by simp; omega
                  rw [hfr, show decide (x6 % 64 ≠ 0) = false by simp [h64], Bool.false_or] at HBU
                  clear hfr h64
                  refine wp_region_held_drew (S := fun W => Below w.heap.size w1 W) (by kernel_rfl) (Below.refl _ _).drew (fun hHeld => ?_)
                  refine wpAnyH_take (i := 0) (oi := ⟨some 56, _, _, _, _, _⟩) (v := .int .i64 (ih : Int)) rfl (by kernel_rfl) (by kernel_rfl) (by kernel_rfl) (fun _ _ _ h => h) (Or.inl ⟨by rfl, fun _ _ => by go_simp⟩) hHeld ?_
                  simp only [Act.put, List.setIfInBounds_toArray, List.set_cons_zero, List.set_cons_succ]
                  refine wpAnyH_take (i := 1) (oi := ⟨some 57, _, _, _, _, _⟩) (v := .int .i64 (n2 : Int)) rfl (by kernel_rfl) (by kernel_rfl) (by kernel_rfl) (fun _ _ _ h => h) (Or.inl ⟨by rfl, fun _ _ => by go_simp⟩) hHeld ?_
                  simp only [Act.put, List.setIfInBounds_toArray, List.set_cons_zero, List.set_cons_succ]
                  refine wpAnyH_take (i := 2) (oi := ⟨some 58, _, _, _, _, _⟩) (v := .slice (some ⟨b, off, none⟩) len cap) rfl (by kernel_rfl) (by kernel_rfl) (by kernel_rfl) (fun _ _ _ h => h) (Or.inl ⟨by rfl, fun _ _ => by go_simp⟩) hHeld ?_
                  simp only [Act.put, List.setIfInBounds_toArray, List.set_cons_zero, List.set_cons_succ]
                  refine wpAnyH_take (i := 3) (oi := ⟨some 59, _, _, _, _, _⟩) (v := .pointer (some ⟨b, off + 1, none⟩)) rfl (by kernel_rfl) (by kernel_rfl) (by kernel_rfl) (fun _ _ _ h => h) (Or.inl ⟨by rfl, fun _ _ => by go_simp⟩) hHeld ?_
                  simp only [Act.put, List.setIfInBounds_toArray, List.set_cons_zero, List.set_cons_succ]
                  refine wpAnyH_take (i := 4) (oi := ⟨some 60, _, _, _, _, _⟩) (v := .int .u8 (x1 : Int)) rfl (by kernel_rfl) (by kernel_rfl) (by kernel_rfl) (fun _ _ _ h => h) (Or.inl ⟨by rfl, fun W hW => by have hc := D1.out W hW; go_simp⟩) hHeld ?_
                  simp only [Act.put, List.setIfInBounds_toArray, List.set_cons_zero, List.set_cons_succ]
                  refine wpAnyH_take (i := 5) (oi := ⟨some 61, _, _, _, _, _⟩) (v := .int .i64 (x1 : Int)) rfl (by kernel_rfl) (by kernel_rfl) (by kernel_rfl) (fun _ _ _ h => h) (Or.inl ⟨by rfl, fun _ _ => by go_simp⟩) hHeld ?_
                  simp only [Act.put, List.setIfInBounds_toArray, List.set_cons_zero, List.set_cons_succ]
                  refine wpAnyH_take (i := 6) (oi := ⟨some 62, _, _, _, _, _⟩) (v := .slice (some ⟨b, off, none⟩) len cap) rfl (by kernel_rfl) (by kernel_rfl) (by kernel_rfl) (fun _ _ _ h => h) (Or.inl ⟨by rfl, fun _ _ => by go_simp⟩) hHeld ?_
                  simp only [Act.put, List.setIfInBounds_toArray, List.set_cons_zero, List.set_cons_succ]
                  refine wpAnyH_take (i := 7) (oi := ⟨some 63, _, _, _, _, _⟩) (v := .pointer (some ⟨b, off + 4, none⟩)) rfl (by kernel_rfl) (by kernel_rfl) (by kernel_rfl) (fun _ _ _ h => h) (Or.inl ⟨by rfl, fun _ _ => by go_simp⟩) hHeld ?_
                  simp only [Act.put, List.setIfInBounds_toArray, List.set_cons_zero, List.set_cons_succ]
                  refine wpAnyH_take (i := 8) (oi := ⟨some 64, _, _, _, _, _⟩) (v := .int .u8 (x4 : Int)) rfl (by kernel_rfl) (by kernel_rfl) (by kernel_rfl) (fun _ _ _ h => h) (Or.inl ⟨by rfl, fun W hW => by have hc := D4.out W hW; go_simp⟩) hHeld ?_
                  simp only [Act.put, List.setIfInBounds_toArray, List.set_cons_zero, List.set_cons_succ]
                  refine wpAnyH_take (i := 9) (oi := ⟨some 65, _, _, _, _, _⟩) (v := .int .i64 (x4 : Int)) rfl (by kernel_rfl) (by kernel_rfl) (by kernel_rfl) (fun _ _ _ h => h) (Or.inl ⟨by rfl, fun _ _ => by go_simp⟩) hHeld ?_
                  simp only [Act.put, List.setIfInBounds_toArray, List.set_cons_zero, List.set_cons_succ]
                  refine wpAnyH_take (i := 10) (oi := ⟨some 66, _, _, _, _, _⟩) (v := .int .i64 (256 * (x4 : Int))) rfl (by kernel_rfl) (by kernel_rfl) (by kernel_rfl) (fun _ _ _ h => h) (Or.inl ⟨by rfl, fun _ _ => by go_simp⟩) hHeld ?_
                  simp only [Act.put, List.setIfInBounds_toArray, List.set_cons_zero, List.set_cons_succ]
                  refine wpAnyH_take (i := 11) (oi := ⟨some 67, _, _, _, _, _⟩) (v := .slice (some ⟨b, off, none⟩) len cap) rfl (by kernel_rfl) (by kernel_rfl) (by kernel_rfl) (fun _ _ _ h => h) (Or.inl ⟨by rfl, fun _ _ => by go_simp⟩) hHeld ?_
                  simp only [Act.put, List.setIfInBounds_toArray, List.set_cons_zero, List.set_cons_succ]
                  refine wpAnyH_take (i := 12) (oi := ⟨some 68, _, _, _, _, _⟩) (v := .pointer (some ⟨b, off + 5, none⟩)) rfl (by kernel_rfl) (by kernel_rfl) (by kernel_rfl) (fun _ _ _ h => h) (Or.inl ⟨by rfl, fun _ _ => by go_simp⟩) hHeld ?_
                  simp only [Act.put, List.setIfInBounds_toArray, List.set_cons_zero, List.set_cons_succ]
                  refine wpAnyH_take (i := 13) (oi := ⟨some 69, _, _, _, _, _⟩) (v := .int .u8 (x5 : Int)) rfl (by kernel_rfl) (by kernel_rfl) (by kernel_rfl) (fun _ _ _ h => h) (Or.inl ⟨by rfl, fun W hW => by have hc := D5.out W hW; go_simp⟩) hHeld ?_
                  simp only [Act.put, List.setIfInBounds_toArray, List.set_cons_zero, List.set_cons_succ]
                  refine wpAnyH_take (i := 14) (oi := ⟨some 70, _, _, _, _, _⟩) (v := .int .i64 (x5 : Int)) rfl (by kernel_rfl) (by kernel_rfl) (by kernel_rfl) (fun _ _ _ h => h) (Or.inl ⟨by rfl, fun _ _ => by go_simp⟩) hHeld ?_
                  simp only [Act.put, List.setIfInBounds_toArray, List.set_cons_zero, List.set_cons_succ]
                  refine wpAnyH_take (i := 15) (oi := ⟨some 71, _, _, _, _, _⟩) (v := .int .i64 (256 * (x4 : Int) + (x5 : Int))) rfl (by kernel_rfl) (by kernel_rfl) (by kernel_rfl) (fun _ _ _ h => h) (Or.inl ⟨by rfl, fun _ _ => by go_simp⟩) hHeld ?_
                  simp only [Act.put, List.setIfInBounds_toArray, List.set_cons_zero, List.set_cons_succ]
                  refine wpAnyH_take (i := 16) (oi := ⟨some 72, _, _, _, _, _⟩) (v := .slice (some ⟨b, off, none⟩) len cap) rfl (by kernel_rfl) (by kernel_rfl) (by kernel_rfl) (fun _ _ _ h => h) (Or.inl ⟨by rfl, fun _ _ => by go_simp⟩) hHeld ?_
                  simp only [Act.put, List.setIfInBounds_toArray, List.set_cons_zero, List.set_cons_succ]
                  refine wpAnyH_take (i := 17) (oi := ⟨some 73, _, _, _, _, _⟩) (v := .pointer (some ⟨b, off + 6, none⟩)) rfl (by kernel_rfl) (by kernel_rfl) (by kernel_rfl) (fun _ _ _ h => h) (Or.inl ⟨by rfl, fun _ _ => by go_simp⟩) hHeld ?_
                  simp only [Act.put, List.setIfInBounds_toArray, List.set_cons_zero, List.set_cons_succ]
                  refine wpAnyH_take (i := 18) (oi := ⟨some 74, _, _, _, _, _⟩) (v := .int .u8 (x6 : Int)) rfl (by kernel_rfl) (by kernel_rfl) (by kernel_rfl) (fun _ _ _ h => h) (Or.inl ⟨by rfl, fun W hW => by have hc := D6.out W hW; go_simp⟩) hHeld ?_
                  simp only [Act.put, List.setIfInBounds_toArray, List.set_cons_zero, List.set_cons_succ]
                  refine wpAnyH_take (i := 19) (oi := ⟨some 75, _, _, _, _, _⟩) (v := .int .u8 ((x6 : Int) % 64)) rfl (by kernel_rfl) (by kernel_rfl) (by kernel_rfl) (fun _ _ _ h => h) (Or.inl ⟨by rfl, fun _ _ => by go_simp⟩) hHeld ?_
                  simp only [Act.put, List.setIfInBounds_toArray, List.set_cons_zero, List.set_cons_succ]
                  refine wpAnyH_take (i := 20) (oi := ⟨some 76, _, _, _, _, _⟩) (v := .bool false) rfl (by kernel_rfl) (by kernel_rfl) (by kernel_rfl) (fun _ _ _ h => h) (Or.inl ⟨by rfl, fun _ _ => by go_simp⟩) hHeld ?_
                  simp only [Act.put, List.setIfInBounds_toArray, List.set_cons_zero, List.set_cons_succ]
                  refine wpAnyH_take (i := 21) (oi := ⟨some 77, _, _, _, _, _⟩) (v := .bool false) rfl (by kernel_rfl) (by kernel_rfl) (by kernel_rfl) (fun _ _ _ h => h) (Or.inl ⟨by rfl, fun _ _ => by go_simp⟩) hHeld ?_
                  simp only [Act.put, List.setIfInBounds_toArray, List.set_cons_zero, List.set_cons_succ]
                  refine wpAnyH_take (i := 22) (oi := ⟨some 78, _, _, _, _, _⟩) (v := .slice (some ⟨b, off, none⟩) len cap) rfl (by kernel_rfl) (by kernel_rfl) (by kernel_rfl) (fun _ _ _ h => h) (Or.inl ⟨by rfl, fun _ _ => by go_simp⟩) hHeld ?_
                  simp only [Act.put, List.setIfInBounds_toArray, List.set_cons_zero, List.set_cons_succ]
                  refine wpAnyH_take (i := 23) (oi := ⟨some 79, _, _, _, _, _⟩) (v := .pointer (some ⟨b, off + 7, none⟩)) rfl (by kernel_rfl) (by kernel_rfl) (by kernel_rfl) (fun _ _ _ h => h) (Or.inl ⟨by rfl, fun _ _ => by go_simp⟩) hHeld ?_
                  simp only [Act.put, List.setIfInBounds_toArray, List.set_cons_zero, List.set_cons_succ]
                  refine wpAnyH_take (i := 24) (oi := ⟨some 80, _, _, _, _, _⟩) (v := .int .u8 (x7 : Int)) rfl (by kernel_rfl) (by kernel_rfl) (by kernel_rfl) (fun _ _ _ h => h) (Or.inl ⟨by rfl, fun W hW => by have hc := D7.out W hW; go_simp⟩) hHeld ?_
                  simp only [Act.put, List.setIfInBounds_toArray, List.set_cons_zero, List.set_cons_succ]
                  refine wpAnyH_take (i := 25) (oi := ⟨some 81, _, _, _, _, _⟩) (v := .bool fr) rfl (by kernel_rfl) (by kernel_rfl) (by kernel_rfl) (fun _ _ _ h => h) (Or.inl ⟨by rfl, fun _ _ => by go_simp⟩) hHeld ?_
                  simp only [Act.put, List.setIfInBounds_toArray, List.set_cons_zero, List.set_cons_succ]
                  refine wpAnyH_take (i := 26) (oi := ⟨some 82, _, _, _, _, _⟩) (v := .bool fr) rfl (by kernel_rfl) (by kernel_rfl) (by kernel_rfl) (fun _ _ _ h => h) (Or.inl ⟨by rfl, fun _ _ => by go_simp⟩) hHeld ?_
                  simp only [Act.put, List.setIfInBounds_toArray, List.set_cons_zero, List.set_cons_succ]
                  refine wpAnyH_take (i := 27) (oi := ⟨some 83, _, _, _, _, _⟩) (v := .slice (some ⟨b, off, none⟩) len cap) rfl (by kernel_rfl) (by kernel_rfl) (by kernel_rfl) (fun _ _ _ h => h) (Or.inl ⟨by rfl, fun _ _ => by go_simp⟩) hHeld ?_
                  simp only [Act.put, List.setIfInBounds_toArray, List.set_cons_zero, List.set_cons_succ]
                  refine wpAnyH_take (i := 28) (oi := ⟨some 84, _, _, _, _, _⟩) (v := .pointer (some ⟨b, off + 6, none⟩)) rfl (by kernel_rfl) (by kernel_rfl) (by kernel_rfl) (fun _ _ _ h => h) (Or.inl ⟨by rfl, fun _ _ => by go_simp⟩) hHeld ?_
                  simp only [Act.put, List.setIfInBounds_toArray, List.set_cons_zero, List.set_cons_succ]
                  refine wpAnyH_take (i := 29) (oi := ⟨some 85, _, _, _, _, _⟩) (v := .int .u8 (x6 : Int)) rfl (by kernel_rfl) (by kernel_rfl) (by kernel_rfl) (fun _ _ _ h => h) (Or.inl ⟨by rfl, fun W hW => by have hc := D6.out W hW; go_simp⟩) hHeld ?_
                  simp only [Act.put, List.setIfInBounds_toArray, List.set_cons_zero, List.set_cons_succ]
                  refine wpAnyH_take (i := 30) (oi := ⟨some 86, _, _, _, _, _⟩) (v := .int .u8 ((x6 : Int) / 64)) rfl (by kernel_rfl) (by kernel_rfl) (by kernel_rfl) (fun _ _ _ h => h) (Or.inl ⟨by rfl, fun _ _ => by go_simp⟩) hHeld ?_
                  simp only [Act.put, List.setIfInBounds_toArray, List.set_cons_zero, List.set_cons_succ]
                  refine wpAnyH_take (i := 31) (oi := ⟨some 87, _, _, _, _, _⟩) (v := .int .u8 ((x6 : Int) / 64 % 2)) rfl (by kernel_rfl) (by kernel_rfl) (by kernel_rfl) (fun _ _ _ h => h) (Or.inl ⟨by rfl, fun _ _ => by go_simp⟩) hHeld ?_
                  simp only [Act.put, List.setIfInBounds_toArray, List.set_cons_zero, List.set_cons_succ]
                  refine wpAnyH_take (i := 32) (oi := ⟨some 88, _, _, _, _, _⟩) (v := .bool ke) rfl (by kernel_rfl) (by kernel_rfl) (by kernel_rfl) (fun _ _ _ h => h) (Or.inl ⟨by rfl, fun _ _ => by go_simp⟩) hHeld ?_
                  simp only [Act.put, List.setIfInBounds_toArray, List.set_cons_zero, List.set_cons_succ]
                  refine wpAnyH_take (i := 33) (oi := ⟨some 89, _, _, _, _, _⟩) (v := .slice (some ⟨b, off, none⟩) len cap) rfl (by kernel_rfl) (by kernel_rfl) (by kernel_rfl) (fun _ _ _ h => h) (Or.inl ⟨by rfl, fun _ _ => by go_simp⟩) hHeld ?_
                  simp only [Act.put, List.setIfInBounds_toArray, List.set_cons_zero, List.set_cons_succ]
                  refine wpAnyH_take (i := 34) (oi := ⟨some 90, _, _, _, _, _⟩) (v := .pointer (some ⟨b, off + 8, none⟩)) rfl (by kernel_rfl) (by kernel_rfl) (by kernel_rfl) (fun _ _ _ h => h) (Or.inl ⟨by rfl, fun _ _ => by go_simp⟩) hHeld ?_
                  simp only [Act.put, List.setIfInBounds_toArray, List.set_cons_zero, List.set_cons_succ]
                  refine wpAnyH_take (i := 35) (oi := ⟨some 91, _, _, _, _, _⟩) (v := .int .u8 (x8 : Int)) rfl (by kernel_rfl) (by kernel_rfl) (by kernel_rfl) (fun _ _ _ h => h) (Or.inl ⟨by rfl, fun W hW => by have hc := D8.out W hW; go_simp⟩) hHeld ?_
                  simp only [Act.put, List.setIfInBounds_toArray, List.set_cons_zero, List.set_cons_succ]
                  refine wpAnyH_take (i := 36) (oi := ⟨some 92, _, _, _, _, _⟩) (v := .int .i64 (x8 : Int)) rfl (by kernel_rfl) (by kernel_rfl) (by kernel_rfl) (fun _ _ _ h => h) (Or.inl ⟨by rfl, fun _ _ => by go_simp⟩) hHeld ?_
                  simp only [Act.put, List.setIfInBounds_toArray, List.set_cons_zero, List.set_cons_succ]
                  refine wpAnyH_take (i := 37) (oi := ⟨some 93, _, _, _, _, _⟩) (v := .slice (some ⟨b, off, none⟩) len cap) rfl (by kernel_rfl) (by kernel_rfl) (by kernel_rfl) (fun _ _ _ h => h) (Or.inl ⟨by rfl, fun _ _ => by go_simp⟩) hHeld ?_
                  simp only [Act.put, List.setIfInBounds_toArray, List.set_cons_zero, List.set_cons_succ]
                  refine wpAnyH_take (i := 38) (oi := ⟨some 94, _, _, _, _, _⟩) (v := .pointer (some ⟨b, off + 9, none⟩)) rfl (by kernel_rfl) (by kernel_rfl) (by kernel_rfl) (fun _ _ _ h => h) (Or.inl ⟨by rfl, fun _ _ => by go_simp⟩) hHeld ?_
                  simp only [Act.put, List.setIfInBounds_toArray, List.set_cons_zero, List.set_cons_succ]
                  refine wpAnyH_take (i := 39) (oi := ⟨some 95, _, _, _, _, _⟩) (v := .int .u8 (x9 : Int)) rfl (by kernel_rfl) (by kernel_rfl) (by kernel_rfl) (fun _ _ _ h => h) (Or.inl ⟨by rfl, fun W hW => by have hc := D9.out W hW; go_simp⟩) hHeld ?_
                  simp only [Act.put, List.setIfInBounds_toArray, List.set_cons_zero, List.set_cons_succ]
                  refine wpAnyH_take (i := 40) (oi := ⟨some 96, _, _, _, _, _⟩) (v := .int .i64 (x9 : Int)) rfl (by kernel_rfl) (by kernel_rfl) (by kernel_rfl) (fun _ _ _ h => h) (Or.inl ⟨by rfl, fun _ _ => by go_simp⟩) hHeld ?_
                  simp only [Act.put, List.setIfInBounds_toArray, List.set_cons_zero, List.set_cons_succ]
                  refine wpAnyH_take (i := 41) (oi := ⟨some 97, _, _, _, _, _⟩) (v := .slice (some ⟨b, off, none⟩) len cap) rfl (by kernel_rfl) (by kernel_rfl) (by kernel_rfl) (fun _ _ _ h => h) (Or.inl ⟨by rfl, fun _ _ => by go_simp⟩) hHeld ?_
                  simp only [Act.put, List.setIfInBounds_toArray, List.set_cons_zero, List.set_cons_succ]
                  refine wpAnyH_take (i := 43) (oi := ⟨some 99, _, _, _, _, _⟩) (v := .slice (some ⟨b, off, none⟩) len cap) rfl (by kernel_rfl) (by kernel_rfl) (by kernel_rfl) (fun _ _ _ h => h) (Or.inl ⟨by rfl, fun _ _ => by go_simp⟩) hHeld ?_
                  simp only [Act.put, List.setIfInBounds_toArray, List.set_cons_zero, List.set_cons_succ]
                  have HR2 : Hid (Blk w1.drew 28 w.heap.size (frL Fr.zero)) := Lib.hid HR1.out
                  refine wpAnyH_ready (rs := [42]) (by kernel_rfl) (by simp) (AllReadyH.cons (o := ⟨some 98, _, _, _, _, _⟩) rfl (fun K hK => ?_) AllReadyH.nil)
                  go_simp
                  refine (E12.out _ hHeld).mono ?_
                  rintro e w3 ⟨rfl, hb3⟩
                  have HR3 := Lib.hid (HR2.out.below HR2.out.lt hb3)
                  refine hK.out _ _ (hHeld.trans (hb3.mono (Nat.le_trans HB1.out.size hHeld.size))) (fun hHeld => ?_)
                  clear hK K hb3 HR2
                  refine wpAnyH_ready (rs := [44]) (by kernel_rfl) (by simp) (AllReadyH.cons (o := ⟨some 100, _, _, _, _, _⟩) rfl (fun K hK => ?_) AllReadyH.nil)
                  go_simp
                  refine (E16.out _ hHeld).mono ?_
                  rintro e w4 ⟨rfl, hb4⟩
                  have HR4 := Lib.hid (HR3.out.below HR3.out.lt hb4)
                  refine hK.out _ _ (hHeld.trans (hb4.mono (Nat.le_trans HB1.out.size hHeld.size))) (fun hHeld => ?_)
                  clear hK K hb4 HR3
                  refine wpAnyH_take (i := 45) (oi := ⟨some 101, _, _, _, _, _⟩) (v := .agg (frL f).toArray) rfl (by kernel_rfl) (by kernel_rfl) (by kernel_rfl) (fun _ _ _ h => h) (yields_build (by rfl) 28 _ rfl _ (by kernel_rfl) _ HBU.out) hHeld ?_
                  simp only [Act.put, List.setIfInBounds_toArray, List.set_cons_zero, List.set_cons_succ]
                  refine wpAnyH_ready (rs := [46]) (by kernel_rfl) (by simp) (AllReadyH.cons (o := ⟨none, _, _, _, _, _⟩) rfl (fun K hK => ?_) AllReadyH.nil)
                  refine step_storeR rfl 28 _ _ rfl w.heap.size (by rfl) (frL f) (by rfl) _ HR4.out (by rw [frL_len HOK.out]; rfl) (sizeFrL HOK.out) (frL_one _) ?_
                  have hR9 := Lib.hid (HR4.out.setRow_ (frL f))
                  refine hK.out _ _ (below_setRow hHeld (Nat.le_refl _) _) (fun hHeld => ?_)
                  clear hK K
                  refine wpAnyH_take (i := 47) (oi := ⟨some 3, _, _, _, _, _⟩) (v := .int .i64 0) rfl (by kernel_rfl) (by kernel_rfl) (by kernel_rfl) (fun _ _ _ h => h) (Or.inl ⟨by rfl, fun _ _ => by go_simp⟩) hHeld ?_
                  simp only [Act.put, List.setIfInBounds_toArray, List.set_cons_zero, List.set_cons_succ]
                  refine wpAnyH_done (by kernel_rfl) ?_ _
                  go_wp2_with fail
                  refine bodyPost_ret (v := .tuple #[frC f, .int .i64 0]) (results_fr rfl _ _ w.heap.size (by rfl) _ HOK.out hR9.out _ (by rfl)) rfl ?_
                  exact ⟨rfl, HB1.out.trans hHeld⟩
                · have k3 : ((x6 : Int) % 64 != 0) = true := by simp; omega
                  rw [show decide (x6 % 64 ≠ 0) = true by simp [h64], Bool.true_or] at HBU
                  clear h64
                  refine wp_region_held_drew (S := fun W => Below w.heap.size w1 W) (by kernel_rfl) (Below.refl _ _).drew (fun hHeld => ?_)
                  refine wpAnyH_take (i := 0) (oi := ⟨some 56, _, _, _, _, _⟩) (v := .int .i64 (ih : Int)) rfl (by kernel_rfl) (by kernel_rfl) (by kernel_rfl) (fun _ _ _ h => h) (Or.inl ⟨by rfl, fun _ _ => by go_simp⟩) hHeld ?_
                  simp only [Act.put, List.setIfInBounds_toArray, List.set_cons_zero, List.set_cons_succ]
                  refine wpAnyH_take (i := 1) (oi := ⟨some 57, _, _, _, _, _⟩) (v := .int .i64 (n2 : Int)) rfl (by kernel_rfl) (by kernel_rfl) (by kernel_rfl) (fun _ _ _ h => h) (Or.inl ⟨by rfl, fun _ _ => by go_simp⟩) hHeld ?_
                  simp only [Act.put, List.setIfInBounds_toArray, List.set_cons_zero, List.set_cons_succ]
                  refine wpAnyH_take (i := 2) (oi := ⟨some 58, _, _, _, _, _⟩) (v := .slice (some ⟨b, off, none⟩) len cap) rfl (by kernel_rfl) (by kernel_rfl) (by kernel_rfl) (fun _ _ _ h => h) (Or.inl ⟨by rfl, fun _ _ => by go_simp⟩) hHeld ?_
                  simp only [Act.put, List.setIfInBounds_toArray, List.set_cons_zero, List.set_cons_succ]
                  refine wpAnyH_take (i := 3) (oi := ⟨some 59, _, _, _, _, _⟩) (v := .pointer (some ⟨b, off + 1, none⟩)) rfl (by kernel_rfl) (by kernel_rfl) (by kernel_rfl) (fun _ _ _ h => h) (Or.inl ⟨by rfl, fun _ _ => by go_simp⟩) hHeld ?_
                  simp only [Act.put, List.setIfInBounds_toArray, List.set_cons_zero, List.set_cons_succ]
                  refine wpAnyH_take (i := 4) (oi := ⟨some 60, _, _, _, _, _⟩) (v := .int .u8 (x1 : Int)) rfl (by kernel_rfl) (by kernel_rfl) (by kernel_rfl) (fun _ _ _ h => h) (Or.inl ⟨by rfl, fun W hW => by have hc := D1.out W hW; go_simp⟩) hHeld ?_
                  simp only [Act.put, List.setIfInBounds_toArray, List.set_cons_zero, List.set_cons_succ]
                  refine wpAnyH_take (i := 5) (oi := ⟨some 61, _, _, _, _, _⟩) (v := .int .i64 (x1 : Int)) rfl (by kernel_rfl) (by kernel_rfl) (by kernel_rfl) (fun _ _ _ h => h) (Or.inl ⟨by rfl, fun _ _ => by go_simp⟩) hHeld ?_
                  simp only [Act.put, List.setIfInBounds_toArray, List.set_cons_zero, List.set_cons_succ]
                  refine wpAnyH_take (i := 6) (oi := ⟨some 62, _, _, _, _, _⟩) (v := .slice (some ⟨b, off, none⟩) len cap) rfl (by kernel_rfl) (by kernel_rfl) (by kernel_rfl) (fun _ _ _ h => h) (Or.inl ⟨by rfl, fun _ _ => by go_simp⟩) hHeld ?_
                  simp only [Act.put, List.setIfInBounds_toArray, List.set_cons_zero, List.set_cons_succ]
                  refine wpAnyH_take (i := 7) (oi := ⟨some 63, _, _, _, _, _⟩) (v := .pointer (some ⟨b, off + 4, none⟩)) rfl (by kernel_rfl) (by kernel_rfl) (by kernel_rfl) (fun _ _ _ h => h) (Or.inl ⟨by rfl, fun _ _ => by go_simp⟩) hHeld ?_
                  simp only [Act.put, List.setIfInBounds_toArray, List.set_cons_zero, List.set_cons_succ]
                  refine wpAnyH_take (i := 8) (oi := ⟨some 64, _, _, _, _, _⟩) (v := .int .u8 (x4 : Int)) rfl (by kernel_rfl) (by kernel_rfl) (by kernel_rfl) (fun _ _ _ h => h) (Or.inl ⟨by rfl, fun W hW => by have hc := D4.out W hW; go_simp⟩) hHeld ?_
                  simp only [Act.put, List.setIfInBounds_toArray, List.set_cons_zero, List.set_cons_succ]
                  refine wpAnyH_take (i := 9) (oi := ⟨some 65, _, _, _, _, _⟩) (v := .int .i64 (x4 : Int)) rfl (by kernel_rfl) (by kernel_rfl) (by kernel_rfl) (fun _ _ _ h => h) (Or.inl ⟨by rfl, fun _ _ => by go_simp⟩) hHeld ?_
                  simp only [Act.put, List.setIfInBounds_toArray, List.set_cons_zero, List.set_cons_succ]
                  refine wpAnyH_take (i := 10) (oi := ⟨some 66, _, _, _, _, _⟩) (v := .int .i64 (256 * (x4 : Int))) rfl (by kernel_rfl) (by kernel_rfl) (by kernel_rfl) (fun _ _ _ h => h) (Or.inl ⟨by rfl, fun _ _ => by go_simp⟩) hHeld ?_
                  simp only [Act.put, List.setIfInBounds_toArray, List.set_cons_zero, List.set_cons_succ]
                  refine wpAnyH_take (i := 11) (oi := ⟨some 67, _, _, _, _, _⟩) (v := .slice (some ⟨b, off, none⟩) len cap) rfl (by kernel_rfl) (by kernel_rfl) (by kernel_rfl) (fun _ _ _ h => h) (Or.inl ⟨by rfl, fun _ _ => by go_simp⟩) hHeld ?_
                  simp only [Act.put, List.setIfInBounds_toArray, List.set_cons_zero, List.set_cons_succ]
                  refine wpAnyH_take (i := 12) (oi := ⟨some 68, _, _, _, _, _⟩) (v := .pointer (some ⟨b, off + 5, none⟩)) rfl (by kernel_rfl) (by kernel_rfl) (by kernel_rfl) (fun _ _ _ h => h) (Or.inl ⟨by rfl, fun _ _ => by go_simp⟩) hHeld ?_
                  simp only [Act.put, List.setIfInBounds_toArray, List.set_cons_zero, List.set_cons_succ]
                  refine wpAnyH_take (i := 13) (oi := ⟨some 69, _, _, _, _, _⟩) (v := .int .u8 (x5 : Int)) rfl (by kernel_rfl) (by kernel_rfl) (by kernel_rfl) (fun _ _ _ h => h) (Or.inl ⟨by rfl, fun W hW => by have hc := D5.out W hW; go_simp⟩) hHeld ?_
                  simp only [Act.put, List.setIfInBounds_toArray, List.set_cons_zero, List.set_cons_succ]
                  refine wpAnyH_take (i := 14) (oi := ⟨some 70, _, _, _, _, _⟩) (v := .int .i64 (x5 : Int)) rfl (by kernel_rfl) (by kernel_rfl) (by kernel_rfl) (fun _ _ _ h => h) (Or.inl ⟨by rfl, fun _ _ => by go_simp⟩) hHeld ?_
                  simp only [Act.put, List.setIfInBounds_toArray, List.set_cons_zero, List.set_cons_succ]
                  refine wpAnyH_take (i := 15) (oi := ⟨some 71, _, _, _, _, _⟩) (v := .int .i64 (256 * (x4 : Int) + (x5 : Int))) rfl (by kernel_rfl) (by kernel_rfl) (by kernel_rfl) (fun _ _ _ h => h) (Or.inl ⟨by rfl, fun _ _ => by go_simp⟩) hHeld ?_
                  simp only [Act.put, List.setIfInBounds_toArray, List.set_cons_zero, List.set_cons_succ]
                  refine wpAnyH_take (i := 16) (oi := ⟨some 72, _, _, _, _, _⟩) (v := .slice (some ⟨b, off, none⟩) len cap) rfl (by kernel_rfl) (by kernel_rfl) (by kernel_rfl) (fun _ _ _ h => h) (Or.inl ⟨by rfl, fun _ _ => by go_simp⟩) hHeld ?_
                  simp only [Act.put, List.setIfInBounds_toArray, List.set_cons_zero, List.set_cons_succ]
                  refine wpAnyH_take (i := 17) (oi := ⟨some 73, _, _, _, _, _⟩) (v := .pointer (some ⟨b, off + 6, none⟩)) rfl (by kernel_rfl) (by kernel_rfl) (by kernel_rfl) (fun _ _ _ h => h) (Or.inl ⟨by rfl, fun _ _ => by go_simp⟩) hHeld ?_
                  simp only [Act.put, List.setIfInBounds_toArray, List.set_cons_zero, List.set_cons_succ]
                  refine wpAnyH_take (i := 18) (oi := ⟨some 74, _, _, _, _, _⟩) (v := .int .u8 (x6 : Int)) rfl (by kernel_rfl) (by kernel_rfl) (by kernel_rfl) (fun _ _ _ h => h) (Or.inl ⟨by rfl, fun W hW => by have hc := D6.out W hW; go_simp⟩) hHeld ?_
                  simp only [Act.put, List.setIfInBounds_toArray, List.set_cons_zero, List.set_cons_succ]
                  refine wpAnyH_take (i := 19) (oi := ⟨some 75, _, _, _, _, _⟩) (v := .int .u8 ((x6 : Int) % 64)) rfl (by kernel_rfl) (by kernel_rfl) (by kernel_rfl) (fun _ _ _ h => h) (Or.inl ⟨by rfl, fun _ _ => by go_simp⟩) hHeld ?_
                  simp only [Act.put, List.setIfInBounds_toArray, List.set_cons_zero, List.set_cons_succ]
                  refine wpAnyH_take (i := 20) (oi := ⟨some 76, _, _, _, _, _⟩) (v := .bool true) rfl (by kernel_rfl) (by kernel_rfl) (by kernel_rfl) (fun _ _ _ h => h) (Or.inl ⟨by rfl, fun _ _ => by go_simp⟩) hHeld ?_
                  simp only [Act.put, List.setIfInBounds_toArray, List.set_cons_zero, List.set_cons_succ]
                  refine wpAnyH_take (i := 21) (oi := ⟨some 77, _, _, _, _, _⟩) (v := .bool true) rfl (by kernel_rfl) (by kernel_rfl) (by kernel_rfl) (fun _ _ _ h => h) (Or.inl ⟨by rfl, fun _ _ => by go_simp⟩) hHeld ?_
                  simp only [Act.put, List.setIfInBounds_toArray, List.set_cons_zero, List.set_cons_succ]
                  refine wpAnyH_take (i := 22) (oi := ⟨some 78, _, _, _, _, _⟩) (v := undef) rfl (by kernel_rfl) (by kernel_rfl) (by kernel_rfl) (fun _ _ _ h => h) (Or.inr ⟨by rfl, rfl⟩) hHeld ?_
                  simp only [Act.put, List.setIfInBounds_toArray, List.set_cons_zero, List.set_cons_succ]
                  refine wpAnyH_take (i := 23) (oi := ⟨some 79, _, _, _, _, _⟩) (v := undef) rfl (by kernel_rfl) (by kernel_rfl) (by kernel_rfl) (fun _ _ _ h => h) (Or.inr ⟨by rfl, rfl⟩) hHeld ?_
                  simp only [Act.put, List.setIfInBounds_toArray, List.set_cons_zero, List.set_cons_succ]
                  refine wpAnyH_take (i := 24) (oi := ⟨some 80, _, _, _, _, _⟩) (v := undef) rfl (by kernel_rfl) (by kernel_rfl) (by kernel_rfl) (fun _ _ _ h => h) (Or.inr ⟨by rfl, rfl⟩) hHeld ?_
                  simp only [Act.put, List.setIfInBounds_toArray, List.set_cons_zero, List.set_cons_succ]
                  refine wpAnyH_take (i := 25) (oi := ⟨some 81, _, _, _, _, _⟩) (v := undef) rfl (by kernel_rfl) (by kernel_rfl) (by kernel_rfl) (fun _ _ _ h => h) (Or.inr ⟨by rfl, rfl⟩) hHeld ?_
                  simp only [Act.put, List.setIfInBounds_toArray, List.set_cons_zero, List.set_cons_succ]
                  refine wpAnyH_take (i := 26) (oi := ⟨some 82, _, _, _, _, _⟩) (v := .bool true) rfl (by kernel_rfl) (by kernel_rfl) (by kernel_rfl) (fun _ _ _ h => h) (Or.inl ⟨by rfl, fun _ _ => by go_simp⟩) hHeld ?_
                  simp only [Act.put, List.setIfInBounds_toArray, List.set_cons_zero, List.set_cons_succ]
                  refine wpAnyH_take (i := 27) (oi := ⟨some 83, _, _, _, _, _⟩) (v := .slice (some ⟨b, off, none⟩) len cap) rfl (by kernel_rfl) (by kernel_rfl) (by kernel_rfl) (fun _ _ _ h => h) (Or.inl ⟨by rfl, fun _ _ => by go_simp⟩) hHeld ?_
                  simp only [Act.put, List.setIfInBounds_toArray, List.set_cons_zero, List.set_cons_succ]
                  refine wpAnyH_take (i := 28) (oi := ⟨some 84, _, _, _, _, _⟩) (v := .pointer (some ⟨b, off + 6, none⟩)) rfl (by kernel_rfl) (by kernel_rfl) (by kernel_rfl) (fun _ _ _ h => h) (Or.inl ⟨by rfl, fun _ _ => by go_simp⟩) hHeld ?_
                  simp only [Act.put, List.setIfInBounds_toArray, List.set_cons_zero, List.set_cons_succ]
                  refine wpAnyH_take (i := 29) (oi := ⟨some 85, _, _, _, _, _⟩) (v := .int .u8 (x6 : Int)) rfl (by kernel_rfl) (by kernel_rfl) (by kernel_rfl) (fun _ _ _ h => h) (Or.inl ⟨by rfl, fun W hW => by have hc := D6.out W hW; go_simp⟩) hHeld ?_
                  simp only [Act.put, List.setIfInBounds_toArray, List.set_cons_zero, List.set_cons_succ]
                  refine wpAnyH_take (i := 30) (oi := ⟨some 86, _, _, _, _, _⟩) (v := .int .u8 ((x6 : Int) / 64)) rfl (by kernel_rfl) (by kernel_rfl) (by kernel_rfl) (fun _ _ _ h => h) (Or.inl ⟨by rfl, fun _ _ => by go_simp⟩) hHeld ?_
                  simp only [Act.put, List.setIfInBounds_toArray, List.set_cons_zero, List.set_cons_succ]
                  refine wpAnyH_take (i := 31) (oi := ⟨some 87, _, _, _, _, _⟩) (v := .int .u8 ((x6 : Int) / 64 % 2)) rfl (by kernel_rfl) (by kernel_rfl) (by kernel_rfl) (fun _ _ _ h => h) (Or.inl ⟨by rfl, fun _ _ => by go_simp⟩) hHeld ?_
                  simp only [Act.put, List.setIfInBounds_toArray, List.set_cons_zero, List.set_cons_succ]
                  refine wpAnyH_take (i := 32) (oi := ⟨some 88, _, _, _, _, _⟩) (v := .bool ke) rfl (by kernel_rfl) (by kernel_rfl) (by kernel_rfl) (fun _ _ _ h => h) (Or.inl ⟨by rfl, fun _ _ => by go_simp⟩) hHeld ?_
                  simp only [Act.put, List.setIfInBounds_toArray, List.set_cons_zero, List.set_cons_succ]
                  refine wpAnyH_take (i := 33) (oi := ⟨some 89, _, _, _, _, _⟩) (v := .slice (some ⟨b, off, none⟩) len cap) rfl (by kernel_rfl) (by kernel_rfl) (by kernel_rfl) (fun _ _ _ h => h) (Or.inl ⟨by rfl, fun _ _ => by go_simp⟩) hHeld ?_
                  simp only [Act.put, List.setIfInBounds_toArray, List.set_cons_zero, List.set_cons_succ]
                  refine wpAnyH_take (i := 34) (oi := ⟨some 90, _, _, _, _, _⟩) (v := .pointer (some ⟨b, off + 8, none⟩)) rfl (by kernel_rfl) (by kernel_rfl) (by kernel_rfl) (fun _ _ _ h => h) (Or.inl ⟨by rfl, fun _ _ => by go_simp⟩) hHeld ?_
                  simp only [Act.put, List.setIfInBounds_toArray, List.set_cons_zero, List.set_cons_succ]
                  refine wpAnyH_take (i := 35) (oi := ⟨some 91, _, _, _, _, _⟩) (v := .int .u8 (x8 : Int)) rfl (by kernel_rfl) (by kernel_rfl) (by kernel_rfl) (fun _ _ _ h => h) (Or.inl ⟨by rfl, fun W hW => by have hc := D8.out W hW; go_simp⟩) hHeld ?_
                  simp only [Act.put, List.setIfInBounds_toArray, List.set_cons_zero, List.set_cons_succ]
                  refine wpAnyH_take (i := 36) (oi := ⟨some 92, _, _, _, _, _⟩) (v := .int .i64 (x8 : Int)) rfl (by kernel_rfl) (by kernel_rfl) (by kernel_rfl) (fun _ _ _ h => h) (Or.inl ⟨by rfl, fun _ _ => by go_simp⟩) hHeld ?_
                  simp only [Act.put, List.setIfInBounds_toArray, List.set_cons_zero, List.set_cons_succ]
                  refine wpAnyH_take (i := 37) (oi := ⟨some 93, _, _, _, _, _⟩) (v := .slice (some ⟨b, off, none⟩) len cap) rfl (by kernel_rfl) (by kernel_rfl) (by kernel_rfl) (fun _ _ _ h => h) (Or.inl ⟨by rfl, fun _ _ => by go_simp⟩) hHeld ?_
                  simp only [Act.put, List.setIfInBounds_toArray, List.set_cons_zero, List.set_cons_succ]
                  refine wpAnyH_take (i := 38) (oi := ⟨some 94, _, _, _, _, _⟩) (v := .pointer (some ⟨b, off + 9, none⟩)) rfl (by kernel_rfl) (by kernel_rfl) (by kernel_rfl) (fun _ _ _ h => h) (Or.inl ⟨by rfl, fun _ _ => by go_simp⟩) hHeld ?_
                  simp only [Act.put, List.setIfInBounds_toArray, List.set_cons_zero, List.set_cons_succ]
                  refine wpAnyH_take (i := 39) (oi := ⟨some 95, _, _, _, _, _⟩) (v := .int .u8 (x9 : Int)) rfl (by kernel_rfl) (by kernel_rfl) (by kernel_rfl) (fun _ _ _ h => h) (Or.inl ⟨by rfl, fun W hW => by have hc := D9.out W hW; go_simp⟩) hHeld ?_
                  simp only [Act.put, List.setIfInBounds_toArray, List.set_cons_zero, List.set_cons_succ]
                  refine wpAnyH_take (i := 40) (oi := ⟨some 96, _, _, _, _, _⟩) (v := .int .i64 (x9 : Int)) rfl (by kernel_rfl) (by kernel_rfl) (by kernel_rfl) (fun _ _ _ h => h) (Or.inl ⟨by rfl, fun _ _ => by go_simp⟩) hHeld ?_
                  simp only [Act.put, List.setIfInBounds_toArray, List.set_cons_zero, List.set_cons_succ]
                  refine wpAnyH_take (i := 41) (oi := ⟨some 97, _, _, _, _, _⟩) (v := .slice (some ⟨b, off, none⟩) len cap) rfl (by kernel_rfl) (by kernel_rfl) (by kernel_rfl) (fun _ _ _ h => h) (Or.inl ⟨by rfl, fun _ _ => by go_simp⟩) hHeld ?_
                  simp only [Act.put, List.setIfInBounds_toArray, List.set_cons_zero, List.set_cons_succ]
                  refine wpAnyH_take (i := 43) (oi := ⟨some 99, _, _, _, _, _⟩) (v := .slice (some ⟨b, off, none⟩) len cap) rfl (by kernel_rfl) (by kernel_rfl) (by kernel_rfl) (fun _ _ _ h => h) (Or.inl ⟨by rfl, fun _ _ => by go_simp⟩) hHeld ?_
                  simp only [Act.put, List.setIfInBounds_toArray, List.set_cons_zero, List.set_cons_succ]
                  have HR2 : Hid (Blk w1.drew 28 w.heap.size (frL Fr.zero)) := Lib.hid HR1.out
                  refine wpAnyH_ready (rs := [42]) (by kernel_rfl) (by simp) (AllReadyH.cons (o := ⟨some 98, _, _, _, _, _⟩) rfl (fun K hK => ?_) AllReadyH.nil)
                  go_simp
                  refine (E12.out _ hHeld).mono ?_
                  rintro e w3 ⟨rfl, hb3⟩
                  have HR3 := Lib.hid (HR2.out.below HR2.out.lt hb3)
                  refine hK.out _ _ (hHeld.trans (hb3.mono (Nat.le_trans HB1.out.size hHeld.size))) (fun hHeld => ?_)
                  clear hK K hb3 HR2
                  refine wpAnyH_ready (rs := [44]) (by kernel_rfl) (by simp) (AllReadyH.cons (o := ⟨some 100, _, _, _, _, _⟩) rfl (fun K hK => ?_) AllReadyH.nil)
                  go_simp
                  refine (E16.out _ hHeld).mono ?_
                  rintro e w4 ⟨rfl, hb4⟩
                  have HR4 := Lib.hid (HR3.out.below HR3.out.lt hb4)
                  refine hK.out _ _ (hHeld.trans (hb4.mono (Nat.le_trans HB1.out.size hHeld.size))) (fun hHeld => ?_)
                  clear hK K hb4 HR3
                  refine wpAnyH_take (i := 45) (oi := ⟨some 101, _, _, _, _, _⟩) (v := .agg (frL f).toArray) rfl (by kernel_rfl) (by kernel_rfl) (by kernel_rfl) (fun _ _ _ h => h) (yields_build (by rfl) 28 _ rfl _ (by kernel_rfl) _ HBU.out) hHeld ?_
                  simp only [Act.put, List.setIfInBounds_toArray, List.set_cons_zero, List.set_cons_succ]
                  refine wpAnyH_ready (rs := [46]) (by kernel_rfl) (by simp) (AllReadyH.cons (o := ⟨none, _, _, _, _, _⟩) rfl (fun K hK => ?_) AllReadyH.nil)
                  refine step_storeR rfl 28 _ _ rfl w.heap.size (by rfl) (frL f) (by rfl) _ HR4.out (by rw [frL_len HOK.out]; rfl) (sizeFrL HOK.out) (frL_one _) ?_
                  have hR9 := Lib.hid (HR4.out.setRow_ (frL f))
                  refine hK.out _ _ (below_setRow hHeld (Nat.le_refl _) _) (fun hHeld => ?_)
                  clear hK K
                  refine wpAnyH_take (i := 47) (oi := ⟨some 3, _, _, _, _, _⟩) (v := .int .i64 0) rfl (by kernel_rfl) (by kernel_rfl) (by kernel_rfl) (fun _ _ _ h => h) (Or.inl ⟨by rfl, fun _ _ => by go_simp⟩) hHeld ?_
                  simp only [Act.put, List.setIfInBounds_toArray, List.set_cons_zero, List.set_cons_succ]
                  refine wpAnyH_done (by kernel_rfl) ?_ _
                  go_wp2_with fail
                  refine bodyPost_ret (v := .tuple #[frC f, .int .i64 0]) (results_fr rfl _ _ w.heap.size (by rfl) _ HOK.out hR9.out _ (by rfl)) rfl ?_
                  exact ⟨rfl, HB1.out.trans hHeld⟩
              · have hF := F5.out hv'.out (by omega) (by omega) (by omega) (by omega) h6
                have hR := HP.out (by omega)
                subst hF hR
                have hck := ckOf_le (xs.take ih)
                obtain ⟨c, hc⟩ : ∃ c, ckOf (xs.take ih) = c := ⟨_, rfl⟩
                rw [hc] at HS h6 hck
                have h6' : ((c : Int) != 0) = true := by simp; omega
                clear hc hr
                go_wp2_with fail
                refine HS.out.mono ?_
                rintro e w1 ⟨rfl, hb1⟩
                have HR2 := Lib.hid (HR1.out.below HR1.out.lt hb1)
                have HB2 := Lib.hid (HB1.out.trans (hb1.mono HB1.out.size))
                clear hb1
                go_wp2_with (first
                  | ((with_reducible show wpList _ _ _ _ _ _); refine wpList_buildTo rfl 28 _ rfl (some 55) rfl (frL Fr.zero).toArray (by kernel_rfl) ?_)
                  | ((with_reducible show wpList _ _ _ _ _ _); refine wpList_storeR rfl 28 _ _ rfl w.heap.size (by rfl) (frL Fr.zero) (by rfl) _ HR2.out rfl (sizeFrL HZO.out) (frL_one _) ?_))
                refine bodyPost_ret (v := .tuple #[frC Fr.zero, .int .i64 8]) (results_fr rfl _ _ w.heap.size (by rfl) _ HZO.out (HR2.out.setRow_ _) _ (by rfl)) rfl ?_
                exact ⟨rfl, below_setRow HB2.out (Nat.le_refl _) _⟩
    · have v1 : ((x0 : Int) / 16 != 4) = true := by simp; omega
      have hF := F1.out (.inl hv)
      have hR := HP.out (by omega)
      subst hF hR
      clear hv
      go_enter Try.func11, Try.ntmps11
      go_wp2_with (first
        | ((with_reducible show wpList _ _ _ _ _ _); refine wpList_buildTo rfl 28 _ rfl (some 25) rfl (frL Fr.zero).toArray (by kernel_rfl) ?_)
        | ((with_reducible show wpList _ _ _ _ _ _); rw [HZ.out]; refine wpList_storeR rfl 28 _ _ rfl w.heap.size (by rfl) (frL Fr.zero) (by rfl) _ HR0.out rfl (sizeFrL HZO.out) (frL_one _) ?_))
      refine bodyPost_ret (v := .tuple #[frC Fr.zero, .int .i64 3]) (results_fr rfl _ _ w.heap.size (by rfl) _ HZO.out (HR0.out.setRow_ _) _ (by rfl)) rfl ?_
      exact ⟨rfl, below_setRow HB0.out (Nat.le_refl _) _⟩
  · have h20' : (len : Int) < 20 := by omega
    have hF : faultN xs = 2 := fault_short (by rw [HL.out]; omega)
    rw [rdF_no (by omega), hF]
    clear hF
    go_enter Try.func11, Try.ntmps11
    go_wp2_with (first
      | ((with_reducible show wpList _ _ _ _ _ _); refine wpList_buildTo rfl 28 _ rfl (some 9) rfl (frL Fr.zero).toArray (by kernel_rfl) ?_)
      | ((with_reducible show wpList _ _ _ _ _ _); rw [HZ.out]; refine wpList_storeR rfl 28 _ _ rfl w.heap.size (by rfl) (frL Fr.zero) (by rfl) _ HR0.out rfl (sizeFrL HZO.out) (frL_one _) ?_))
    refine bodyPost_ret (v := .tuple #[frC Fr.zero, .int .i64 2]) (results_fr rfl _ _ w.heap.size (by rfl) _ HZO.out (HR0.out.setRow_ _) _ (by rfl)) rfl ?_
    exact ⟨rfl, below_setRow HB0.out (Nat.le_refl _) _⟩
end Go.Proofs.Ytkdliadigalgaaa
