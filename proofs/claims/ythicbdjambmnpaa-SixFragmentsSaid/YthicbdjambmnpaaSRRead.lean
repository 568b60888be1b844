/-
  The document's Read.
-/
import Derived.Test.YthicbdjambmnpaaSRead
import Derived.Test.YthicbdjambmnpaaSRAddr
namespace Go.Proofs.Ythicbdjambmnpaa
open Go.RowKit Go.Lib

theorem cut_world {goal : Prop} {H : World → Nat → Prop} {M : World → Nat → Prop} (h1 : (∀ W G, H W G → M W G) → goal) (h2 : ∀ W G, H W G → M W G) : goal := h1 h2
set_option maxRecDepth 100000 in
set_option maxHeartbeats 4000000 in
theorem rread_any (A : Option Addr) (len cap : Nat) (xs : List UInt8) (hlen : len ≤ 1000000) (w : World) (hI : Rd w w.heap.size A len xs) :
    Calls Try.prog 11 #[.slice A len cap] w (ReadGave w (rdF xs) (rdN xs)) := by
  have HL := Lib.hid hI.len
  have HIW := Lib.hid hI
  obtain ⟨Z, hZ⟩ : ∃ Z : World, w.alloc (.cells (frL Fr.zero).toArray 28) = Z := ⟨_, rfl⟩
  have hR0 : Blk Z 28 w.heap.size (frL Fr.zero) := by rw [← hZ]; exact Blk.new w _ _
  have hB0 : Below w.heap.size w Z := by rw [← hZ]; exact (Below.refl w.heap.size w).alloc (Nat.le_refl _) _
  rw [← zeroF] at hZ
  have HZ := Lib.hid hZ
  have HI0 := Lib.hid (hI.below hB0)
  have HR0 := Lib.hid hR0
  have HB0 := Lib.hid hB0
  have HZO := Lib.hid Fr.ok_zero
  clear hZ hI hR0 hB0
  by_cases h40 : 40 ≤ len
  · have h40' : ¬ (len : Int) < 40 := by omega
    obtain ⟨b, off, rfl, _⟩ := HI0.out.addr (by omega)
    have c0 := HI0.out.cellD (k := 0) (by omega)
    rw [Nat.add_zero] at c0
    rw [← HZ.out] at c0
    have l0 : (0 : Int) < (len : Int) := by omega
    have hx0 := batN_lt xs 0
    have F1 := Lib.hid (fun (h : batN xs 0 / 16 ≠ 6) => fault_form (xs := xs) (by rw [HL.out]; exact h40) h)
    have F2 := Lib.hid (fun (h1 : batN xs 0 / 16 = 6) (h3 : len < totN xs) => fault_more (xs := xs) (by rw [HL.out]; exact h40) h1 (by rw [HL.out]; exact h3))
    have F3 := Lib.hid (fun (h1 : batN xs 0 / 16 = 6) (h3 : totN xs ≤ len) => fault_no (xs := xs) (by rw [HL.out]; exact h40) h1 (by rw [HL.out]; exact h3))
    have HNB := Lib.hid (fun h : faultN xs ≠ 0 => rdN_bad h)
    have HFB := Lib.hid (fun h : faultN xs ≠ 0 => rdF_bad h)
    generalize hx0g : batN xs 0 = x0 at *
    by_cases hv : x0 / 16 = 6
    · have v1 : ((x0 : Int) / 16 != 6) = false := by simp; omega
      have hv' := Lib.hid hv
      clear hv hx0g
      have hOK := hdAt_ok xs (wk0 xs) (by rw [HL.out]; exact h40)
      have HOK := Lib.hid (fun k : Wk => hdAt_ok xs k (by rw [HL.out]; exact h40))
      have htn : ((totN xs : Nat) : Int) = 40 + 256 * (batN xs 4 : Int) + (batN xs 5 : Int) := by have e : wat xs 4 = 256 * batN xs 4 + batN xs 5 := rfl; unfold totN; omega
      have hBU := built_at2 40 (totN xs : Nat) (batN xs 7 : Nat) (batN xs 6 : Nat) (adOf xs 8) (adOf xs 24) hOK.s hOK.d
      rw [← hd0_eq, htn] at hBU
      have HBU := Lib.hid hBU
      have HOK0 := Lib.hid hOK
      clear hBU hOK
      have X4 := batN_lt xs 4
      have X5 := batN_lt xs 5
      have X6 := batN_lt xs 6
      have X7 := batN_lt xs 7
      have C4 := Lib.hid (fun W (hW : Below w.heap.size Z W) => (HI0.out.below hW).cellD (k := 4) (by omega))
      have C5 := Lib.hid (fun W (hW : Below w.heap.size Z W) => (HI0.out.below hW).cellD (k := 5) (by omega))
      have C6 := Lib.hid (fun W (hW : Below w.heap.size Z W) => (HI0.out.below hW).cellD (k := 6) (by omega))
      have C7 := Lib.hid (fun W (hW : Below w.heap.size Z W) => (HI0.out.below hW).cellD (k := 7) (by omega))
      have HA8 := Lib.hid (fun W (hW : Below w.heap.size Z W) => raddr_any (p := 8) (cap := cap) 8 rfl (by omega) (by omega) (Nat.le_trans HB0.out.size hW.size) (HI0.out.below hW))
      have HA24 := Lib.hid (fun W (hW : Below w.heap.size Z W) => raddr_any (p := 24) (cap := cap) 24 rfl (by omega) (by omega) (Nat.le_trans HB0.out.size hW.size) (HI0.out.below hW))
      obtain ⟨f0, hf0⟩ : ∃ f0, hdAt xs (wk0 xs) = f0 := ⟨_, rfl⟩
      rw [hf0] at HBU HOK0
      have Hf0 := Lib.hid hf0
      clear hf0
      have HTN := Lib.hid htn
      clear htn
      generalize adOf xs 8 = a8 at *
      generalize adOf xs 24 = a24 at *
      generalize batN xs 4 = x4 at *
      generalize batN xs 5 = x5 at *
      generalize batN xs 6 = x6 at *
      generalize batN xs 7 = x7 at *
      have l4 : (4 : Int) < (len : Int) := by omega
      have l5 : (5 : Int) < (len : Int) := by omega
      have l6 : (6 : Int) < (len : Int) := by omega
      have l7 : (7 : Int) < (len : Int) := by omega
      have s4 : IntKind.i64.wrap (x4 : Int) = (x4 : Int) := by rw [IntKind.wrap_i64]; omega
      have s5 : IntKind.i64.wrap (x5 : Int) = (x5 : Int) := by rw [IntKind.wrap_i64]; omega
      have s6 : IntKind.i64.wrap (x6 : Int) = (x6 : Int) := by rw [IntKind.wrap_i64]; omega
      have s7 : IntKind.i64.wrap (x7 : Int) = (x7 : Int) := by rw [IntKind.wrap_i64]; omega
      have s8 : IntKind.i64.wrap (256 * (x4 : Int)) = 256 * (x4 : Int) := by rw [IntKind.wrap_i64]; omega
      have s9 : IntKind.i64.wrap (40 + 256 * (x4 : Int)) = 40 + 256 * (x4 : Int) := by rw [IntKind.wrap_i64]; omega
      have sa : IntKind.i64.wrap (40 + 256 * (x4 : Int) + (x5 : Int)) = 40 + 256 * (x4 : Int) + (x5 : Int) := by rw [IntKind.wrap_i64]; omega
      go_enter Try.func11, Try.ntmps11
      go_wp2_with fail
      rw [HZ.out]
      apply cut_world (H := fun W G => w.heap.size < G ∧ Blk W 28 G (frL f0) ∧ Blk W 28 w.heap.size (frL Fr.zero) ∧ Below w.heap.size w W)
      case h1 =>
        intro hc
        refine wp_region_held_drew (S := fun W => Below w.heap.size Z W) (by kernel_rfl) (Below.refl _ _).drew (fun hHeld => ?_)
        have HRY : Hid (Blk Z.drew 28 w.heap.size (frL Fr.zero)) := Lib.hid HR0.out
        obtain ⟨Y, hY⟩ : ∃ Y, Z.drew = Y := ⟨_, rfl⟩
        rw [hY] at HRY hHeld ⊢
        clear hY
        refine wpAnyH_take (i := 0) (oi := ⟨some 16, _, _, _, _, _⟩) (v := .slice (some ⟨b, off, none⟩) len cap) rfl (by kernel_rfl) (by kernel_rfl) (by kernel_rfl) (fun _ _ _ h => h) (Or.inl ⟨by rfl, fun _ _ => by go_simp⟩) hHeld ?_
        simp only [Act.put, List.setIfInBounds_toArray, List.set_cons_zero, List.set_cons_succ]
        refine wpAnyH_take (i := 1) (oi := ⟨some 17, _, _, _, _, _⟩) (v := .pointer (some ⟨b, off + 4, none⟩)) rfl (by kernel_rfl) (by kernel_rfl) (by kernel_rfl) (fun _ _ _ h => h) (Or.inl ⟨by rfl, fun _ _ => by go_simp⟩) hHeld ?_
        simp only [Act.put, List.setIfInBounds_toArray, List.set_cons_zero, List.set_cons_succ]
        refine wpAnyH_take (i := 2) (oi := ⟨some 18, _, _, _, _, _⟩) (v := .int .u8 (x4 : Int)) rfl (by kernel_rfl) (by kernel_rfl) (by kernel_rfl) (fun _ _ _ h => h) (Or.inl ⟨by rfl, fun W hW => by have hc := C4.out W hW; go_simp⟩) hHeld ?_
        simp only [Act.put, List.setIfInBounds_toArray, List.set_cons_zero, List.set_cons_succ]
        refine wpAnyH_take (i := 3) (oi := ⟨some 19, _, _, _, _, _⟩) (v := .int .i64 (x4 : Int)) rfl (by kernel_rfl) (by kernel_rfl) (by kernel_rfl) (fun _ _ _ h => h) (Or.inl ⟨by rfl, fun _ _ => by go_simp⟩) hHeld ?_
        simp only [Act.put, List.setIfInBounds_toArray, List.set_cons_zero, List.set_cons_succ]
        refine wpAnyH_take (i := 4) (oi := ⟨some 20, _, _, _, _, _⟩) (v := .int .i64 (256 * (x4 : Int))) rfl (by kernel_rfl) (by kernel_rfl) (by kernel_rfl) (fun _ _ _ h => h) (Or.inl ⟨by rfl, fun _ _ => by go_simp⟩) hHeld ?_
        simp only [Act.put, List.setIfInBounds_toArray, List.set_cons_zero, List.set_cons_succ]
        refine wpAnyH_take (i := 5) (oi := ⟨some 21, _, _, _, _, _⟩) (v := .int .i64 (40 + 256 * (x4 : Int))) rfl (by kernel_rfl) (by kernel_rfl) (by kernel_rfl) (fun _ _ _ h => h) (Or.inl ⟨by rfl, fun _ _ => by go_simp⟩) hHeld ?_
        simp only [Act.put, List.setIfInBounds_toArray, List.set_cons_zero, List.set_cons_succ]
        refine wpAnyH_take (i := 6) (oi := ⟨some 22, _, _, _, _, _⟩) (v := .slice (some ⟨b, off, none⟩) len cap) rfl (by kernel_rfl) (by kernel_rfl) (by kernel_rfl) (fun _ _ _ h => h) (Or.inl ⟨by rfl, fun _ _ => by go_simp⟩) hHeld ?_
        simp only [Act.put, List.setIfInBounds_toArray, List.set_cons_zero, List.set_cons_succ]
        refine wpAnyH_take (i := 7) (oi := ⟨some 23, _, _, _, _, _⟩) (v := .pointer (some ⟨b, off + 5, none⟩)) rfl (by kernel_rfl) (by kernel_rfl) (by kernel_rfl) (fun _ _ _ h => h) (Or.inl ⟨by rfl, fun _ _ => by go_simp⟩) hHeld ?_
        simp only [Act.put, List.setIfInBounds_toArray, List.set_cons_zero, List.set_cons_succ]
        refine wpAnyH_take (i := 8) (oi := ⟨some 24, _, _, _, _, _⟩) (v := .int .u8 (x5 : Int)) rfl (by kernel_rfl) (by kernel_rfl) (by kernel_rfl) (fun _ _ _ h => h) (Or.inl ⟨by rfl, fun W hW => by have hc := C5.out W hW; go_simp⟩) hHeld ?_
        simp only [Act.put, List.setIfInBounds_toArray, List.set_cons_zero, List.set_cons_succ]
        refine wpAnyH_take (i := 9) (oi := ⟨some 25, _, _, _, _, _⟩) (v := .int .i64 (x5 : Int)) rfl (by kernel_rfl) (by kernel_rfl) (by kernel_rfl) (fun _ _ _ h => h) (Or.inl ⟨by rfl, fun _ _ => by go_simp⟩) hHeld ?_
        simp only [Act.put, List.setIfInBounds_toArray, List.set_cons_zero, List.set_cons_succ]
        refine wpAnyH_take (i := 10) (oi := ⟨some 26, _, _, _, _, _⟩) (v := .int .i64 (40 + 256 * (x4 : Int) + (x5 : Int))) rfl (by kernel_rfl) (by kernel_rfl) (by kernel_rfl) (fun _ _ _ h => h) (Or.inl ⟨by rfl, fun _ _ => by go_simp⟩) hHeld ?_
        simp only [Act.put, List.setIfInBounds_toArray, List.set_cons_zero, List.set_cons_succ]
        refine wpAnyH_take (i := 11) (oi := ⟨some 27, _, _, _, _, _⟩) (v := .slice (some ⟨b, off, none⟩) len cap) rfl (by kernel_rfl) (by kernel_rfl) (by kernel_rfl) (fun _ _ _ h => h) (Or.inl ⟨by rfl, fun _ _ => by go_simp⟩) hHeld ?_
        simp only [Act.put, List.setIfInBounds_toArray, List.set_cons_zero, List.set_cons_succ]
        refine wpAnyH_take (i := 12) (oi := ⟨some 28, _, _, _, _, _⟩) (v := .pointer (some ⟨b, off + 6, none⟩)) rfl (by kernel_rfl) (by kernel_rfl) (by kernel_rfl) (fun _ _ _ h => h) (Or.inl ⟨by rfl, fun _ _ => by go_simp⟩) hHeld ?_
        simp only [Act.put, List.setIfInBounds_toArray, List.set_cons_zero, List.set_cons_succ]
        refine wpAnyH_take (i := 13) (oi := ⟨some 29, _, _, _, _, _⟩) (v := .int .u8 (x6 : Int)) rfl (by kernel_rfl) (by kernel_rfl) (by kernel_rfl) (fun _ _ _ h => h) (Or.inl ⟨by rfl, fun W hW => by have hc := C6.out W hW; go_simp⟩) hHeld ?_
        simp only [Act.put, List.setIfInBounds_toArray, List.set_cons_zero, List.set_cons_succ]
        refine wpAnyH_take (i := 14) (oi := ⟨some 30, _, _, _, _, _⟩) (v := .int .i64 (x6 : Int)) rfl (by kernel_rfl) (by kernel_rfl) (by kernel_rfl) (fun _ _ _ h => h) (Or.inl ⟨by rfl, fun _ _ => by go_simp⟩) hHeld ?_
        simp only [Act.put, List.setIfInBounds_toArray, List.set_cons_zero, List.set_cons_succ]
        refine wpAnyH_take (i := 15) (oi := ⟨some 31, _, _, _, _, _⟩) (v := .slice (some ⟨b, off, none⟩) len cap) rfl (by kernel_rfl) (by kernel_rfl) (by kernel_rfl) (fun _ _ _ h => h) (Or.inl ⟨by rfl, fun _ _ => by go_simp⟩) hHeld ?_
        simp only [Act.put, List.setIfInBounds_toArray, List.set_cons_zero, List.set_cons_succ]
        refine wpAnyH_take (i := 16) (oi := ⟨some 32, _, _, _, _, _⟩) (v := .pointer (some ⟨b, off + 7, none⟩)) rfl (by kernel_rfl) (by kernel_rfl) (by kernel_rfl) (fun _ _ _ h => h) (Or.inl ⟨by rfl, fun _ _ => by go_simp⟩) hHeld ?_
        simp only [Act.put, List.setIfInBounds_toArray, List.set_cons_zero, List.set_cons_succ]
        refine wpAnyH_take (i := 17) (oi := ⟨some 33, _, _, _, _, _⟩) (v := .int .u8 (x7 : Int)) rfl (by kernel_rfl) (by kernel_rfl) (by kernel_rfl) (fun _ _ _ h => h) (Or.inl ⟨by rfl, fun W hW => by have hc := C7.out W hW; go_simp⟩) hHeld ?_
        simp only [Act.put, List.setIfInBounds_toArray, List.set_cons_zero, List.set_cons_succ]
        refine wpAnyH_take (i := 18) (oi := ⟨some 34, _, _, _, _, _⟩) (v := .int .i64 (x7 : Int)) rfl (by kernel_rfl) (by kernel_rfl) (by kernel_rfl) (fun _ _ _ h => h) (Or.inl ⟨by rfl, fun _ _ => by go_simp⟩) hHeld ?_
        simp only [Act.put, List.setIfInBounds_toArray, List.set_cons_zero, List.set_cons_succ]
        refine wpAnyH_take (i := 19) (oi := ⟨some 35, _, _, _, _, _⟩) (v := .slice (some ⟨b, off, none⟩) len cap) rfl (by kernel_rfl) (by kernel_rfl) (by kernel_rfl) (fun _ _ _ h => h) (Or.inl ⟨by rfl, fun _ _ => by go_simp⟩) hHeld ?_
        simp only [Act.put, List.setIfInBounds_toArray, List.set_cons_zero, List.set_cons_succ]
        refine wpAnyH_take (i := 21) (oi := ⟨some 37, _, _, _, _, _⟩) (v := .slice (some ⟨b, off, none⟩) len cap) rfl (by kernel_rfl) (by kernel_rfl) (by kernel_rfl) (fun _ _ _ h => h) (Or.inl ⟨by rfl, fun _ _ => by go_simp⟩) hHeld ?_
        simp only [Act.put, List.setIfInBounds_toArray, List.set_cons_zero, List.set_cons_succ]
        refine wpAnyH_ready (rs := [20, 24]) (by kernel_rfl) (by simp) ?_
        refine AllReadyH.cons (o := ⟨some 36, _, _, _, _, _⟩) rfl (fun K hK => ?_) ?_
        · skip
          go_simp
          refine (HA8.out _ hHeld).mono ?_
          rintro e3 w3 ⟨rfl, hb3⟩
          have HR3 := Lib.hid (HRY.out.below HRY.out.lt hb3)
          refine hK.out _ _ (hHeld.trans (hb3.mono (Nat.le_trans HB0.out.size hHeld.size))) (fun hHeld => ?_)
          clear hK K hb3
          refine wpAnyH_ready (rs := [22, 24]) (by kernel_rfl) (by simp) ?_
          refine AllReadyH.cons (o := ⟨some 38, _, _, _, _, _⟩) rfl (fun K hK => ?_) ?_
          · skip
            go_simp
            refine (HA24.out _ hHeld).mono ?_
            rintro e4 w4 ⟨rfl, hb4⟩
            have HR4 := Lib.hid (HR3.out.below HR3.out.lt hb4)
            refine hK.out _ _ (hHeld.trans (hb4.mono (Nat.le_trans HB0.out.size hHeld.size))) (fun hHeld => ?_)
            clear hK K hb4
            refine wpAnyH_take (i := 23) (oi := ⟨some 39, _, _, _, _, _⟩) (v := .agg (frL f0).toArray) rfl (by kernel_rfl) (by kernel_rfl) (by kernel_rfl) (fun _ _ _ h => h) (yields_build (by rfl) 28 _ rfl _ (by kernel_rfl) _ HBU.out) hHeld ?_
            simp only [Act.put, List.setIfInBounds_toArray, List.set_cons_zero, List.set_cons_succ]
            refine wpAnyH_ready (rs := [24]) (by kernel_rfl) (by simp) ?_
            refine AllReadyH.cons (o := ⟨some 4, _, _, _, _, _⟩) rfl (fun K hK => ?_) ?_
            · skip
              go_simp
              rw [zeroF]
              have hn := Blk.new w4 28 (frL Fr.zero)
              have hr := HR4.out.alloc (.cells (frL Fr.zero).toArray 28)
              have hh := hHeld.alloc (Nat.le_trans HB0.out.size hHeld.size) (.cells (frL Fr.zero).toArray 28)
              have hgt := HR4.out.lt
              generalize w4.alloc (.cells (frL Fr.zero).toArray 28) = wa at hn hr hh ⊢
              generalize w4.heap.size = G at hn hgt ⊢
              have HGa := Lib.hid hn
              have HRa := Lib.hid hr
              have HGT := Lib.hid hgt
              clear hn hr hgt
              refine hK.out _ _ hh (fun hHeld => ?_)
              clear hK K hh
              refine wpAnyH_ready (rs := [25]) (by kernel_rfl) (by simp) (AllReadyH.cons (o := ⟨none, _, _, _, _, _⟩) rfl (fun K hK => ?_) AllReadyH.nil)
              refine step_storeR rfl 28 _ _ rfl G (by rfl) (frL f0) (by rfl) _ HGa.out (by rw [frL_len HOK0.out]; rfl) (sizeFrL HOK0.out) (frL_one _) ?_
              have hq := Lib.hid (HGa.out.setRow_ (frL f0))
              have hr := Lib.hid (HRa.out.setRow_far (b := G) (Nat.ne_of_lt HGT.out) (frL f0).toArray)
              have hh := below_setRow hHeld (Nat.le_of_lt HGT.out) (frL f0).toArray
              refine hK.out _ _ hh (fun hHeld => ?_)
              clear hK K
              refine wpAnyH_done (by kernel_rfl) ?_ _
              generalize World.setRow _ G (frL f0).toArray = wz at hq hr hh ⊢
              exact hc wz G ⟨HGT.out, hq.out, hr.out, HB0.out.trans hh⟩
            exact AllReadyH.nil
          refine AllReadyH.cons (o := ⟨some 4, _, _, _, _, _⟩) rfl (fun K hK => ?_) ?_
          · skip
            go_simp
            rw [zeroF]
            have hn := Blk.new w3 28 (frL Fr.zero)
            have hr := HR3.out.alloc (.cells (frL Fr.zero).toArray 28)
            have hh := hHeld.alloc (Nat.le_trans HB0.out.size hHeld.size) (.cells (frL Fr.zero).toArray 28)
            have hgt := HR3.out.lt
            generalize w3.alloc (.cells (frL Fr.zero).toArray 28) = wa at hn hr hh ⊢
            generalize w3.heap.size = G at hn hgt ⊢
            have HGa := Lib.hid hn
            have HRa := Lib.hid hr
            have HGT := Lib.hid hgt
            clear hn hr hgt
            refine hK.out _ _ hh (fun hHeld => ?_)
            clear hK K hh
            refine wpAnyH_ready (rs := [22]) (by kernel_rfl) (by simp) ?_
            refine AllReadyH.cons (o := ⟨some 38, _, _, _, _, _⟩) rfl (fun K hK => ?_) ?_
            · skip
              go_simp
              refine (HA24.out _ hHeld).mono ?_
              rintro e4 w4 ⟨rfl, hb4⟩
              have HR4 := Lib.hid (HRa.out.below HRa.out.lt hb4)
              have HG4 := Lib.hid (HGa.out.below HGa.out.lt hb4)
              refine hK.out _ _ (hHeld.trans (hb4.mono (Nat.le_trans HB0.out.size hHeld.size))) (fun hHeld => ?_)
              clear hK K hb4
              refine wpAnyH_take (i := 23) (oi := ⟨some 39, _, _, _, _, _⟩) (v := .agg (frL f0).toArray) rfl (by kernel_rfl) (by kernel_rfl) (by kernel_rfl) (fun _ _ _ h => h) (yields_build (by rfl) 28 _ rfl _ (by kernel_rfl) _ HBU.out) hHeld ?_
              simp only [Act.put, List.setIfInBounds_toArray, List.set_cons_zero, List.set_cons_succ]
              refine wpAnyH_ready (rs := [25]) (by kernel_rfl) (by simp) (AllReadyH.cons (o := ⟨none, _, _, _, _, _⟩) rfl (fun K hK => ?_) AllReadyH.nil)
              refine step_storeR rfl 28 _ _ rfl G (by rfl) (frL f0) (by rfl) _ HG4.out (by rw [frL_len HOK0.out]; rfl) (sizeFrL HOK0.out) (frL_one _) ?_
              have hq := Lib.hid (HG4.out.setRow_ (frL f0))
              have hr := Lib.hid (HR4.out.setRow_far (b := G) (Nat.ne_of_lt HGT.out) (frL f0).toArray)
              have hh := below_setRow hHeld (Nat.le_of_lt HGT.out) (frL f0).toArray
              refine hK.out _ _ hh (fun hHeld => ?_)
              clear hK K
              refine wpAnyH_done (by kernel_rfl) ?_ _
              generalize World.setRow _ G (frL f0).toArray = wz at hq hr hh ⊢
              exact hc wz G ⟨HGT.out, hq.out, hr.out, HB0.out.trans hh⟩
            exact AllReadyH.nil
          exact AllReadyH.nil
        refine AllReadyH.cons (o := ⟨some 4, _, _, _, _, _⟩) rfl (fun K hK => ?_) ?_
        · skip
          go_simp
          rw [zeroF]
          have hn := Blk.new Y 28 (frL Fr.zero)
          have hr := HRY.out.alloc (.cells (frL Fr.zero).toArray 28)
          have hh := hHeld.alloc (Nat.le_trans HB0.out.size hHeld.size) (.cells (frL Fr.zero).toArray 28)
          have hgt := HRY.out.lt
          generalize Y.alloc (.cells (frL Fr.zero).toArray 28) = wa at hn hr hh ⊢
          generalize Y.heap.size = G at hn hgt ⊢
          have HGa := Lib.hid hn
          have HRa := Lib.hid hr
          have HGT := Lib.hid hgt
          clear hn hr hgt
          refine hK.out _ _ hh (fun hHeld => ?_)
          clear hK K hh
          refine wpAnyH_ready (rs := [20]) (by kernel_rfl) (by simp) ?_
          refine AllReadyH.cons (o := ⟨some 36, _, _, _, _, _⟩) rfl (fun K hK => ?_) ?_
          · skip
            go_simp
            refine (HA8.out _ hHeld).mono ?_
            rintro e3 w3 ⟨rfl, hb3⟩
            have HR3 := Lib.hid (HRa.out.below HRa.out.lt hb3)
            have HG3 := Lib.hid (HGa.out.below HGa.out.lt hb3)
            refine hK.out _ _ (hHeld.trans (hb3.mono (Nat.le_trans HB0.out.size hHeld.size))) (fun hHeld => ?_)
            clear hK K hb3
            refine wpAnyH_ready (rs := [22]) (by kernel_rfl) (by simp) ?_
            refine AllReadyH.cons (o := ⟨some 38, _, _, _, _, _⟩) rfl (fun K hK => ?_) ?_
            · skip
              go_simp
              refine (HA24.out _ hHeld).mono ?_
              rintro e4 w4 ⟨rfl, hb4⟩
              have HR4 := Lib.hid (HR3.out.below HR3.out.lt hb4)
              have HG4 := Lib.hid (HG3.out.below HG3.out.lt hb4)
              refine hK.out _ _ (hHeld.trans (hb4.mono (Nat.le_trans HB0.out.size hHeld.size))) (fun hHeld => ?_)
              clear hK K hb4
              refine wpAnyH_take (i := 23) (oi := ⟨some 39, _, _, _, _, _⟩) (v := .agg (frL f0).toArray) rfl (by kernel_rfl) (by kernel_rfl) (by kernel_rfl) (fun _ _ _ h => h) (yields_build (by rfl) 28 _ rfl _ (by kernel_rfl) _ HBU.out) hHeld ?_
              simp only [Act.put, List.setIfInBounds_toArray, List.set_cons_zero, List.set_cons_succ]
              refine wpAnyH_ready (rs := [25]) (by kernel_rfl) (by simp) (AllReadyH.cons (o := ⟨none, _, _, _, _, _⟩) rfl (fun K hK => ?_) AllReadyH.nil)
              refine step_storeR rfl 28 _ _ rfl G (by rfl) (frL f0) (by rfl) _ HG4.out (by rw [frL_len HOK0.out]; rfl) (sizeFrL HOK0.out) (frL_one _) ?_
              have hq := Lib.hid (HG4.out.setRow_ (frL f0))
              have hr := Lib.hid (HR4.out.setRow_far (b := G) (Nat.ne_of_lt HGT.out) (frL f0).toArray)
              have hh := below_setRow hHeld (Nat.le_of_lt HGT.out) (frL f0).toArray
              refine hK.out _ _ hh (fun hHeld => ?_)
              clear hK K
              refine wpAnyH_done (by kernel_rfl) ?_ _
              generalize World.setRow _ G (frL f0).toArray = wz at hq hr hh ⊢
              exact hc wz G ⟨HGT.out, hq.out, hr.out, HB0.out.trans hh⟩
            exact AllReadyH.nil
          exact AllReadyH.nil
        exact AllReadyH.nil
      case h2 =>
        intro wz G hcc
        obtain ⟨hgt, hq, hr, hb⟩ := hcc
        have c1 := hq.cell (i := 1) (v := .int .i64 f0.total) rfl
        rw [show f0.total = ((totN xs : Nat) : Int) by rw [← Hf0.out]; rfl] at c1
        rw [← Hf0.out] at hq
        have HGT := Lib.hid hgt
        have HQ := Lib.hid hq
        have HR := Lib.hid hr
        have HB := Lib.hid hb
        have hTl := totN_lt xs
        clear hgt hq hr hb C4 C5 C6 C7 HA8 HA24 HBU HTN HI0 HR0 HB0 HZ c0 s4 s5 s6 s7 s8 s9 sa l4 l5 l6 l7 l0 X4 X5 X6 X7 hx0 v1 HOK0 Hf0
        by_cases hlt : len < totN xs
        · have hF := F2.out hv'.out hlt
          have hR := HFB.out (by omega)
          have hN := HNB.out (by omega)
          rw [hF] at hN
          have Q := Lib.hid (And.intro hR hN)
          have hlt' : (len : Int) < ((totN xs : Nat) : Int) := by omega
          clear hF hR hN hlt
          go_wp2_with (first
            | ((with_reducible show wpList _ _ _ _ _ _); refine wpList_buildTo rfl 28 _ rfl (some 45) rfl (frL Fr.zero).toArray (by kernel_rfl) ?_)
            | ((with_reducible show wpList _ _ _ _ _ _); refine wpList_storeR rfl 28 (.tmp 2) (.tmp 45) rfl w.heap.size (by rfl) (frL Fr.zero) (by rfl) _ HR.out rfl (sizeFrL HZO.out) (frL_one _) ?_))
          refine bodyPost_ret (v := .tuple #[frC Fr.zero, .int .i64 2]) (results_fr rfl _ _ w.heap.size (by rfl) _ HZO.out (HR.out.setRow_ _) _ (by rfl)) rfl ?_
          exact ⟨by rw [Q.out.1, Q.out.2]; rfl, below_setRow HB.out (Nat.le_refl _) _⟩
        · have hF0 := F3.out hv'.out (by omega)
          have hlt' : ¬ (len : Int) < ((totN xs : Nat) : Int) := by omega
          have HF0 := Lib.hid hF0
          have HTX := Lib.hid (show totN xs ≤ len by omega)
          have HT40 := Lib.hid (show 40 ≤ totN xs by unfold totN; omega)
          have HTL := Lib.hid hTl
          clear hF0 hlt F1 F2 F3 HNB HFB hv' hTl
          go_wp2_with fail
          clear c1 hlt'
          go_loopg [5] 9 (fun gh v5 wr => ∃ k : Wk, k.exts + gh = 9 ∧ walkOf xs (totN xs) k = walkOf xs (totN xs) (wk0 xs) ∧ k.Fit (totN xs) ∧ Blk wr 28 w.heap.size (frL Fr.zero) ∧ Blk wr 28 G (frL (hdAt xs k)) ∧ Below w.heap.size w wr)
          case atStart => exact ⟨wk0 xs, rfl, rfl, wk0_fit HT40.out, HR.out, HQ.out, HB.out⟩
          case round =>
            clear HR HQ HB
            obtain ⟨k, hgh, hwk, hfit, bR, bH, hB⟩ := hrel
            have c0 := bH.cell (i := 0) (v := .int .i64 (k.head : Nat)) rfl
            have c1 := bH.cell (i := 1) (v := .int .i64 (totN xs : Nat)) rfl
            have c3 := bH.cell (i := 3) (v := .bool k.frag) rfl
            have c4 := bH.cell (i := 4) (v := .int .i64 (k.exts : Nat)) rfl
            have c5 := bH.cell (i := 5) (v := .int .i64 (k.proto : Nat)) rfl
            have HX := Lib.hid (fun W => rext_any (k.proto : Int) W)
            rw [extI_nat] at HX
            have HO := Lib.hid (HOK.out k)
            have HI4 := Lib.hid (HIW.out.below hB)
            have HBR := Lib.hid bR
            have HBH := Lib.hid bH
            have HBB := Lib.hid hB
            have HFIT := Lib.hid hfit
            have HWK := Lib.hid hwk
            have HGH := Lib.hid hgh
            clear bR bH hB hfit hwk hgh
            by_cases hg : goB k = true
            · have hx : extB k.proto = true := by unfold goB at hg; exact (Bool.and_eq_true _ _ ▸ hg).1
              have hfr : k.frag = false := by unfold goB at hg; have := (Bool.and_eq_true _ _ ▸ hg).2; simpa using this
              rw [hfr] at c3
              rw [hx] at HX
              have HGO := Lib.hid hg
              have HFR := Lib.hid hfr
              have hh0 := HFIT.out.h0
              have hh1 := HFIT.out.h1
              have hTl := HTL.out
              have hTx := HTX.out
              have he := HFIT.out.e
              have hnt := HFIT.out.p
              clear hg hfr
              by_cases e8 : k.exts = 8
              · have q8 : ((k.exts : Int) == 8) = true := by simp; omega
                have Q := Lib.hid (rd_stop HF0.out HWK.out HGO.out he (by rw [step_four e8]; decide))
                rw [step_four e8] at Q
                clear e8
                go_wp2_with fail
                refine (HX.out _).mono ?_
                rintro e w5 ⟨rfl, rfl⟩
                go_wp2_with (first
                  | ((with_reducible show wpList _ _ _ _ _ _); refine wpList_buildTo rfl 28 _ rfl (some 57) rfl (frL Fr.zero).toArray (by kernel_rfl) ?_)
                  | ((with_reducible show wpList _ _ _ _ _ _); refine wpList_storeR rfl 28 (.tmp 2) (.tmp 57) rfl w.heap.size (by rfl) (frL Fr.zero) (by rfl) _ HBR.out rfl (sizeFrL HZO.out) (frL_one _) ?_))
                refine bodyPost_ret (v := .tuple #[frC Fr.zero, .int .i64 4]) (results_fr rfl _ _ w.heap.size (by rfl) _ HZO.out (HBR.out.setRow_ _) _ (by rfl)) rfl ?_
                exact ⟨by rw [Q.out.1, Q.out.2]; rfl, below_setRow HBB.out (Nat.le_refl _) _⟩
              have E8 := Lib.hid e8
              have q8 : ((k.exts : Int) == 8) = false := by simp; omega
              clear e8
              have hsub : IntKind.i64.wrap (((totN xs : Nat) : Int) - (k.head : Int)) = ((totN xs - k.head : Nat) : Int) := by rw [IntKind.wrap_i64]; omega
              by_cases l8 : totN xs - k.head < 8
              · have l8' : ((totN xs - k.head : Nat) : Int) < 8 := by omega
                have Q := Lib.hid (rd_stop HF0.out HWK.out HGO.out he (by rw [step_few E8.out l8]; decide))
                rw [step_few E8.out l8] at Q
                clear l8
                go_wp2_with fail
                refine (HX.out _).mono ?_
                rintro e w5 ⟨rfl, rfl⟩
                go_wp2_with (first
                  | ((with_reducible show wpList _ _ _ _ _ _); refine wpList_buildTo rfl 28 _ rfl (some 64) rfl (frL Fr.zero).toArray (by kernel_rfl) ?_)
                  | ((with_reducible show wpList _ _ _ _ _ _); refine wpList_storeR rfl 28 (.tmp 2) (.tmp 64) rfl w.heap.size (by rfl) (frL Fr.zero) (by rfl) _ HBR.out rfl (sizeFrL HZO.out) (frL_one _) ?_))
                refine bodyPost_ret (v := .tuple #[frC Fr.zero, .int .i64 2]) (results_fr rfl _ _ w.heap.size (by rfl) _ HZO.out (HBR.out.setRow_ _) _ (by rfl)) rfl ?_
                exact ⟨by rw [Q.out.1, Q.out.2]; rfl, below_setRow HBB.out (Nat.le_refl _) _⟩
              have l8' : ¬ ((totN xs - k.head : Nat) : Int) < 8 := by omega
              have HS := Lib.hid (fun W (hW : Rd W w.heap.size (some ⟨b, off, none⟩) len xs) => rsize_any (cap := cap) (p := k.proto) (at_ := k.head) hx (k.proto : Int) (k.head : Int) rfl rfl (by omega) (by omega) hW)
              have hm := batN_lt xs (k.head + 1)
              have hszl := szN_le k.proto _ hm
              have SL := Lib.hid (fun h => step_less (xs := xs) (T := totN xs) (k := k) E8.out h)
              have SO := Lib.hid (fun h => step_ok (xs := xs) (T := totN xs) (k := k) E8.out h)
              have HSK := Lib.hid (show (stepK xs k).head = k.head + szN k.proto (batN xs (k.head + 1)) from rfl)
              clear hm
              generalize szN k.proto (batN xs (k.head + 1)) = sz at *
              by_cases hl : totN xs - k.head < sz
              · have hl' : ((totN xs - k.head : Nat) : Int) < (sz : Int) := by omega
                have Q := Lib.hid (rd_stop HF0.out HWK.out HGO.out he (by rw [SL.out hl]; decide))
                rw [SL.out hl] at Q
                clear hl l8
                go_wp2_with fail
                refine (HX.out _).mono ?_
                rintro e w5 ⟨rfl, rfl⟩
                go_wp2_with fail
                refine (HS.out _ HI4.out).mono ?_
                rintro e w5 ⟨rfl, rfl⟩
                go_wp2_with (first
                  | ((with_reducible show wpList _ _ _ _ _ _); refine wpList_buildTo rfl 28 _ rfl (some 78) rfl (frL Fr.zero).toArray (by kernel_rfl) ?_)
                  | ((with_reducible show wpList _ _ _ _ _ _); refine wpList_storeR rfl 28 (.tmp 2) (.tmp 78) rfl w.heap.size (by rfl) (frL Fr.zero) (by rfl) _ HBR.out rfl (sizeFrL HZO.out) (frL_one _) ?_))
                refine bodyPost_ret (v := .tuple #[frC Fr.zero, .int .i64 2]) (results_fr rfl _ _ w.heap.size (by rfl) _ HZO.out (HBR.out.setRow_ _) _ (by rfl)) rfl ?_
                exact ⟨by rw [Q.out.1, Q.out.2]; rfl, below_setRow HBB.out (Nat.le_refl _) _⟩
              have hl' : ¬ ((totN xs - k.head : Nat) : Int) < (sz : Int) := by omega
              have hs0 := SO.out (by omega)
              have HNX := Lib.hid ((walk_step HGO.out he hs0).symm.trans HWK.out)
              have HFX := Lib.hid (stepK_fit HFIT.out hs0)
              have HE7 := Lib.hid (step_fits hs0 he)
              have HKE := Lib.hid (show hdAt xs (stepK xs k) = ⟨((stepK xs k).head : Nat), (hdAt xs k).total, (hdAt xs k).hop, fragB k.proto (wat xs (k.head + 2)), ((k.exts + 1 : Nat) : Int), (batN xs k.head : Nat), (hdAt xs k).s, (hdAt xs k).d⟩ from rfl)
              have HKF := Lib.hid (show (hdAt xs k).frag = false from HFR.out)
              rw [HSK.out] at HKE
              have HC0 := Lib.hid (fun W (hW : Below w.heap.size wr W) => (HI4.out.below hW).cellD (k := k.head) (by omega))
              have d2 := HI4.out.cellD (k := k.head + 2) (by omega)
              have d3 := HI4.out.cellD (k := k.head + 3) (by omega)
              have ha2 : IntKind.i64.wrap ((k.head : Int) + 2) = ((k.head + 2 : Nat) : Int) := by rw [IntKind.wrap_i64]; omega
              have ha3 : IntKind.i64.wrap ((k.head : Int) + 3) = ((k.head + 3 : Nat) : Int) := by rw [IntKind.wrap_i64]; omega
              have ll0 : ((k.head : Nat) : Int) < (len : Int) := by omega
              have ll2 : ((k.head + 2 : Nat) : Int) < (len : Int) := by omega
              have ll3 : ((k.head + 3 : Nat) : Int) < (len : Int) := by omega
              have hw0 : IntKind.i64.wrap ((k.head : Int) + (sz : Int)) = ((k.head + sz : Nat) : Int) := by rw [IntKind.wrap_i64]; omega
              have hw1 : IntKind.i64.wrap ((k.exts : Int) + 1) = ((k.exts + 1 : Nat) : Int) := by rw [IntKind.wrap_i64]; omega
              have hb0l := batN_lt xs k.head
              have hb2l := batN_lt xs (k.head + 2)
              have hb3l := batN_lt xs (k.head + 3)
              have hwat : wat xs (k.head + 2) = 256 * batN xs (k.head + 2) + batN xs (k.head + 3) := rfl
              have HON := Lib.hid (HOK.out (stepK xs k))
              have hfbn : k.proto ≠ 44 → fragB k.proto (wat xs (k.head + 2)) = false := fun h => by simp [fragB, h]
              have hfby : k.proto = 44 → fragB k.proto (wat xs (k.head + 2)) = (wat xs (k.head + 2) / 8 != 0 || wat xs (k.head + 2) % 2 != 0) := fun h => by simp [fragB, h]
              generalize fragB k.proto (wat xs (k.head + 2)) = fb at *
              rw [hwat] at hfby
              clear hwat
              obtain ⟨h, hh⟩ : ∃ h, hdAt xs k = h := ⟨_, rfl⟩
              rw [hh] at HKE HKF HBH HO
              have D0 := Lib.hid (show h.head = ((k.head : Nat) : Int) by rw [← hh]; rfl)
              have D4 := Lib.hid (show h.exts = ((k.exts : Nat) : Int) by rw [← hh]; rfl)
              clear hh
              generalize batN xs k.head = y0 at *
              generalize batN xs (k.head + 2) = y2 at *
              generalize batN xs (k.head + 3) = y3 at *
              have u0 : IntKind.i64.wrap (y0 : Int) = (y0 : Int) := by rw [IntKind.wrap_i64]; omega
              have u1 : IntKind.u8.wrap ((y3 : Int) / 8) = (y3 : Int) / 8 := by rw [IntKind.wrap_u8]; omega
              have u2 : IntKind.u8.wrap ((y3 : Int) % 2) = (y3 : Int) % 2 := by rw [IntKind.wrap_u8]; omega
              have m2 : ((y3 : Int)).tmod 2 = (y3 : Int) % 2 := Int.tmod_eq_emod_of_nonneg (by omega)
              have m8 : ((y3 : Int)).tdiv 8 = (y3 : Int) / 8 := Int.tdiv_eq_ediv_of_nonneg (by omega)
              have HD2 := Lib.hid d2
              have HD3 := Lib.hid d3
              have HFBY := Lib.hid hfby
              have HL' := Lib.hid hl'
              clear d2 d3 hfby hl hs0 l8 SL SO hszl
              by_cases p44 : k.proto = 44
              · have Q44 := Lib.hid (show ((k.proto : Int) == 44) = true by simp; omega)
                have hfb := HFBY.out p44
                clear p44 hfbn
                go_wp2_with fail
                refine (HX.out _).mono ?_
                rintro e w5 ⟨rfl, rfl⟩
                go_wp2_with fail
                refine (HS.out _ HI4.out).mono ?_
                rintro e w5 ⟨rfl, rfl⟩
                have q44 := Q44.out
                have d2 := HD2.out
                have d3 := HD3.out
                by_cases z2 : y2 = 0
                · have n2 : ((y2 : Int) != 0) = false := by simp; omega
                  by_cases z3 : y3 / 8 = 0
                  · have n3 : ((y3 : Int) / 8 != 0) = false := by simp; omega
                    by_cases z4 : y3 % 2 = 1
                    · have n4 : ((y3 : Int) % 2 == 1) = true := by simp; omega
                      have hft : fb = true := by rw [hfb]; simp; omega
                      clear hfb z2 z3 z4
                      subst hft
                      go_wp2_with (first
                        | ((with_reducible show wpList _ _ _ _ _ _); refine wpList_storeB rfl (.tmp 111) (.const (.bool true)) rfl G 3 (by rfl) true (by rfl) 28 _ HBH.out h.frag rfl ?_; intro w6 hq6 hf6 hb6; have V1 : Hid (Blk w6 28 G (frL ⟨h.head, h.total, h.hop, true, h.exts, h.proto, h.s, h.d⟩)) := Lib.hid hq6; have V2 : Hid (Blk w6 28 w.heap.size (frL Fr.zero)) := Lib.hid ((hf6 _ (Nat.ne_of_lt HGT.out)).trans HBR.out); have V3 := Lib.hid (hb6.mono (Nat.le_of_lt HGT.out)); clear c0 c1 c3 c4 c5 d2 d3; have c0 := V1.out.cell (i := 0) (v := .int .i64 h.head) rfl; rw [D0.out] at c0; have c0b := HC0.out w6 V3.out; clear hq6 hf6 hb6)
                        | ((with_reducible show wpList _ _ _ _ _ _); refine wpList_storeI rfl (.tmp 118) (.tmp 117) rfl G 5 (by rfl) (y0 : Int) (by rfl) 28 _ V1.out h.proto rfl ?_; intro w7 hq7 hf7 hb7; have Q7 : Hid (Blk w7 28 G (frL ⟨h.head, h.total, h.hop, true, h.exts, (y0 : Int), h.s, h.d⟩)) := Lib.hid hq7; have R7 : Hid (Blk w7 28 w.heap.size (frL Fr.zero)) := Lib.hid ((hf7 _ (Nat.ne_of_lt HGT.out)).trans V2.out); have B7 := Lib.hid (V3.out.trans (hb7.mono (Nat.le_of_lt HGT.out))); have z0 := Q7.out.cell (i := 0) (v := .int .i64 h.head) rfl; rw [D0.out] at z0; clear hq7 hf7 hb7)
                        | ((with_reducible show wpList _ _ _ _ _ _); refine wpList_storeI rfl (.tmp 123) (.tmp 122) rfl G 0 (by rfl) ((k.head + sz : Nat) : Int) (by rfl) 28 _ Q7.out h.head rfl ?_; intro w8 hq8 hf8 hb8; have Q8 : Hid (Blk w8 28 G (frL ⟨((k.head + sz : Nat) : Int), h.total, h.hop, true, h.exts, (y0 : Int), h.s, h.d⟩)) := Lib.hid hq8; have R8 : Hid (Blk w8 28 w.heap.size (frL Fr.zero)) := Lib.hid ((hf8 _ (Nat.ne_of_lt HGT.out)).trans R7.out); have B8 := Lib.hid (B7.out.trans (hb8.mono (Nat.le_of_lt HGT.out))); have z4 := Q8.out.cell (i := 4) (v := .int .i64 h.exts) rfl; rw [D4.out] at z4; clear hq8 hf8 hb8 z0)
                        | ((with_reducible show wpList _ _ _ _ _ _); refine wpList_storeI rfl (.tmp 127) (.tmp 126) rfl G 4 (by rfl) ((k.exts + 1 : Nat) : Int) (by rfl) 28 _ Q8.out h.exts rfl ?_; intro w9 hq9 hf9 hb9; have Q9 : Hid (Blk w9 28 G (frL (hdAt xs (stepK xs k)))) := Lib.hid (by rw [HKE.out]; exact hq9); have R9 : Hid (Blk w9 28 w.heap.size (frL Fr.zero)) := Lib.hid ((hf9 _ (Nat.ne_of_lt HGT.out)).trans R8.out); have B9 := Lib.hid (B8.out.trans (hb9.mono (Nat.le_of_lt HGT.out))); clear hq9 hf9 hb9 z4))
                      go_roundg (gk - 1)
                      case measure => have := HGH.out; have := HE7.out; omega
                      case rel => exact ⟨stepK xs k, by have := HGH.out; have := HE7.out; show k.exts + 1 + (gk - 1) = 9; omega, HNX.out, HFX.out, R9.out, Q9.out, HBB.out.trans B9.out⟩
                    · have n4 : ((y3 : Int) % 2 == 1) = false := by simp; omega
                      have hft : fb = false := by rw [hfb]; simp; omega
                      clear hfb z2 z3 z4
                      subst hft
                      have V1 : Hid (Blk wr 28 G (frL ⟨h.head, h.total, h.hop, false, h.exts, h.proto, h.s, h.d⟩)) := Lib.hid (by rw [← HKF.out]; exact HBH.out)
                      have V2 := HBR
                      have V3 := Lib.hid (Below.refl w.heap.size wr)
                      have c0b := HC0.out wr V3.out
                      go_wp2_with (first
                        | ((with_reducible show wpList _ _ _ _ _ _); refine wpList_storeI rfl (.tmp 118) (.tmp 117) rfl G 5 (by rfl) (y0 : Int) (by rfl) 28 _ V1.out h.proto rfl ?_; intro w7 hq7 hf7 hb7; have Q7 : Hid (Blk w7 28 G (frL ⟨h.head, h.total, h.hop, false, h.exts, (y0 : Int), h.s, h.d⟩)) := Lib.hid hq7; have R7 : Hid (Blk w7 28 w.heap.size (frL Fr.zero)) := Lib.hid ((hf7 _ (Nat.ne_of_lt HGT.out)).trans V2.out); have B7 := Lib.hid (V3.out.trans (hb7.mono (Nat.le_of_lt HGT.out))); have z0 := Q7.out.cell (i := 0) (v := .int .i64 h.head) rfl; rw [D0.out] at z0; clear hq7 hf7 hb7)
                        | ((with_reducible show wpList _ _ _ _ _ _); refine wpList_storeI rfl (.tmp 123) (.tmp 122) rfl G 0 (by rfl) ((k.head + sz : Nat) : Int) (by rfl) 28 _ Q7.out h.head rfl ?_; intro w8 hq8 hf8 hb8; have Q8 : Hid (Blk w8 28 G (frL ⟨((k.head + sz : Nat) : Int), h.total, h.hop, false, h.exts, (y0 : Int), h.s, h.d⟩)) := Lib.hid hq8; have R8 : Hid (Blk w8 28 w.heap.size (frL Fr.zero)) := Lib.hid ((hf8 _ (Nat.ne_of_lt HGT.out)).trans R7.out); have B8 := Lib.hid (B7.out.trans (hb8.mono (Nat.le_of_lt HGT.out))); have z4 := Q8.out.cell (i := 4) (v := .int .i64 h.exts) rfl; rw [D4.out] at z4; clear hq8 hf8 hb8 z0)
                        | ((with_reducible show wpList _ _ _ _ _ _); refine wpList_storeI rfl (.tmp 127) (.tmp 126) rfl G 4 (by rfl) ((k.exts + 1 : Nat) : Int) (by rfl) 28 _ Q8.out h.exts rfl ?_; intro w9 hq9 hf9 hb9; have Q9 : Hid (Blk w9 28 G (frL (hdAt xs (stepK xs k)))) := Lib.hid (by rw [HKE.out]; exact hq9); have R9 : Hid (Blk w9 28 w.heap.size (frL Fr.zero)) := Lib.hid ((hf9 _ (Nat.ne_of_lt HGT.out)).trans R8.out); have B9 := Lib.hid (B8.out.trans (hb9.mono (Nat.le_of_lt HGT.out))); clear hq9 hf9 hb9 z4))
                      go_roundg (gk - 1)
                      case measure => have := HGH.out; have := HE7.out; omega
                      case rel => exact ⟨stepK xs k, by have := HGH.out; have := HE7.out; show k.exts + 1 + (gk - 1) = 9; omega, HNX.out, HFX.out, R9.out, Q9.out, HBB.out.trans B9.out⟩
                  · have n3 : ((y3 : Int) / 8 != 0) = true := by simp; omega
                    have hft : fb = true := by rw [hfb]; simp; omega
                    clear hfb z2 z3
                    subst hft
                    go_wp2_with (first
                      | ((with_reducible show wpList _ _ _ _ _ _); refine wpList_storeB rfl (.tmp 111) (.const (.bool true)) rfl G 3 (by rfl) true (by rfl) 28 _ HBH.out h.frag rfl ?_; intro w6 hq6 hf6 hb6; have V1 : Hid (Blk w6 28 G (frL ⟨h.head, h.total, h.hop, true, h.exts, h.proto, h.s, h.d⟩)) := Lib.hid hq6; have V2 : Hid (Blk w6 28 w.heap.size (frL Fr.zero)) := Lib.hid ((hf6 _ (Nat.ne_of_lt HGT.out)).trans HBR.out); have V3 := Lib.hid (hb6.mono (Nat.le_of_lt HGT.out)); clear c0 c1 c3 c4 c5 d2 d3; have c0 := V1.out.cell (i := 0) (v := .int .i64 h.head) rfl; rw [D0.out] at c0; have c0b := HC0.out w6 V3.out; clear hq6 hf6 hb6)
                      | ((with_reducible show wpList _ _ _ _ _ _); refine wpList_storeI rfl (.tmp 118) (.tmp 117) rfl G 5 (by rfl) (y0 : Int) (by rfl) 28 _ V1.out h.proto rfl ?_; intro w7 hq7 hf7 hb7; have Q7 : Hid (Blk w7 28 G (frL ⟨h.head, h.total, h.hop, true, h.exts, (y0 : Int), h.s, h.d⟩)) := Lib.hid hq7; have R7 : Hid (Blk w7 28 w.heap.size (frL Fr.zero)) := Lib.hid ((hf7 _ (Nat.ne_of_lt HGT.out)).trans V2.out); have B7 := Lib.hid (V3.out.trans (hb7.mono (Nat.le_of_lt HGT.out))); have z0 := Q7.out.cell (i := 0) (v := .int .i64 h.head) rfl; rw [D0.out] at z0; clear hq7 hf7 hb7)
                      | ((with_reducible show wpList _ _ _ _ _ _); refine wpList_storeI rfl (.tmp 123) (.tmp 122) rfl G 0 (by rfl) ((k.head + sz : Nat) : Int) (by rfl) 28 _ Q7.out h.head rfl ?_; intro w8 hq8 hf8 hb8; have Q8 : Hid (Blk w8 28 G (frL ⟨((k.head + sz : Nat) : Int), h.total, h.hop, true, h.exts, (y0 : Int), h.s, h.d⟩)) := Lib.hid hq8; have R8 : Hid (Blk w8 28 w.heap.size (frL Fr.zero)) := Lib.hid ((hf8 _ (Nat.ne_of_lt HGT.out)).trans R7.out); have B8 := Lib.hid (B7.out.trans (hb8.mono (Nat.le_of_lt HGT.out))); have z4 := Q8.out.cell (i := 4) (v := .int .i64 h.exts) rfl; rw [D4.out] at z4; clear hq8 hf8 hb8 z0)
                      | ((with_reducible show wpList _ _ _ _ _ _); refine wpList_storeI rfl (.tmp 127) (.tmp 126) rfl G 4 (by rfl) ((k.exts + 1 : Nat) : Int) (by rfl) 28 _ Q8.out h.exts rfl ?_; intro w9 hq9 hf9 hb9; have Q9 : Hid (Blk w9 28 G (frL (hdAt xs (stepK xs k)))) := Lib.hid (by rw [HKE.out]; exact hq9); have R9 : Hid (Blk w9 28 w.heap.size (frL Fr.zero)) := Lib.hid ((hf9 _ (Nat.ne_of_lt HGT.out)).trans R8.out); have B9 := Lib.hid (B8.out.trans (hb9.mono (Nat.le_of_lt HGT.out))); clear hq9 hf9 hb9 z4))
                    go_roundg (gk - 1)
                    case measure => have := HGH.out; have := HE7.out; omega
                    case rel => exact ⟨stepK xs k, by have := HGH.out; have := HE7.out; show k.exts + 1 + (gk - 1) = 9; omega, HNX.out, HFX.out, R9.out, Q9.out, HBB.out.trans B9.out⟩
                · have n2 : ((y2 : Int) != 0) = true := by simp; omega
                  have hft : fb = true := by rw [hfb]; simp; omega
                  clear hfb z2
                  subst hft
                  go_wp2_with (first
                    | ((with_reducible show wpList _ _ _ _ _ _); refine wpList_storeB rfl (.tmp 111) (.const (.bool true)) rfl G 3 (by rfl) true (by rfl) 28 _ HBH.out h.frag rfl ?_; intro w6 hq6 hf6 hb6; have V1 : Hid (Blk w6 28 G (frL ⟨h.head, h.total, h.hop, true, h.exts, h.proto, h.s, h.d⟩)) := Lib.hid hq6; have V2 : Hid (Blk w6 28 w.heap.size (frL Fr.zero)) := Lib.hid ((hf6 _ (Nat.ne_of_lt HGT.out)).trans HBR.out); have V3 := Lib.hid (hb6.mono (Nat.le_of_lt HGT.out)); clear c0 c1 c3 c4 c5 d2 d3; have c0 := V1.out.cell (i := 0) (v := .int .i64 h.head) rfl; rw [D0.out] at c0; have c0b := HC0.out w6 V3.out; clear hq6 hf6 hb6)
                    | ((with_reducible show wpList _ _ _ _ _ _); refine wpList_storeI rfl (.tmp 118) (.tmp 117) rfl G 5 (by rfl) (y0 : Int) (by rfl) 28 _ V1.out h.proto rfl ?_; intro w7 hq7 hf7 hb7; have Q7 : Hid (Blk w7 28 G (frL ⟨h.head, h.total, h.hop, true, h.exts, (y0 : Int), h.s, h.d⟩)) := Lib.hid hq7; have R7 : Hid (Blk w7 28 w.heap.size (frL Fr.zero)) := Lib.hid ((hf7 _ (Nat.ne_of_lt HGT.out)).trans V2.out); have B7 := Lib.hid (V3.out.trans (hb7.mono (Nat.le_of_lt HGT.out))); have z0 := Q7.out.cell (i := 0) (v := .int .i64 h.head) rfl; rw [D0.out] at z0; clear hq7 hf7 hb7)
                    | ((with_reducible show wpList _ _ _ _ _ _); refine wpList_storeI rfl (.tmp 123) (.tmp 122) rfl G 0 (by rfl) ((k.head + sz : Nat) : Int) (by rfl) 28 _ Q7.out h.head rfl ?_; intro w8 hq8 hf8 hb8; have Q8 : Hid (Blk w8 28 G (frL ⟨((k.head + sz : Nat) : Int), h.total, h.hop, true, h.exts, (y0 : Int), h.s, h.d⟩)) := Lib.hid hq8; have R8 : Hid (Blk w8 28 w.heap.size (frL Fr.zero)) := Lib.hid ((hf8 _ (Nat.ne_of_lt HGT.out)).trans R7.out); have B8 := Lib.hid (B7.out.trans (hb8.mono (Nat.le_of_lt HGT.out))); have z4 := Q8.out.cell (i := 4) (v := .int .i64 h.exts) rfl; rw [D4.out] at z4; clear hq8 hf8 hb8 z0)
                    | ((with_reducible show wpList _ _ _ _ _ _); refine wpList_storeI rfl (.tmp 127) (.tmp 126) rfl G 4 (by rfl) ((k.exts + 1 : Nat) : Int) (by rfl) 28 _ Q8.out h.exts rfl ?_; intro w9 hq9 hf9 hb9; have Q9 : Hid (Blk w9 28 G (frL (hdAt xs (stepK xs k)))) := Lib.hid (by rw [HKE.out]; exact hq9); have R9 : Hid (Blk w9 28 w.heap.size (frL Fr.zero)) := Lib.hid ((hf9 _ (Nat.ne_of_lt HGT.out)).trans R8.out); have B9 := Lib.hid (B8.out.trans (hb9.mono (Nat.le_of_lt HGT.out))); clear hq9 hf9 hb9 z4))
                  go_roundg (gk - 1)
                  case measure => have := HGH.out; have := HE7.out; omega
                  case rel => exact ⟨stepK xs k, by have := HGH.out; have := HE7.out; show k.exts + 1 + (gk - 1) = 9; omega, HNX.out, HFX.out, R9.out, Q9.out, HBB.out.trans B9.out⟩
              · have q44 : ((k.proto : Int) == 44) = false := by simp; omega
                have hfb := hfbn p44
                subst hfb
                clear p44 hfbn
                go_wp2_with fail
                refine (HX.out _).mono ?_
                rintro e w5 ⟨rfl, rfl⟩
                go_wp2_with fail
                refine (HS.out _ HI4.out).mono ?_
                rintro e w5 ⟨rfl, rfl⟩
                have V1 : Hid (Blk wr 28 G (frL ⟨h.head, h.total, h.hop, false, h.exts, h.proto, h.s, h.d⟩)) := Lib.hid (by rw [← HKF.out]; exact HBH.out)
                have V2 := HBR
                have V3 := Lib.hid (Below.refl w.heap.size wr)
                have c0b := HC0.out wr V3.out
                go_wp2_with (first
                  | ((with_reducible show wpList _ _ _ _ _ _); refine wpList_storeI rfl (.tmp 118) (.tmp 117) rfl G 5 (by rfl) (y0 : Int) (by rfl) 28 _ V1.out h.proto rfl ?_; intro w7 hq7 hf7 hb7; have Q7 : Hid (Blk w7 28 G (frL ⟨h.head, h.total, h.hop, false, h.exts, (y0 : Int), h.s, h.d⟩)) := Lib.hid hq7; have R7 : Hid (Blk w7 28 w.heap.size (frL Fr.zero)) := Lib.hid ((hf7 _ (Nat.ne_of_lt HGT.out)).trans V2.out); have B7 := Lib.hid (V3.out.trans (hb7.mono (Nat.le_of_lt HGT.out))); have z0 := Q7.out.cell (i := 0) (v := .int .i64 h.head) rfl; rw [D0.out] at z0; clear hq7 hf7 hb7)
                  | ((with_reducible show wpList _ _ _ _ _ _); refine wpList_storeI rfl (.tmp 123) (.tmp 122) rfl G 0 (by rfl) ((k.head + sz : Nat) : Int) (by rfl) 28 _ Q7.out h.head rfl ?_; intro w8 hq8 hf8 hb8; have Q8 : Hid (Blk w8 28 G (frL ⟨((k.head + sz : Nat) : Int), h.total, h.hop, false, h.exts, (y0 : Int), h.s, h.d⟩)) := Lib.hid hq8; have R8 : Hid (Blk w8 28 w.heap.size (frL Fr.zero)) := Lib.hid ((hf8 _ (Nat.ne_of_lt HGT.out)).trans R7.out); have B8 := Lib.hid (B7.out.trans (hb8.mono (Nat.le_of_lt HGT.out))); have z4 := Q8.out.cell (i := 4) (v := .int .i64 h.exts) rfl; rw [D4.out] at z4; clear hq8 hf8 hb8 z0)
                  | ((with_reducible show wpList _ _ _ _ _ _); refine wpList_storeI rfl (.tmp 127) (.tmp 126) rfl G 4 (by rfl) ((k.exts + 1 : Nat) : Int) (by rfl) 28 _ Q8.out h.exts rfl ?_; intro w9 hq9 hf9 hb9; have Q9 : Hid (Blk w9 28 G (frL (hdAt xs (stepK xs k)))) := Lib.hid (by rw [HKE.out]; exact hq9); have R9 : Hid (Blk w9 28 w.heap.size (frL Fr.zero)) := Lib.hid ((hf9 _ (Nat.ne_of_lt HGT.out)).trans R8.out); have B9 := Lib.hid (B8.out.trans (hb9.mono (Nat.le_of_lt HGT.out))); clear hq9 hf9 hb9 z4))
                go_roundg (gk - 1)
                case measure => have := HGH.out; have := HE7.out; omega
                case rel => exact ⟨stepK xs k, by have := HGH.out; have := HE7.out; show k.exts + 1 + (gk - 1) = 9; omega, HNX.out, HFX.out, R9.out, Q9.out, HBB.out.trans B9.out⟩
            · have Q := Lib.hid (rd_end HF0.out HWK.out (Bool.eq_false_iff.2 hg))
              cases hx : extB k.proto with
              | false =>
                rw [hx] at HX
                clear hx hg HWK HFIT
                obtain ⟨h, hh⟩ : ∃ h, hdAt xs k = h := ⟨_, rfl⟩
                rw [hh] at HO HBH Q
                clear hh
                go_wp2_with fail
                refine (HX.out _).mono ?_
                rintro e w5 ⟨rfl, rfl⟩
                go_wp2_with (first
                  | ((with_reducible show wpList _ _ _ _ _ _); refine wpList_loadF rfl (.tmp 4) rfl G (by rfl) h HO.out HBH.out ?_)
                  | ((with_reducible show wpList _ _ _ _ _ _); refine wpList_storeR rfl 28 (.tmp 2) (.tmp 128) rfl w.heap.size (by rfl) (frL h) (by rfl) _ HBR.out (by rw [frL_len HO.out]; rfl) (sizeFrL HO.out) (frL_one _) ?_))
                refine bodyPost_ret (v := .tuple #[frC h, .int .i64 0]) (results_fr rfl _ _ w.heap.size (by rfl) _ HO.out (HBR.out.setRow_ _) _ (by rfl)) rfl ?_
                exact ⟨by rw [Q.out.1, Q.out.2]; rfl, below_setRow HBB.out (Nat.le_refl _) _⟩
              | true =>
                have hfr : k.frag = true := by
                  unfold goB at hg
                  rw [hx] at hg
                  simpa using hg
                rw [hfr] at c3
                rw [hx] at HX
                clear hx hg hfr HWK HFIT
                obtain ⟨h, hh⟩ : ∃ h, hdAt xs k = h := ⟨_, rfl⟩
                rw [hh] at HO HBH Q
                clear hh
                go_wp2_with fail
                refine (HX.out _).mono ?_
                rintro e w5 ⟨rfl, rfl⟩
                go_wp2_with (first
                  | ((with_reducible show wpList _ _ _ _ _ _); refine wpList_loadF rfl (.tmp 4) rfl G (by rfl) h HO.out HBH.out ?_)
                  | ((with_reducible show wpList _ _ _ _ _ _); refine wpList_storeR rfl 28 (.tmp 2) (.tmp 128) rfl w.heap.size (by rfl) (frL h) (by rfl) _ HBR.out (by rw [frL_len HO.out]; rfl) (sizeFrL HO.out) (frL_one _) ?_))
                refine bodyPost_ret (v := .tuple #[frC h, .int .i64 0]) (results_fr rfl _ _ w.heap.size (by rfl) _ HO.out (HBR.out.setRow_ _) _ (by rfl)) rfl ?_
                exact ⟨by rw [Q.out.1, Q.out.2]; rfl, below_setRow HBB.out (Nat.le_refl _) _⟩
    · have v1 : ((x0 : Int) / 16 != 6) = true := by simp; omega
      have hF := F1.out hv
      rw [HFB.out (by omega), HNB.out (by omega), hF]
      clear hF hv
      go_enter Try.func11, Try.ntmps11
      go_wp2_with (first
        | ((with_reducible show wpList _ _ _ _ _ _); refine wpList_buildTo rfl 28 _ rfl (some 15) rfl (frL Fr.zero).toArray (by kernel_rfl) ?_)
        | ((with_reducible show wpList _ _ _ _ _ _); rw [HZ.out]; refine wpList_storeR rfl 28 (.tmp 2) (.tmp 15) rfl w.heap.size (by rfl) (frL Fr.zero) (by rfl) _ HR0.out rfl (sizeFrL HZO.out) (frL_one _) ?_))
      refine bodyPost_ret (v := .tuple #[frC Fr.zero, .int .i64 3]) (results_fr rfl _ _ w.heap.size (by rfl) _ HZO.out (HR0.out.setRow_ _) _ (by rfl)) rfl ?_
      exact ⟨rfl, below_setRow HB0.out (Nat.le_refl _) _⟩
  · have h40' : (len : Int) < 40 := by omega
    have hF : faultN xs = 2 := fault_short (by rw [HL.out]; omega)
    rw [rdF_bad (by omega), rdN_bad (by omega), hF]
    clear hF
    go_enter Try.func11, Try.ntmps11
    go_wp2_with (first
      | ((with_reducible show wpList _ _ _ _ _ _); refine wpList_buildTo rfl 28 _ rfl (some 9) rfl (frL Fr.zero).toArray (by kernel_rfl) ?_)
      | ((with_reducible show wpList _ _ _ _ _ _); rw [HZ.out]; refine wpList_storeR rfl 28 (.tmp 2) (.tmp 9) rfl w.heap.size (by rfl) (frL Fr.zero) (by rfl) _ HR0.out rfl (sizeFrL HZO.out) (frL_one _) ?_))
    refine bodyPost_ret (v := .tuple #[frC Fr.zero, .int .i64 2]) (results_fr rfl _ _ w.heap.size (by rfl) _ HZO.out (HR0.out.setRow_ _) _ (by rfl)) rfl ?_
    exact ⟨rfl, below_setRow HB0.out (Nat.le_refl _) _⟩
end Go.Proofs.Ythicbdjambmnpaa
