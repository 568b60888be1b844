/-
  packet.segment.
-/
import Derived.Test.YtdkaaffghendiaaKPHead
import Derived.Test.YtdkaaffghendiaaKForm
namespace Go.Proofs.Ytdkaaffghendiaa
set_option maxRecDepth 100000
open Go.RowKit Go.Lib

set_option maxHeartbeats 8000000 in
theorem segment_U {L : Lk} {t : Tu} (h : t.Ok) {f : Int} (hm : MakeOk L t f) (hpr : t.pr = 17) {A : Option Addr} {len cap : Nat} {load : List UInt8} (hl : 8 + len ≤ 65535) (w : World) (hI : Rd w w.heap.size A len load) :
    Calls Try.prog 33 #[tuC t, .int .i64 f, .slice A len cap] w fun e w' => ∃ v, e = .returned v ∧ Own8 w' w.heap.size v (fillK t f load) ∧ Below w.heap.size w w' := by
  have hlen := hI.len
  obtain ⟨S, hS⟩ := Int.eq_ofNat_of_zero_le hm.s0
  obtain ⟨D, hD⟩ := Int.eq_ofNat_of_zero_le hm.d0
  obtain ⟨F, hF⟩ := Int.eq_ofNat_of_zero_le hm.f0
  have hS1 := hm.s1
  have hD1 := hm.d1
  have hF1 := hm.f1
  rw [hS] at hS1
  rw [hD] at hD1
  rw [hF] at hF1
  have hS2 : S < 65536 := by omega
  have hD2 : D < 65536 := by omega
  have hF2 : F < 64 := by omega
  have hSEG : segK t f load = (be2 S ++ (be2 D ++ (be2 (8 + len) ++ [0, 0]))) ++ load := by
    unfold segK
    rw [if_pos hpr, hS, hD, hlen]
    simp only [List.append_assoc]; rfl
  have hFL := seg_fault (load := load) hm (by omega)
  have hfk : fillK t f load = fillS t.s.six t.s.b t.d.b true (segK t f load) := by unfold fillK udpT; rw [hpr]; rfl
  have hud : udpT t = true := by unfold udpT; rw [hpr]; rfl
  rw [hud] at hFL
  rw [hSEG] at hfk hFL
  have hd6 : t.d.six = t.s.six := by
    have := hm.fam
    unfold famB at this
    cases h1 : t.s.six <;> cases h2 : t.d.six <;> rw [h1, h2] at this <;> first | rfl | cases this
  obtain ⟨XX, hXX⟩ : ∃ X, (be2 S ++ (be2 D ++ (be2 (8 + len) ++ [0, 0]))) ++ load = X := ⟨_, rfl⟩
  obtain ⟨XL, hXL⟩ : ∃ n, 8 + len = n := ⟨_, rfl⟩
  have hXXl : XX.length = XL := by rw [← hXX, List.length_append, hlen, ← hXL]; rfl
  rw [hXX] at hfk hFL
  have FI := Lib.hid (fun (W : World) (A' : Option Addr) (c' : Nat) (h1 : XL ≤ c') (h2 : c' ≤ maxLen) (hR : Rd W W.heap.size A' XL XX) => show Calls Try.prog 64 #[adC t.s, adC t.d, .int .i64 17, .slice A' XL c'] W fun e w' => ∃ v, e = .returned v ∧ Own8 w' W.heap.size v (fillK t f load) ∧ Below W.heap.size W w' by
    have := fill_any t.s.six t.s.b t.d.b h.s h.d (by omega) h1 h2 W hR true hFL
    rw [hfk]
    have e : t.d = ⟨t.s.six, t.d.b⟩ := by rw [← hd6]
    rw [e]
    exact this)
  obtain ⟨Y, hY⟩ : ∃ Y : World, w.alloc (.cells (tuL t).toArray 28) = Y := ⟨_, rfl⟩
  have HQ := Lib.hid (show Blk Y 28 w.heap.size (tuL t) by rw [← hY]; exact Blk_10.new w _ _)
  have HB := Lib.hid (show Below w.heap.size w Y by rw [← hY]; exact (Below.refl w.heap.size w).alloc (Nat.le_refl _) _)
  have hYs : w.heap.size < Y.heap.size := Blk_10.lt HQ.out
  have HRB := Lib.hid (fun W (hB : Below w.heap.size w W) => (hI.below hB))
  have HNUM := Lib.hid (fun W (hB : Blk W 28 w.heap.size (tuL t)) => show W.cell? ⟨w.heap.size, 34, none⟩ = some (.int .i64 17) ∧ W.cell? ⟨w.heap.size, 35, none⟩ = some (.int .i64 (S : Int)) ∧ W.cell? ⟨w.heap.size, 36, none⟩ = some (.int .i64 (D : Int)) by
    obtain ⟨q1, q2, q3⟩ := tu_num hB h
    rw [hpr] at q1
    rw [hS] at q2
    rw [hD] at q3
    exact ⟨q1, q2, q3⟩)
  have SH := Lib.hid (fun W => show Calls Try.prog 28 #[.int .i64 17] W fun e w' => e = .returned (.int .i64 8) ∧ W = w' from seghead_any 17 W)
  have hw8 : IntKind.i64.wrap (8 + (len : Int)) = 8 + (len : Int) := by rw [IntKind.wrap_i64]; omega
  obtain ⟨CC, hCC⟩ : ∃ C, 8 + len = C := ⟨_, rfl⟩
  have hmk : ∀ W : World, (Instr.makeSlice 22 (.int .i64 8) (.int .i64 (8 + (len : Int)))).run Try.prog W = .ok (.slice (some ⟨W.heap.size, 0, none⟩) 8 CC) (W.alloc (.cells (madeCells #[.int .u8 0] CC) 5)) := fun W => by
    have := run_make8 8 CC (by omega) (by omega) W
    rw [← hCC] at this ⊢
    rw [show ((8 + len : Nat) : Int) = 8 + (len : Int) from Int.natCast_add 8 len] at this
    exact this
  have hCm : CC ≤ maxLen := by unfold maxLen; omega
  have hCs : 8 ≤ CC := by omega
  have HMK := Lib.hid hmk
  have HO := Lib.hid h
  have HX := Lib.hid hXX
  have HXL := Lib.hid hXXl
  have HCC := Lib.hid hCC
  have HXLE := Lib.hid hXL
  have HLEN := Lib.hid hlen
  unfold tuC
  obtain ⟨C, hC⟩ : ∃ C, (tuL t).toArray = C := ⟨_, rfl⟩
  rw [hC] at hY ⊢
  have HY := Lib.hid hY
  have HFF := Lib.hid hF
  rw [hF]
  clear hY h hm hpr hI hlen hS hD hF hSEG hFL hfk hud hd6 hXX hXXl hC hmk hCC hXL
  go_enter Try.func33, Try.ntmps33
  go_wp2_with fail
  rw [HY.out]
  have HP34 := Lib.hid (fun W (hW : Below Y.heap.size Y W) => (HNUM.out W (HQ.out.below hYs hW)).1)
  apply cut_world (H := fun W G => Y.heap.size ≤ G ∧ Own8 W Y.heap.size (.slice (some ⟨G, 0, none⟩) 8 CC) (List.replicate 8 0) ∧ Below Y.heap.size Y W)
  case h1 =>
    intro hc
    refine wp_region_held_drew (S := fun W => Below Y.heap.size Y W) (by kernel_rfl) ((Below.refl _ _).drew) (fun hHeld => ?_)
    obtain ⟨YY, hYY⟩ : ∃ X, Y.drew = X := ⟨_, rfl⟩
    rw [hYY] at hHeld ⊢
    clear hYY
    refine wpAnyH_take (i := 0) (oi := ⟨some 8, _, _, _, _, _⟩) (v := .pointer (some ⟨w.heap.size, 34, none⟩)) rfl (by kernel_rfl) (by kernel_rfl) (by kernel_rfl) (fun _ _ _ h => h) (Or.inl ⟨by rfl, fun _ _ => by go_simp⟩) hHeld ?_
    simp only [Act.put, List.setIfInBounds_toArray, List.set_cons_zero, List.set_cons_succ]
    refine wpAnyH_take (i := 1) (oi := ⟨some 9, _, _, _, _, _⟩) (v := .int .i64 17) rfl (by kernel_rfl) (by kernel_rfl) (by kernel_rfl) (fun _ _ _ h => h) (Or.inl ⟨by rfl, fun W hW => by have hc := HP34.out W hW; go_simp⟩) hHeld ?_
    simp only [Act.put, List.setIfInBounds_toArray, List.set_cons_zero, List.set_cons_succ]
    refine wpAnyH_take (i := 3) (oi := ⟨some 11, _, _, _, _, _⟩) (v := .pointer (some ⟨w.heap.size, 34, none⟩)) rfl (by kernel_rfl) (by kernel_rfl) (by kernel_rfl) (fun _ _ _ h => h) (Or.inl ⟨by rfl, fun _ _ => by go_simp⟩) hHeld ?_
    simp only [Act.put, List.setIfInBounds_toArray, List.set_cons_zero, List.set_cons_succ]
    refine wpAnyH_take (i := 4) (oi := ⟨some 12, _, _, _, _, _⟩) (v := .int .i64 17) rfl (by kernel_rfl) (by kernel_rfl) (by kernel_rfl) (fun _ _ _ h => h) (Or.inl ⟨by rfl, fun W hW => by have hc := HP34.out W hW; go_simp⟩) hHeld ?_
    simp only [Act.put, List.setIfInBounds_toArray, List.set_cons_zero, List.set_cons_succ]
    refine wpAnyH_take (i := 6) (oi := ⟨some 14, _, _, _, _, _⟩) (v := .slice A len cap) rfl (by kernel_rfl) (by kernel_rfl) (by kernel_rfl) (fun _ _ _ h => h) (Or.inl ⟨by rfl, fun _ _ => by go_simp⟩) hHeld ?_
    simp only [Act.put, List.setIfInBounds_toArray, List.set_cons_zero, List.set_cons_succ]
    refine wpAnyH_take (i := 7) (oi := ⟨some 15, _, _, _, _, _⟩) (v := .int .i64 (len : Int)) rfl (by kernel_rfl) (by kernel_rfl) (by kernel_rfl) (fun _ _ _ h => h) (Or.inl ⟨by rfl, fun _ _ => by go_simp⟩) hHeld ?_
    simp only [Act.put, List.setIfInBounds_toArray, List.set_cons_zero, List.set_cons_succ]
    refine wpAnyH_ready (rs := [2]) (by kernel_rfl) (by simp) (AllReadyH.cons (o := ⟨some 10, _, _, _, _, _⟩) rfl (fun K hK => ?_) AllReadyH.nil)
    go_simp
    refine (SH.out _).mono ?_
    rintro e wa ⟨rfl, rfl⟩
    refine hK.out _ _ (hHeld) (fun hHeld => ?_)
    clear hK K 
    refine wpAnyH_ready (rs := [5]) (by kernel_rfl) (by simp) (AllReadyH.cons (o := ⟨some 13, _, _, _, _, _⟩) rfl (fun K hK => ?_) AllReadyH.nil)
    go_simp
    refine (SH.out _).mono ?_
    rintro e wa ⟨rfl, rfl⟩
    refine hK.out _ _ (hHeld) (fun hHeld => ?_)
    clear hK K 
    refine wpAnyH_take (i := 8) (oi := ⟨some 16, _, _, _, _, _⟩) (v := .int .i64 (8 + (len : Int))) rfl (by kernel_rfl) (by kernel_rfl) (by kernel_rfl) (fun _ _ _ h => h) (Or.inl ⟨by rfl, fun _ _ => by go_simp⟩) hHeld ?_
    simp only [Act.put, List.setIfInBounds_toArray, List.set_cons_zero, List.set_cons_succ]
    refine wpAnyH_ready (rs := [9]) (by kernel_rfl) (by simp) (AllReadyH.cons (o := ⟨some 17, _, _, _, _, _⟩) rfl (fun K hK => ?_) AllReadyH.nil)
    have hmk := HMK.out
    go_simp
    have HM := Lib.hid (made_own YY 8 CC Y.heap.size hCs hCm hHeld.size)
    have HGE := Lib.hid hHeld.size
    have HB5 := Lib.hid (hHeld.alloc hHeld.size (.cells (madeCells #[.int .u8 0] CC) 5))
    generalize YY.alloc (.cells (madeCells #[.int .u8 0] CC) 5) = w5 at HM HB5 ⊢
    generalize YY.heap.size = G at HM HGE ⊢
    refine hK.out _ _ (HB5.out) (fun hHeld => ?_)
    clear hK K hmk
    refine wpAnyH_take (i := 10) (oi := ⟨some 7, _, _, _, _, _⟩) (v := .slice (some ⟨G, 0, none⟩) 8 CC) rfl (by kernel_rfl) (by kernel_rfl) (by kernel_rfl) (fun _ _ _ h => h) (Or.inl ⟨by rfl, fun _ _ => by go_simp⟩) hHeld ?_
    simp only [Act.put, List.setIfInBounds_toArray, List.set_cons_zero, List.set_cons_succ]
    refine wpAnyH_done (by kernel_rfl) ?_ _
    exact hc w5 G ⟨HGE.out, HM.out, HB5.out⟩
  case h2 =>
    intro w5 g hcc
    obtain ⟨hge, hq, hbz⟩ := hcc
    have HO5 := Lib.hid hq
    have HGE := Lib.hid hge
    have hwg : w.heap.size < g := Nat.lt_of_lt_of_le hYs hge
    have HB5 := Lib.hid hbz
    have HQ5 := Lib.hid (HQ.out.below hYs hbz)
    obtain ⟨n34, n35, n36⟩ := HNUM.out w5 HQ5.out
    clear hge hq hbz
    go_wp2_with fail
    refine (play_any S hS2 HO5.out (by rw [List.length_replicate]) 0 (by omega) (by omega) 0 (S : Int) rfl rfl).mono ?_
    rintro e w6 ⟨rfl, ho6, hb6⟩
    have HO6 := Lib.hid ho6
    have HQ6 := Lib.hid (HQ5.out.below hwg hb6)
    have HB6 := Lib.hid (HB5.out.trans (hb6.mono HGE.out))
    clear ho6 hb6 n34 n35 n36
    obtain ⟨n34, n35, n36⟩ := HNUM.out w6 HQ6.out
    go_wp2_with fail
    refine (play_any D hD2 HO6.out (by rw [put2_len_10, List.length_replicate]) 2 (by omega) (by omega) 2 (D : Int) rfl rfl).mono ?_
    rintro e w7 ⟨rfl, ho7, hb7⟩
    have HO7 := Lib.hid ho7
    have HQ7 := Lib.hid (HQ6.out.below hwg hb7)
    have HB7 := Lib.hid (HB6.out.trans (hb7.mono HGE.out))
    clear ho7 hb7 n34 n35 n36
    obtain ⟨n34, n35, n36⟩ := HNUM.out w7 HQ7.out
    go_wp2_with fail
    refine (play_any (8 + len) (by omega) HO7.out (by rw [put2_len_10, put2_len_10, List.length_replicate]) 4 (by omega) (by omega) 4 (8 + (len : Int)) rfl (by omega)).mono ?_
    rintro e w8 ⟨rfl, ho8, hb8⟩
    have e8 : put2_10 (put2_10 (put2_10 (List.replicate 8 0) 0 S) 2 D) 4 (8 + len) = be2 S ++ (be2 D ++ (be2 (8 + len) ++ [0, 0])) := rfl
    rw [e8] at ho8
    have HO8 := Lib.hid ho8
    have HQ8 := Lib.hid (HQ7.out.below hwg hb8)
    have HB8 := Lib.hid (HB7.out.trans (hb8.mono HGE.out))
    clear ho8 hb8 n34 n35 n36 e8
    go_wp2_with fail
    have HP34b := Lib.hid (fun W (hW : Below g w8 W) => (HNUM.out W (HQ8.out.below hwg hW)).1)
    have HS8 := Lib.hid (fun W (hW : Below g w8 W) => tu_src (HQ8.out.below hwg hW))
    have HD8 := Lib.hid (fun W (hW : Below g w8 W) => tu_dst (HQ8.out.below hwg hW) HO.out)
    have hgl : g ≤ w8.heap.size := by obtain ⟨g', c', e', _, _, _, hl', _⟩ := HO8.out.formG (n := 8) rfl (by decide); cases e'; omega
    refine wp_region_held_drew (S := fun W => Below g w8 W) (by kernel_rfl) ((Below.refl _ _).drew) (fun hHeld => ?_)
    obtain ⟨X, hX⟩ : ∃ X, w8.drew = X := ⟨_, rfl⟩
    have hoX : Own8 X Y.heap.size (.slice (some ⟨g, 0, none⟩) 8 CC) (be2 S ++ (be2 D ++ (be2 (8 + len) ++ [0, 0]))) := by rw [← hX]; exact HO8.out.drew
    have HOX := Lib.hid hoX
    have HXS := Lib.hid (show w8.heap.size ≤ X.heap.size by rw [← hX]; exact Nat.le_refl _)
    have HBX := Lib.hid (show Below w.heap.size w X by rw [← hX]; exact (HB.out.trans (HB8.out.mono HB.out.size)).drew)
    rw [hX] at hHeld ⊢
    clear hX hoX
    refine wpAnyH_take (i := 0) (oi := ⟨some 40, _, _, _, _, _⟩) (v := .pointer (some ⟨w.heap.size, 0, none⟩)) rfl (by kernel_rfl) (by kernel_rfl) (by kernel_rfl) (fun _ _ _ h => h) (Or.inl ⟨by rfl, fun _ _ => by go_simp⟩) hHeld ?_
    simp only [Act.put, List.setIfInBounds_toArray, List.set_cons_zero, List.set_cons_succ]
    refine wpAnyH_take (i := 1) (oi := ⟨some 41, _, _, _, _, _⟩) (v := adC t.s) rfl (by kernel_rfl) (by kernel_rfl) (by kernel_rfl) (fun _ _ _ h => h) (yieldsIf_load_mid (by rfl) 26 _ rfl w.heap.size 0 rfl (adL t.s) _ HS8.out Try.underlying26 rfl (sizeAdL HO.out.s)) hHeld ?_
    simp only [Act.put, List.setIfInBounds_toArray, List.set_cons_zero, List.set_cons_succ]
    refine wpAnyH_take (i := 2) (oi := ⟨some 42, _, _, _, _, _⟩) (v := .pointer (some ⟨w.heap.size, 17, none⟩)) rfl (by kernel_rfl) (by kernel_rfl) (by kernel_rfl) (fun _ _ _ h => h) (Or.inl ⟨by rfl, fun _ _ => by go_simp⟩) hHeld ?_
    simp only [Act.put, List.setIfInBounds_toArray, List.set_cons_zero, List.set_cons_succ]
    refine wpAnyH_take (i := 3) (oi := ⟨some 43, _, _, _, _, _⟩) (v := adC t.d) rfl (by kernel_rfl) (by kernel_rfl) (by kernel_rfl) (fun _ _ _ h => h) (yieldsIf_load_mid (by rfl) 26 _ rfl w.heap.size 17 rfl (adL t.d) _ HD8.out Try.underlying26 rfl (sizeAdL HO.out.d)) hHeld ?_
    simp only [Act.put, List.setIfInBounds_toArray, List.set_cons_zero, List.set_cons_succ]
    refine wpAnyH_take (i := 4) (oi := ⟨some 44, _, _, _, _, _⟩) (v := .pointer (some ⟨w.heap.size, 34, none⟩)) rfl (by kernel_rfl) (by kernel_rfl) (by kernel_rfl) (fun _ _ _ h => h) (Or.inl ⟨by rfl, fun _ _ => by go_simp⟩) hHeld ?_
    simp only [Act.put, List.setIfInBounds_toArray, List.set_cons_zero, List.set_cons_succ]
    refine wpAnyH_take (i := 5) (oi := ⟨some 45, _, _, _, _, _⟩) (v := .int .i64 17) rfl (by kernel_rfl) (by kernel_rfl) (by kernel_rfl) (fun _ _ _ h => h) (Or.inl ⟨by rfl, fun W hW => by have hc := HP34b.out W hW; go_simp⟩) hHeld ?_
    simp only [Act.put, List.setIfInBounds_toArray, List.set_cons_zero, List.set_cons_succ]
    refine wpAnyH_take (i := 6) (oi := ⟨some 46, _, _, _, _, _⟩) (v := .slice (some ⟨g, 0, none⟩) 8 CC) rfl (by kernel_rfl) (by kernel_rfl) (by kernel_rfl) (fun _ _ _ h => h) (Or.inl ⟨by rfl, fun _ _ => by go_simp⟩) hHeld ?_
    simp only [Act.put, List.setIfInBounds_toArray, List.set_cons_zero, List.set_cons_succ]
    refine wpAnyH_take (i := 7) (oi := ⟨some 47, _, _, _, _, _⟩) (v := .slice A len cap) rfl (by kernel_rfl) (by kernel_rfl) (by kernel_rfl) (fun _ _ _ h => h) (Or.inl ⟨by rfl, fun _ _ => by go_simp⟩) hHeld ?_
    simp only [Act.put, List.setIfInBounds_toArray, List.set_cons_zero, List.set_cons_succ]
    refine wpAnyH_ready (rs := [8]) (by kernel_rfl) (by simp) (AllReadyH.cons (o := ⟨some 48, _, _, _, _, _⟩) rfl (fun K hK => ?_) AllReadyH.nil)
    refine step_append8 rfl (.tmp 46) (.tmp 47) rfl Y.heap.size _ _ (by rfl) HOX.out w.heap.size A len cap load (by rfl) (HRB.out X HBX.out) (by show 8 + len ≤ 2000000000; omega) (Nat.le_trans HB8.out.size HXS.out) ?_
    intro v9 w9 ho9 hg9
    rw [HX.out] at ho9
    obtain ⟨A9, c9, rfl, hc9, hm9, hr9⟩ := ho9.formN HXL.out
    have HR9 := Lib.hid hr9
    have hb9 := gb_to_below hg9 (Nat.le_refl g) (Nat.le_trans hgl HXS.out)
    have HB9 := Lib.hid (hHeld.trans hb9)
    clear ho9 hg9 hr9 hb9
    refine hK.out _ _ (HB9.out) (fun hHeld => ?_)
    clear hK K 
    refine wpAnyH_ready (rs := [9]) (by kernel_rfl) (by simp) (AllReadyH.cons (o := ⟨some 49, _, _, _, _, _⟩) rfl (fun K hK => ?_) AllReadyH.nil)
    go_simp
    refine (FI.out _ A9 c9 hc9 hm9 HR9.out).mono ?_
    rintro e wz ⟨v, rfl, hoz, hbz⟩
    have HOZ := Lib.hid hoz
    have HBZ := Lib.hid (HB9.out.trans (hbz.mono (Nat.le_trans hgl HB9.out.size)))
    have HSZ := Lib.hid (show w.heap.size ≤ w9.heap.size from Nat.le_trans (Nat.le_of_lt hwg) (Nat.le_trans hgl HB9.out.size))
    clear hoz
    refine hK.out _ _ (HBZ.out) (fun hHeld => ?_)
    clear hK K hbz
    refine wpAnyH_take (i := 10) (oi := ⟨some 6, _, _, _, _, _⟩) (v := v) rfl (by kernel_rfl) (by kernel_rfl) (by kernel_rfl) (fun _ _ _ h => h) (Or.inl ⟨by rfl, fun _ _ => by go_simp⟩) hHeld ?_
    simp only [Act.put, List.setIfInBounds_toArray, List.set_cons_zero, List.set_cons_succ]
    refine wpAnyH_done (by kernel_rfl) ?_ _
    go_wp2_with fail
    go_ret
    exact ⟨v, rfl, by rw [← HFF.out]; exact HOZ.out.base_le HSZ.out, (HB.out.trans (HB8.out.mono HB.out.size)).trans (HBZ.out.mono (Nat.le_of_lt hwg))⟩

set_option maxHeartbeats 8000000 in
theorem segment_T {L : Lk} {t : Tu} (h : t.Ok) {f : Int} (hm : MakeOk L t f) (hpr : t.pr = 6) {A : Option Addr} {len cap : Nat} {load : List UInt8} (hl : 20 + len ≤ 65535) (w : World) (hI : Rd w w.heap.size A len load) :
    Calls Try.prog 33 #[tuC t, .int .i64 f, .slice A len cap] w fun e w' => ∃ v, e = .returned v ∧ Own8 w' w.heap.size v (fillK t f load) ∧ Below w.heap.size w w' := by
  have hlen := hI.len
  obtain ⟨S, hS⟩ := Int.eq_ofNat_of_zero_le hm.s0
  obtain ⟨D, hD⟩ := Int.eq_ofNat_of_zero_le hm.d0
  obtain ⟨F, hF⟩ := Int.eq_ofNat_of_zero_le hm.f0
  have hS1 := hm.s1
  have hD1 := hm.d1
  have hF1 := hm.f1
  rw [hS] at hS1
  rw [hD] at hD1
  rw [hF] at hF1
  have hS2 : S < 65536 := by omega
  have hD2 : D < 65536 := by omega
  have hF2 : F < 64 := by omega
  have hSEG : segK t f load = (be2 S ++ (be2 D ++ [0, 0, 0, 0, 0, 0, 0, 0, 80, UInt8.ofNat F, 0, 0, 0, 0, 0, 0])) ++ load := by
    unfold segK
    rw [if_neg (by rw [hpr]; decide), hS, hD, hF]
    rfl
  have hFL := seg_fault (load := load) hm (by omega)
  have hfk : fillK t f load = fillS t.s.six t.s.b t.d.b false (segK t f load) := by unfold fillK udpT; rw [hpr]; rfl
  have hud : udpT t = false := by unfold udpT; rw [hpr]; rfl
  rw [hud] at hFL
  rw [hSEG] at hfk hFL
  have hd6 : t.d.six = t.s.six := by
    have := hm.fam
    unfold famB at this
    cases h1 : t.s.six <;> cases h2 : t.d.six <;> rw [h1, h2] at this <;> first | rfl | cases this
  obtain ⟨XX, hXX⟩ : ∃ X, (be2 S ++ (be2 D ++ [0, 0, 0, 0, 0, 0, 0, 0, 80, UInt8.ofNat F, 0, 0, 0, 0, 0, 0])) ++ load = X := ⟨_, rfl⟩
  obtain ⟨XL, hXL⟩ : ∃ n, 20 + len = n := ⟨_, rfl⟩
  have hXXl : XX.length = XL := by rw [← hXX, List.length_append, hlen, ← hXL]; rfl
  rw [hXX] at hfk hFL
  have FI := Lib.hid (fun (W : World) (A' : Option Addr) (c' : Nat) (h1 : XL ≤ c') (h2 : c' ≤ maxLen) (hR : Rd W W.heap.size A' XL XX) => show Calls Try.prog 64 #[adC t.s, adC t.d, .int .i64 6, .slice A' XL c'] W fun e w' => ∃ v, e = .returned v ∧ Own8 w' W.heap.size v (fillK t f load) ∧ Below W.heap.size W w' by
    have := fill_any t.s.six t.s.b t.d.b h.s h.d (by omega) h1 h2 W hR false hFL
    rw [hfk]
    have e : t.d = ⟨t.s.six, t.d.b⟩ := by rw [← hd6]
    rw [e]
    exact this)
  obtain ⟨Y, hY⟩ : ∃ Y : World, w.alloc (.cells (tuL t).toArray 28) = Y := ⟨_, rfl⟩
  have HQ := Lib.hid (show Blk Y 28 w.heap.size (tuL t) by rw [← hY]; exact Blk_10.new w _ _)
  have HB := Lib.hid (show Below w.heap.size w Y by rw [← hY]; exact (Below.refl w.heap.size w).alloc (Nat.le_refl _) _)
  have hYs : w.heap.size < Y.heap.size := Blk_10.lt HQ.out
  have HRB := Lib.hid (fun W (hB : Below w.heap.size w W) => (hI.below hB))
  have HNUM := Lib.hid (fun W (hB : Blk W 28 w.heap.size (tuL t)) => show W.cell? ⟨w.heap.size, 34, none⟩ = some (.int .i64 6) ∧ W.cell? ⟨w.heap.size, 35, none⟩ = some (.int .i64 (S : Int)) ∧ W.cell? ⟨w.heap.size, 36, none⟩ = some (.int .i64 (D : Int)) by
    obtain ⟨q1, q2, q3⟩ := tu_num hB h
    rw [hpr] at q1
    rw [hS] at q2
    rw [hD] at q3
    exact ⟨q1, q2, q3⟩)
  have SH := Lib.hid (fun W => show Calls Try.prog 28 #[.int .i64 6] W fun e w' => e = .returned (.int .i64 20) ∧ W = w' from seghead_any 6 W)
  have hw8 : IntKind.i64.wrap (20 + (len : Int)) = 20 + (len : Int) := by rw [IntKind.wrap_i64]; omega
  obtain ⟨CC, hCC⟩ : ∃ C, 20 + len = C := ⟨_, rfl⟩
  have hmk : ∀ W : World, (Instr.makeSlice 22 (.int .i64 20) (.int .i64 (20 + (len : Int)))).run Try.prog W = .ok (.slice (some ⟨W.heap.size, 0, none⟩) 20 CC) (W.alloc (.cells (madeCells #[.int .u8 0] CC) 5)) := fun W => by
    have := run_make8 20 CC (by omega) (by omega) W
    rw [← hCC] at this ⊢
    rw [show ((20 + len : Nat) : Int) = 20 + (len : Int) from Int.natCast_add 20 len] at this
    exact this
  have hCm : CC ≤ maxLen := by unfold maxLen; omega
  have hCs : 20 ≤ CC := by omega
  have HMK := Lib.hid hmk
  have HO := Lib.hid h
  have HX := Lib.hid hXX
  have HXL := Lib.hid hXXl
  have HCC := Lib.hid hCC
  have HXLE := Lib.hid hXL
  have HLEN := Lib.hid hlen
  unfold tuC
  obtain ⟨C, hC⟩ : ∃ C, (tuL t).toArray = C := ⟨_, rfl⟩
  rw [hC] at hY ⊢
  have HY := Lib.hid hY
  have HFF := Lib.hid hF
  rw [hF]
  clear hY h hm hpr hI hlen hS hD hF hSEG hFL hfk hud hd6 hXX hXXl hC hmk hCC hXL
  go_enter Try.func33, Try.ntmps33
  go_wp2_with fail
  rw [HY.out]
  have HP34 := Lib.hid (fun W (hW : Below Y.heap.size Y W) => (HNUM.out W (HQ.out.below hYs hW)).1)
  apply cut_world (H := fun W G => Y.heap.size ≤ G ∧ Own8 W Y.heap.size (.slice (some ⟨G, 0, none⟩) 20 CC) (List.replicate 20 0) ∧ Below Y.heap.size Y W)
  case h1 =>
    intro hc
    refine wp_region_held_drew (S := fun W => Below Y.heap.size Y W) (by kernel_rfl) ((Below.refl _ _).drew) (fun hHeld => ?_)
    obtain ⟨YY, hYY⟩ : ∃ X, Y.drew = X := ⟨_, rfl⟩
    rw [hYY] at hHeld ⊢
    clear hYY
    refine wpAnyH_take (i := 0) (oi := ⟨some 8, _, _, _, _, _⟩) (v := .pointer (some ⟨w.heap.size, 34, none⟩)) rfl (by kernel_rfl) (by kernel_rfl) (by kernel_rfl) (fun _ _ _ h => h) (Or.inl ⟨by rfl, fun _ _ => by go_simp⟩) hHeld ?_
    simp only [Act.put, List.setIfInBounds_toArray, List.set_cons_zero, List.set_cons_succ]
    refine wpAnyH_take (i := 1) (oi := ⟨some 9, _, _, _, _, _⟩) (v := .int .i64 6) rfl (by kernel_rfl) (by kernel_rfl) (by kernel_rfl) (fun _ _ _ h => h) (Or.inl ⟨by rfl, fun W hW => by have hc := HP34.out W hW; go_simp⟩) hHeld ?_
    simp only [Act.put, List.setIfInBounds_toArray, List.set_cons_zero, List.set_cons_succ]
    refine wpAnyH_take (i := 3) (oi := ⟨some 11, _, _, _, _, _⟩) (v := .pointer (some ⟨w.heap.size, 34, none⟩)) rfl (by kernel_rfl) (by kernel_rfl) (by kernel_rfl) (fun _ _ _ h => h) (Or.inl ⟨by rfl, fun _ _ => by go_simp⟩) hHeld ?_
    simp only [Act.put, List.setIfInBounds_toArray, List.set_cons_zero, List.set_cons_succ]
    refine wpAnyH_take (i := 4) (oi := ⟨some 12, _, _, _, _, _⟩) (v := .int .i64 6) rfl (by kernel_rfl) (by kernel_rfl) (by kernel_rfl) (fun _ _ _ h => h) (Or.inl ⟨by rfl, fun W hW => by have hc := HP34.out W hW; go_simp⟩) hHeld ?_
    simp only [Act.put, List.setIfInBounds_toArray, List.set_cons_zero, List.set_cons_succ]
    refine wpAnyH_take (i := 6) (oi := ⟨some 14, _, _, _, _, _⟩) (v := .slice A len cap) rfl (by kernel_rfl) (by kernel_rfl) (by kernel_rfl) (fun _ _ _ h => h) (Or.inl ⟨by rfl, fun _ _ => by go_simp⟩) hHeld ?_
    simp only [Act.put, List.setIfInBounds_toArray, List.set_cons_zero, List.set_cons_succ]
    refine wpAnyH_take (i := 7) (oi := ⟨some 15, _, _, _, _, _⟩) (v := .int .i64 (len : Int)) rfl (by kernel_rfl) (by kernel_rfl) (by kernel_rfl) (fun _ _ _ h => h) (Or.inl ⟨by rfl, fun _ _ => by go_simp⟩) hHeld ?_
    simp only [Act.put, List.setIfInBounds_toArray, List.set_cons_zero, List.set_cons_succ]
    refine wpAnyH_ready (rs := [2]) (by kernel_rfl) (by simp) (AllReadyH.cons (o := ⟨some 10, _, _, _, _, _⟩) rfl (fun K hK => ?_) AllReadyH.nil)
    go_simp
    refine (SH.out _).mono ?_
    rintro e wa ⟨rfl, rfl⟩
    refine hK.out _ _ (hHeld) (fun hHeld => ?_)
    clear hK K 
    refine wpAnyH_ready (rs := [5]) (by kernel_rfl) (by simp) (AllReadyH.cons (o := ⟨some 13, _, _, _, _, _⟩) rfl (fun K hK => ?_) AllReadyH.nil)
    go_simp
    refine (SH.out _).mono ?_
    rintro e wa ⟨rfl, rfl⟩
    refine hK.out _ _ (hHeld) (fun hHeld => ?_)
    clear hK K 
    refine wpAnyH_take (i := 8) (oi := ⟨some 16, _, _, _, _, _⟩) (v := .int .i64 (20 + (len : Int))) rfl (by kernel_rfl) (by kernel_rfl) (by kernel_rfl) (fun _ _ _ h => h) (Or.inl ⟨by rfl, fun _ _ => by go_simp⟩) hHeld ?_
    simp only [Act.put, List.setIfInBounds_toArray, List.set_cons_zero, List.set_cons_succ]
    refine wpAnyH_ready (rs := [9]) (by kernel_rfl) (by simp) (AllReadyH.cons (o := ⟨some 17, _, _, _, _, _⟩) rfl (fun K hK => ?_) AllReadyH.nil)
    have hmk := HMK.out
    go_simp
    have HM := Lib.hid (made_own YY 20 CC Y.heap.size hCs hCm hHeld.size)
    have HGE := Lib.hid hHeld.size
    have HB5 := Lib.hid (hHeld.alloc hHeld.size (.cells (madeCells #[.int .u8 0] CC) 5))
    generalize YY.alloc (.cells (madeCells #[.int .u8 0] CC) 5) = w5 at HM HB5 ⊢
    generalize YY.heap.size = G at HM HGE ⊢
    refine hK.out _ _ (HB5.out) (fun hHeld => ?_)
    clear hK K hmk
    refine wpAnyH_take (i := 10) (oi := ⟨some 7, _, _, _, _, _⟩) (v := .slice (some ⟨G, 0, none⟩) 20 CC) rfl (by kernel_rfl) (by kernel_rfl) (by kernel_rfl) (fun _ _ _ h => h) (Or.inl ⟨by rfl, fun _ _ => by go_simp⟩) hHeld ?_
    simp only [Act.put, List.setIfInBounds_toArray, List.set_cons_zero, List.set_cons_succ]
    refine wpAnyH_done (by kernel_rfl) ?_ _
    exact hc w5 G ⟨HGE.out, HM.out, HB5.out⟩
  case h2 =>
    intro w5 g hcc
    obtain ⟨hge, hq, hbz⟩ := hcc
    have HO5 := Lib.hid hq
    have HGE := Lib.hid hge
    have hwg : w.heap.size < g := Nat.lt_of_lt_of_le hYs hge
    have HB5 := Lib.hid hbz
    have HQ5 := Lib.hid (HQ.out.below hYs hbz)
    obtain ⟨n34, n35, n36⟩ := HNUM.out w5 HQ5.out
    clear hge hq hbz
    go_wp2_with fail
    refine (play_any S hS2 HO5.out (by rw [List.length_replicate]) 0 (by omega) (by omega) 0 (S : Int) rfl rfl).mono ?_
    rintro e w6 ⟨rfl, ho6, hb6⟩
    have HO6 := Lib.hid ho6
    have HQ6 := Lib.hid (HQ5.out.below hwg hb6)
    have HB6 := Lib.hid (HB5.out.trans (hb6.mono HGE.out))
    clear ho6 hb6 n34 n35 n36
    obtain ⟨n34, n35, n36⟩ := HNUM.out w6 HQ6.out
    go_wp2_with fail
    refine (play_any D hD2 HO6.out (by rw [put2_len_10, List.length_replicate]) 2 (by omega) (by omega) 2 (D : Int) rfl rfl).mono ?_
    rintro e w7 ⟨rfl, ho7, hb7⟩
    have HO7 := Lib.hid ho7
    have HQ7 := Lib.hid (HQ6.out.below hwg hb7)
    have HB7 := Lib.hid (HB6.out.trans (hb7.mono HGE.out))
    clear ho7 hb7 n34 n35 n36
    obtain ⟨n34, n35, n36⟩ := HNUM.out w7 HQ7.out
    have y1 : IntKind.u8.wrap (F : Int) = (F : Int) := by rw [IntKind.wrap_u8]; omega
    have HFB := Lib.hid (show (F : Int) = ((UInt8.ofNat F).toNat : Int) by rw [UInt8.toNat_ofNat']; omega)
    have HL7 := Lib.hid (show (put2_10 (put2_10 (List.replicate 20 0) 0 S) 2 D).length = 20 by rw [put2_len_10, put2_len_10, List.length_replicate])
    have HL8 := Lib.hid (show ((put2_10 (put2_10 (List.replicate 20 0) 0 S) 2 D).set 12 80).length = 20 by rw [List.length_set]; exact HL7.out)
    go_wp2_with (first
      | ((with_reducible show wpList _ _ _ (⟨none, .store 5 (.tmp 33) _, _, _, _, _⟩ :: _) _ _); refine wpList_storeO rfl (.tmp 33) _ rfl g 12 (by rfl) (80 : UInt8) 80 (by rfl) (by rfl) _ 20 CC Y.heap.size HL7.out HO7.out (by omega) ?_; intro wa hoa hba; have HOa := Lib.hid hoa; have HBa := Lib.hid hba; clear hoa hba)
      | ((with_reducible show wpList _ _ _ (⟨none, .store 5 (.tmp 34) _, _, _, _, _⟩ :: _) _ _); refine wpList_storeO rfl (.tmp 34) _ rfl g 13 (by rfl) (UInt8.ofNat F) (F : Int) HFB.out (by rfl) _ 20 CC Y.heap.size HL8.out HOa.out (by omega) ?_; intro w8 ho8 hb8x; have hb8 : Below g w7 w8 := HBa.out.trans hb8x; clear hb8x))
    have e8 : ((put2_10 (put2_10 (List.replicate 20 0) 0 S) 2 D).set 12 80).set 13 (UInt8.ofNat F) = be2 S ++ (be2 D ++ [0, 0, 0, 0, 0, 0, 0, 0, 80, UInt8.ofNat F, 0, 0, 0, 0, 0, 0]) := rfl
    rw [e8] at ho8
    have HO8 := Lib.hid ho8
    have HQ8 := Lib.hid (HQ7.out.below hwg hb8)
    have HB8 := Lib.hid (HB7.out.trans (hb8.mono HGE.out))
    clear ho8 hb8 n34 n35 n36 e8
    go_wp2_with fail
    have HP34b := Lib.hid (fun W (hW : Below g w8 W) => (HNUM.out W (HQ8.out.below hwg hW)).1)
    have HS8 := Lib.hid (fun W (hW : Below g w8 W) => tu_src (HQ8.out.below hwg hW))
    have HD8 := Lib.hid (fun W (hW : Below g w8 W) => tu_dst (HQ8.out.below hwg hW) HO.out)
    have hgl : g ≤ w8.heap.size := by obtain ⟨g', c', e', _, _, _, hl', _⟩ := HO8.out.formG (n := 20) rfl (by decide); cases e'; omega
    refine wp_region_held_drew (S := fun W => Below g w8 W) (by kernel_rfl) ((Below.refl _ _).drew) (fun hHeld => ?_)
    obtain ⟨X, hX⟩ : ∃ X, w8.drew = X := ⟨_, rfl⟩
    have hoX : Own8 X Y.heap.size (.slice (some ⟨g, 0, none⟩) 20 CC) (be2 S ++ (be2 D ++ [0, 0, 0, 0, 0, 0, 0, 0, 80, UInt8.ofNat F, 0, 0, 0, 0, 0, 0])) := by rw [← hX]; exact HO8.out.drew
    have HOX := Lib.hid hoX
    have HXS := Lib.hid (show w8.heap.size ≤ X.heap.size by rw [← hX]; exact Nat.le_refl _)
    have HBX := Lib.hid (show Below w.heap.size w X by rw [← hX]; exact (HB.out.trans (HB8.out.mono HB.out.size)).drew)
    rw [hX] at hHeld ⊢
    clear hX hoX
    refine wpAnyH_take (i := 0) (oi := ⟨some 40, _, _, _, _, _⟩) (v := .pointer (some ⟨w.heap.size, 0, none⟩)) rfl (by kernel_rfl) (by kernel_rfl) (by kernel_rfl) (fun _ _ _ h => h) (Or.inl ⟨by rfl, fun _ _ => by go_simp⟩) hHeld ?_
    simp only [Act.put, List.setIfInBounds_toArray, List.set_cons_zero, List.set_cons_succ]
    refine wpAnyH_take (i := 1) (oi := ⟨some 41, _, _, _, _, _⟩) (v := adC t.s) rfl (by kernel_rfl) (by kernel_rfl) (by kernel_rfl) (fun _ _ _ h => h) (yieldsIf_load_mid (by rfl) 26 _ rfl w.heap.size 0 rfl (adL t.s) _ HS8.out Try.underlying26 rfl (sizeAdL HO.out.s)) hHeld ?_
    simp only [Act.put, List.setIfInBounds_toArray, List.set_cons_zero, List.set_cons_succ]
    refine wpAnyH_take (i := 2) (oi := ⟨some 42, _, _, _, _, _⟩) (v := .pointer (some ⟨w.heap.size, 17, none⟩)) rfl (by kernel_rfl) (by kernel_rfl) (by kernel_rfl) (fun _ _ _ h => h) (Or.inl ⟨by rfl, fun _ _ => by go_simp⟩) hHeld ?_
    simp only [Act.put, List.setIfInBounds_toArray, List.set_cons_zero, List.set_cons_succ]
    refine wpAnyH_take (i := 3) (oi := ⟨some 43, _, _, _, _, _⟩) (v := adC t.d) rfl (by kernel_rfl) (by kernel_rfl) (by kernel_rfl) (fun _ _ _ h => h) (yieldsIf_load_mid (by rfl) 26 _ rfl w.heap.size 17 rfl (adL t.d) _ HD8.out Try.underlying26 rfl (sizeAdL HO.out.d)) hHeld ?_
    simp only [Act.put, List.setIfInBounds_toArray, List.set_cons_zero, List.set_cons_succ]
    refine wpAnyH_take (i := 4) (oi := ⟨some 44, _, _, _, _, _⟩) (v := .pointer (some ⟨w.heap.size, 34, none⟩)) rfl (by kernel_rfl) (by kernel_rfl) (by kernel_rfl) (fun _ _ _ h => h) (Or.inl ⟨by rfl, fun _ _ => by go_simp⟩) hHeld ?_
    simp only [Act.put, List.setIfInBounds_toArray, List.set_cons_zero, List.set_cons_succ]
    refine wpAnyH_take (i := 5) (oi := ⟨some 45, _, _, _, _, _⟩) (v := .int .i64 6) rfl (by kernel_rfl) (by kernel_rfl) (by kernel_rfl) (fun _ _ _ h => h) (Or.inl ⟨by rfl, fun W hW => by have hc := HP34b.out W hW; go_simp⟩) hHeld ?_
    simp only [Act.put, List.setIfInBounds_toArray, List.set_cons_zero, List.set_cons_succ]
    refine wpAnyH_take (i := 6) (oi := ⟨some 46, _, _, _, _, _⟩) (v := .slice (some ⟨g, 0, none⟩) 20 CC) rfl (by kernel_rfl) (by kernel_rfl) (by kernel_rfl) (fun _ _ _ h => h) (Or.inl ⟨by rfl, fun _ _ => by go_simp⟩) hHeld ?_
    simp only [Act.put, List.setIfInBounds_toArray, List.set_cons_zero, List.set_cons_succ]
    refine wpAnyH_take (i := 7) (oi := ⟨some 47, _, _, _, _, _⟩) (v := .slice A len cap) rfl (by kernel_rfl) (by kernel_rfl) (by kernel_rfl) (fun _ _ _ h => h) (Or.inl ⟨by rfl, fun _ _ => by go_simp⟩) hHeld ?_
    simp only [Act.put, List.setIfInBounds_toArray, List.set_cons_zero, List.set_cons_succ]
    refine wpAnyH_ready (rs := [8]) (by kernel_rfl) (by simp) (AllReadyH.cons (o := ⟨some 48, _, _, _, _, _⟩) rfl (fun K hK => ?_) AllReadyH.nil)
    refine step_append8 rfl (.tmp 46) (.tmp 47) rfl Y.heap.size _ _ (by rfl) HOX.out w.heap.size A len cap load (by rfl) (HRB.out X HBX.out) (by show 20 + len ≤ 2000000000; omega) (Nat.le_trans HB8.out.size HXS.out) ?_
    intro v9 w9 ho9 hg9
    rw [HX.out] at ho9
    obtain ⟨A9, c9, rfl, hc9, hm9, hr9⟩ := ho9.formN HXL.out
    have HR9 := Lib.hid hr9
    have hb9 := gb_to_below hg9 (Nat.le_refl g) (Nat.le_trans hgl HXS.out)
    have HB9 := Lib.hid (hHeld.trans hb9)
    clear ho9 hg9 hr9 hb9
    refine hK.out _ _ (HB9.out) (fun hHeld => ?_)
    clear hK K 
    refine wpAnyH_ready (rs := [9]) (by kernel_rfl) (by simp) (AllReadyH.cons (o := ⟨some 49, _, _, _, _, _⟩) rfl (fun K hK => ?_) AllReadyH.nil)
    go_simp
    refine (FI.out _ A9 c9 hc9 hm9 HR9.out).mono ?_
    rintro e wz ⟨v, rfl, hoz, hbz⟩
    have HOZ := Lib.hid hoz
    have HBZ := Lib.hid (HB9.out.trans (hbz.mono (Nat.le_trans hgl HB9.out.size)))
    have HSZ := Lib.hid (show w.heap.size ≤ w9.heap.size from Nat.le_trans (Nat.le_of_lt hwg) (Nat.le_trans hgl HB9.out.size))
    clear hoz
    refine hK.out _ _ (HBZ.out) (fun hHeld => ?_)
    clear hK K hbz
    refine wpAnyH_take (i := 10) (oi := ⟨some 6, _, _, _, _, _⟩) (v := v) rfl (by kernel_rfl) (by kernel_rfl) (by kernel_rfl) (fun _ _ _ h => h) (Or.inl ⟨by rfl, fun _ _ => by go_simp⟩) hHeld ?_
    simp only [Act.put, List.setIfInBounds_toArray, List.set_cons_zero, List.set_cons_succ]
    refine wpAnyH_done (by kernel_rfl) ?_ _
    go_wp2_with fail
    go_ret
    exact ⟨v, rfl, by rw [← HFF.out]; exact HOZ.out.base_le HSZ.out, (HB.out.trans (HB8.out.mono HB.out.size)).trans (HBZ.out.mono (Nat.le_of_lt hwg))⟩
/-- packet.segment, of what may be made. -/
theorem segment_any {L : Lk} {t : Tu} (h : t.Ok) {f : Int} (hm : MakeOk L t f) {A : Option Addr} {len cap : Nat} {load : List UInt8} (hl : shN_ t + len ≤ 65535) (w : World) (hI : Rd w w.heap.size A len load) :
    Calls Try.prog 33 #[tuC t, .int .i64 f, .slice A len cap] w fun e w' => ∃ v, e = .returned v ∧ Own8 w' w.heap.size v (fillK t f load) ∧ Below w.heap.size w w' := by
  rcases hm.pr with hp | hp
  · have hs : shN_ t = 20 := if_neg (by rw [hp]; decide)
    exact segment_T h hm hp (by omega) w hI
  · have hs : shN_ t = 8 := if_pos hp
    exact segment_U h hm hp (by omega) w hI
end Go.Proofs.Ytdkaaffghendiaa
