/-
  FlowPlays: its walk, the program's contracts a premise.
-/
import Derived.Test.YtfbiinipiklkaaaFLBld
import Derived.Test.YtfbiinipiklkaaaFLMath4
namespace Go.Proofs.Ytfbiinipiklkaaa
set_option maxRecDepth 100000
open Go.RowKit Go.Lib

set_option maxHeartbeats 64000000 in
theorem flowPlays_walkW {Rep : RepF} (S : FlowC Rep) (key : List UInt8) (hk : key.length = 16) (num : Nat) (hnum : num < 256) (A : Option Addr) (len cap : Nat) (xs : List Ac) (hc : len ≤ cap) (hm : cap ≤ maxLen) (hX : ∀ x, x ∈ xs → AcOk x) (w : World) (hI : RdG eAc w w.heap.size A len xs) :
    Calls Try.prog 4 #[.agg (key.map v8).toArray, .int .u8 (num : Int), .slice A len cap] w fun e w' => e = .returned (.bool true) ∧ Below w.heap.size w w' := by
  have HS := Lib.hid S
  have HKL := Lib.hid hk
  have HLB := Lib.hid (show len ≤ 9223372036854775807 by unfold maxLen at hm; omega)
  have HL := Lib.hid hI.len
  obtain ⟨KK, hKK⟩ : ∃ O, (key.map v8).toArray = O := ⟨_, rfl⟩
  have HKK := Lib.hid hKK
  obtain ⟨Y, hY⟩ : ∃ Y, w.alloc (.cells KK 22) = Y := ⟨_, rfl⟩
  have KY : Blk Y 22 w.heap.size (key.map v8) := by rw [← hY, ← hKK]; exact Blk_10.new w _ (key.map v8)
  have hB0 : Below w.heap.size w Y := by rw [← hY]; exact (Below.refl w.heap.size w).alloc (Nat.le_refl _) _
  have PK : Hid (∀ W, Below Y.heap.size Y W → W.rangeAt w.heap.size 0 (key.map v8)) := Lib.hid (fun W h => Blk_10.range (Blk_10.below KY (Blk_10.lt KY) h))
  have HR := Lib.hid (hI.below hB0)
  have HB := Lib.hid hB0
  have PR : Hid (∀ W, Below Y.heap.size Y W → RdG eAc W w.heap.size A len xs) := Lib.hid (fun W h => HR.out.below (h.mono HB.out.size))
  have HY := Lib.hid hY
  have HAW := Lib.hid (fun W => awake_any S W)
  have HNEW := Lib.hid (fun (r : Nat) (h1 : 1 ≤ r) (h2 : r ≤ 4096) (w0 : World) (B : Nat) (W : World) (hB : B ≤ w0.heap.size) (h : Below B w0 W) => tb_new S (w0 := w0) (B := B) (r := r) hk h1 h2 hB h)
  rw [hKK] at HNEW
  obtain ⟨F, hF⟩ : ∃ F, fewN (nmsA xs) = F := ⟨_, rfl⟩
  have HFE := Lib.hid hF
  have HFW : Hid (∀ W, Below Y.heap.size Y W → Calls Try.prog 17 #[.slice A len cap] W fun e w' => e = .returned (.bool F) ∧ w' = W) := Lib.hid (fun W h => by rw [← hF]; exact rfewA_any cap HLB.out W (PR.out W h))
  have HXO := Lib.hid hX
  rw [hKK]

  clear hY hF hI hX hk hm hB0 KY S
  cases F
  · skip
    go_enter Try.func4, Try.ntmps4
    go_upto_region 1 with (fail)
    rw [HY.out]
    go_wp2_with (first | ((with_reducible refine (HAW.out Y).mono ?_); rintro e w1 ⟨rfl, hb⟩; have D1 := Lib.hid hb; clear hb) | ((with_reducible refine (HFW.out w1 D1.out).mono ?_); rintro e wf ⟨rfl, hwf⟩; subst hwf))
    refine (HAW.out _).mono ?_
    rintro e wz ⟨rfl, hz⟩
    go_wp2_with fail
    go_ret
    exact ⟨rfl, HB.out.trans ((bel3 D1.out hz).mono HB.out.size)⟩
  · have hfw := (fewN_iff _).1 HFE.out
    have HN80 := Lib.hid (show len ≤ 80 by have h := hfw.1; rw [nmsA_len, HL.out] at h; exact h)
    have HIN := Lib.hid (fun x (h : x ∈ xs) => (HXO.out x h).fl.inF (by have h9 := hfw.2 _ (List.mem_map_of_mem (f := fun a : Ac => a.fl.nm) h); omega))
    clear hfw
    obtain ⟨RR, hRR⟩ : ∃ r, roomN num = r := ⟨_, rfl⟩
    have q3 : 1 ≤ RR := by rw [← hRR]; exact (room_in num).1
    have q4 : RR ≤ 40 := by rw [← hRR]; exact (room_in num).2
    have HRM : Hid (∀ W, Calls Try.prog 18 #[.int .u8 (num : Int)] W fun e w' => e = .returned (.int .i64 (RR : Int)) ∧ w' = W) := Lib.hid (fun W => by rw [← hRR]; exact rroom_any num hnum W)
    have NW : Hid (∀ W, Below Y.heap.size Y W → Calls Try.prog 11 #[.agg KK, .int .i64 (RR : Int)] W (NewGave Rep Y Y.heap.size RR W)) := Lib.hid (fun W h => HNEW.out RR q3 (by omega) Y Y.heap.size W (Nat.le_refl _) h)
    have HQ3 := Lib.hid q3
    have HQ4 := Lib.hid q4
    clear HNEW hRR hnum q3 q4
    go_enter Try.func4, Try.ntmps4
    go_upto_region 1 with (fail)
    rw [HY.out]
    go_upto_region 3 with (first | ((with_reducible refine (HAW.out Y).mono ?_); rintro e w1 ⟨rfl, hb⟩; have D1 := Lib.hid hb; clear hb) | ((with_reducible refine (HFW.out w1 D1.out).mono ?_); rintro e wf ⟨rfl, hwf⟩; subst hwf))
    refine wp_region_held_drew (S := fun W => Below Y.heap.size Y W) (by kernel_rfl) (D1.out.drew) (fun hHeld => ?_)
    refine tkY 0 30 (.agg KK) rfl (by rw [← HKK.out]; exact yieldsIf_load_mid (by rfl) 22 _ rfl w.heap.size 0 (by rfl) (key.map v8) _ PK.out Try.underlying22 rfl (sizeKey HKL.out)) hHeld ?_
    simp only [Act.put, sA, sZ, sS]
    refine tk 1 31 (.int .u8 (num : Int)) rfl hHeld ?_
    simp only [Act.put, sA, sZ, sS]
    refine wpAnyH_ready (rs := [2]) (by kernel_rfl) (by simp) (AllReadyH.cons (o := ⟨some 32, _, _, _, _, _⟩) rfl (fun K hK => ?_) AllReadyH.nil)
    go_simp
    refine (HRM.out _).mono ?_
    rintro e wq ⟨rfl, hq⟩
    subst hq
    refine hK.out _ _ (hHeld) (fun hHeld => ?_)
    clear hK K 
    refine wpAnyH_ready (rs := [3]) (by kernel_rfl) (by simp) (AllReadyH.cons (o := ⟨some 33, _, _, _, _, _⟩) rfl (fun K hK => ?_) AllReadyH.nil)
    go_simp
    refine (NW.out _ hHeld).mono ?_
    rintro e w2 ⟨g, fp2, rfl, hT, _, _⟩
    have T2 := Lib.hid hT
    refine hK.out _ _ (T2.out.bel) (fun hHeld => ?_)
    clear hK K hT
    refine tk 4 29 (.tuple #[.pointer (some ⟨g, 0, none⟩), .int .i64 0]) rfl hHeld ?_
    simp only [Act.put, sA, sZ, sS]
    refine tk 5 34 (.pointer (some ⟨g, 0, none⟩)) rfl hHeld ?_
    simp only [Act.put, sA, sZ, sS]
    refine tk 6 35 (.int .i64 0) rfl hHeld ?_
    simp only [Act.put, sA, sZ, sS]
    refine tk 7 7 (.pointer (some ⟨g, 0, none⟩)) rfl hHeld ?_
    simp only [Act.put, sA, sZ, sS]
    refine tk 8 8 (.int .i64 0) rfl hHeld ?_
    simp only [Act.put, sA, sZ, sS]
    clear hHeld
    refine wpAnyH_done (by kernel_rfl) ?_ _
    go_upto_region 7 with (first | ((with_reducible refine (HRM.out _).mono ?_); rintro e wq ⟨rfl, hq⟩; subst hq) | ((with_reducible show wpList _ _ _ (⟨some 40, _, _, _, _, _⟩ :: _) _ _); refine wpList_buildw (op := ⟨some 40, _, _, _, _, _⟩) 44 _ rfl (by rfl) _ (by rfl) _ (builtRT0 _) ?_))
    obtain ⟨w11, h11⟩ : ∃ W, wq.alloc (.cells #[.int .i64 (RR : Int), .slice none 0 0] 44) = W := ⟨_, rfl⟩
    rw [h11]
    have hb11 : Below wq.heap.size wq w11 := by rw [← h11]; exact (Below.refl _ _).alloc (Nat.le_refl _) _
    have T1 := Lib.hid (T2.out.below HS.out hb11)
    obtain ⟨gT, hgT⟩ : ∃ n, wq.heap.size = n := ⟨_, rfl⟩
    have hbk : Blk_10 w11 44 wq.heap.size [.int .i64 (RR : Int), .slice none 0 0] := by rw [← h11]; exact Blk_10.new wq _ [.int .i64 (RR : Int), .slice none 0 0]
    have R1 : Hid (RefT w11 gT (RR : Int) (.slice none 0 0) []) := Lib.hid ⟨by rw [← hgT]; exact hbk, OwnG.nil_ eF w11 0, fun e => by cases e⟩
    have HGB : Hid (Y.heap.size ≤ gT) := Lib.hid (by rw [← hgT]; exact T2.out.big)
    have N1 : Hid (Off fp2 gT (.slice none 0 0)) := Lib.hid ⟨by rw [← hgT]; exact T2.out.new_off HS.out (Nat.le_refl _), fun b hb => by cases hb⟩
    rw [hgT]
    clear hbk hb11 h11 hgT T2
    go_wp2_with fail
    go_loopw [10] (fun v10 wr => ∃ (i : Nat) (fp : Nat → Prop) (lv : Value) (m : List Fw), i ≤ len ∧ v10 = .int .i64 (i : Int) ∧ Hid (Tb Rep Y Y.heap.size (.pointer (some ⟨g, 0, none⟩)) RR m wr fp) ∧ Hid (RefT wr gT (RR : Int) lv m) ∧ Hid (Off fp gT lv)) (fun v10 _ => len - (RowKit.intOf v10).toNat)
    case atStart => exact ⟨0, fp2, _, [], Nat.zero_le _, rfl, T1, R1, N1⟩
    case round =>
      clear T1 R1 N1
      obtain ⟨i, fp, lv, m, hi, rfl, TT, RT, NT⟩ := hrel
      by_cases hli : i < len
      · skip
        have h1 : (i : Int) < (len : Int) := by omega
        have h0 : (0 : Int) ≤ (i : Int) := by omega
        have hk9 : i < 9223372036854775807 := by have := HN80.out; omega
        obtain ⟨a, hx⟩ : ∃ x, xs[i]? = some x := ⟨_, List.getElem?_eq_getElem (by rw [HL.out]; exact hli)⟩
        obtain ⟨b, off, rfl, _⟩ := (PR.out wr TT.out.bel).addr (by omega)
        have RX : Hid (∀ W, Below Y.heap.size Y W → W.rangeAt b (off + i * 49) (acL a)) := Lib.hid (fun W hW => (PR.out W hW).range hx)
        have CK : Hid (∀ W, Below Y.heap.size Y W → W.cell? ⟨b, off + i * 49, none⟩ = some (.int .i64 a.kind)) := Lib.hid (fun W hW => (PR.out W hW).cell hx 0 (ac_kind a))
        have CN : Hid (∀ W, Below Y.heap.size Y W → W.cell? ⟨b, off + i * 49 + 42, none⟩ = some (.int .i64 a.now)) := Lib.hid (fun W hW => (PR.out W hW).cell hx 42 (ac_now a))
        have HIX := Lib.hid (HIN.out a (List.mem_of_getElem? hx))
        have HAO := Lib.hid (HXO.out a (List.mem_of_getElem? hx))
        obtain ⟨f, hf⟩ : ∃ f, a.fl = f := ⟨_, rfl⟩
        rw [hf] at HIX
        have HF := Lib.hid hf
        have RXF : Hid (∀ W, Below Y.heap.size Y W → W.rangeAt b (off + i * 49 + 1) (fwL f)) := Lib.hid (fun W hW => by rw [← hf]; exact ac_fw (RX.out W hW))
        obtain ⟨J, hJ⟩ : ∃ J, (tuL f.k).toArray = J := ⟨_, rfl⟩
        have HJ := Lib.hid hJ
        obtain ⟨O, hO⟩ : ∃ O, (fwL f).toArray = O := ⟨_, rfl⟩
        have HO := Lib.hid hO
        obtain ⟨ZZ, hZZ⟩ : ∃ O, (fwL fw0).toArray = O := ⟨_, rfl⟩
        have HZZ := Lib.hid hZZ
        have HBZ : Hid (Try.prog.built 28 [] = some ZZ) := Lib.hid (by rw [← hZZ]; kernel_rfl)
        obtain ⟨kd, hkd⟩ : ∃ z, a.kind = z := ⟨_, rfl⟩
        rw [hkd] at CK
        have HLT := Lib.hid hli
        have HRT : Hid (RightT RR m) := Lib.hid TT.out.right
        have HGF : Hid (wr.heap.size ≠ gT) := Lib.hid (by have := RT.out.lt; omega)
        clear hx hJ hO hf hZZ hkd hli hi
        by_cases e0 : kd = 0
        · subst e0
          obtain ⟨mm, hmm⟩ : ∃ n, putT RR m f = n := ⟨_, rfl⟩
          have HMM := Lib.hid hmm
          obtain ⟨go, hgo⟩ : ∃ n, goF RR m f = n := ⟨_, rfl⟩
          obtain ⟨GO, hGO⟩ : ∃ n, (fwL go).toArray = n := ⟨_, rfl⟩
          have HGG := Lib.hid hGO
          obtain ⟨lf, hlf⟩ : ∃ z, lfB RR m f = z := ⟨_, rfl⟩
          obtain ⟨ec, hec⟩ : ∃ z : Int, (if rightF f = true then 0 else 1) = z := ⟨_, rfl⟩
          have HPV : Hid (putV RR m f = .tuple #[.agg GO, .bool lf, .int .i64 ec]) := Lib.hid (by rw [putV_form, hgo, fw_c hGO, hlf, hec])
          clear hmm hgo hGO hlf hec
          as_aux_lemma =>
            go_upto_region 11 with (first | ((with_reducible show wpList _ _ _ (⟨some 52, _, _, _, _, _⟩ :: _) _ _); refine wpList_loadFw (op := ⟨some 52, _, _, _, _, _⟩) _ rfl (by rfl) b (off + i * 49 + 1) (by rfl) f (RXF.out _ TT.out.bel) O HO.out ?_) | ((with_reducible show wpList _ _ _ (⟨none, .store _ (.tmp 11) _, _, _, _, _⟩ :: _) _ _); refine wpList_storeNewG rfl 28 _ _ rfl (by rfl) (fwL f) (by rw [HO.out]; rfl) (by rw [fwL_len]; rfl) (sizeFwL _) (fwL_one _) ?_; intro ws1 hb9 hB9 _; have T2 := Lib.hid (TT.out.below HS.out hB9); have R2 := Lib.hid (RT.out.below hB9); have X_0 : Hid (Out ws1 fp wr.heap.size f) := Lib.hid ⟨hb9, TT.out.new_off HS.out (Nat.le_refl _)⟩; have HX : Hid (wr.heap.size ≠ gT) := Lib.hid (by have := RT.out.lt; omega); clear hb9 hB9 TT RT))
            have c0 := CK.out ws1 T2.out.bel
            go_upto_region 13 with (first | ((with_reducible show wpList _ _ _ (⟨some 61, _, _, _, _, _⟩ :: _) _ _); refine wpList_loadFw (op := ⟨some 61, _, _, _, _, _⟩) _ rfl (by rfl) wr.heap.size (0) (by rfl) f (out_at X_0.out) O HO.out ?_) | ((have hq := T2.out.put HS.out HIX.out); (rw [fw_c HO.out, HPV.out, HMM.out] at hq); (with_reducible refine hq.mono ?_); clear hq; rintro e wm3 ⟨rfl, fm3, hT, hkp, hs⟩; have T4 := Lib.hid hT; have R4 := Lib.hid (duo_ref R2.out NT.out hkp); have N4 := Lib.hid (duo_off R2.out NT.out hs); have X4 := Lib.hid (X_0.out.left hkp hs); clear T2 R2 NT X_0 hT hkp hs) | ((with_reducible show wpList _ _ _ (⟨none, .store _ (.tmp 12) _, _, _, _, _⟩ :: _) _ _); refine wpList_storeNewG rfl 28 _ _ rfl (by rfl) (fwL go) (by rw [HGG.out]; rfl) (by rw [fwL_len]; rfl) (sizeFwL _) (fwL_one _) ?_; intro ws5 hb9 hB9 _; have T6 := Lib.hid (T4.out.below HS.out hB9); have R6 := Lib.hid (R4.out.below hB9); have X6 := Lib.hid (X4.out.below hB9); have Q_0 : Hid (Out ws5 fm3 wm3.heap.size go) := Lib.hid ⟨hb9, T4.out.new_off HS.out (Nat.le_refl _)⟩; have HQ : Hid (wm3.heap.size ≠ gT) := Lib.hid (by have := R4.out.lt; omega); clear hb9 hB9 T4 R4 X4))
            go_upto_region 14 with (first | ((with_reducible show wpList _ _ _ (⟨some 68, _, _, _, _, _⟩ :: _) _ _); refine wpList_loadFw (op := ⟨some 68, _, _, _, _, _⟩) _ rfl (by rfl) wr.heap.size (0) (by rfl) f (out_at X6.out) O HO.out ?_) | ((have hq := rput21_any R6.out HRT.out HQ3.out (by have := HQ4.out; omega) f (by have := HIX.out.nm; omega)); (rw [fw_c HO.out, HPV.out, HMM.out] at hq); (with_reducible refine hq.mono ?_); clear hq; rintro e wrf ⟨rfl, lvp, hr, hg, hn⟩; have T7 := Lib.hid (T6.out.grown HS.out hg HGB.out N4.out.1); have R7 := Lib.hid hr; have N7 := Lib.hid (duo_new HS.out T6.out N4.out hn); have X7 := Lib.hid (X6.out.grown hg HGF.out); have Q_7 := Lib.hid (Q_0.out.grown hg HQ.out); clear T6 R6 N4 X6 Q_0 hr hg hn) | ((with_reducible show wpList _ _ _ (⟨none, .store _ (.tmp 15) _, _, _, _, _⟩ :: _) _ _); refine wpList_storeNewG rfl 28 _ _ rfl (by rfl) (fwL go) (by rw [HGG.out]; rfl) (by rw [fwL_len]; rfl) (sizeFwL _) (fwL_one _) ?_; intro ws8 hb9 hB9 _; have T9 := Lib.hid (T7.out.below HS.out hB9); have R9 := Lib.hid (R7.out.below hB9); have X9 := Lib.hid (X7.out.below hB9); have Q_9 := Lib.hid (Q_7.out.below hB9); have U_0 : Hid (Out ws8 fm3 wrf.heap.size go) := Lib.hid ⟨hb9, T7.out.new_off HS.out (Nat.le_refl _)⟩; have HU : Hid (wrf.heap.size ≠ gT) := Lib.hid (by have := R7.out.lt; omega); clear hb9 hB9 T7 R7 X7 Q_7))
            have c9 := CK.out ws8 T9.out.bel
            go_upto_region 16 with (first | ((with_reducible show wpList _ _ _ (⟨some 73, _, _, _, _, _⟩ :: _) _ _); refine wpList_loadFw (op := ⟨some 73, _, _, _, _, _⟩) _ rfl (by rfl) wm3.heap.size (0) (by rfl) go (out_at Q_9.out) GO HGG.out ?_) | ((with_reducible show wpList _ _ _ (⟨some 74, _, _, _, _, _⟩ :: _) _ _); refine wpList_loadFw (op := ⟨some 74, _, _, _, _, _⟩) _ rfl (by rfl) wrf.heap.size (0) (by rfl) go (out_at U_0.out) GO HGG.out ?_) | ((with_reducible show wpList _ _ _ (⟨some 75, _, _, _, _, _⟩ :: _) _ _); refine wpList_cmpS (op := ⟨some 75, _, _, _, _, _⟩) .neq 28 _ _ _ rfl (by rfl) GO GO (by rfl) (by rfl) guard_fw false (fun W => by have h := ne_fws HGG.out HGG.out W; rwa [fwQ_self] at h) ?_))
            clear c9 Q_9 U_0
            clear c0
            refine wp_region_held_drew (S := fun W => Below Y.heap.size Y W ∧ W.rangeAt wr.heap.size 0 (fwL f)) (by kernel_rfl) (⟨T9.out.bel.drew, out_at X9.out⟩) (fun hHeld => ?_)
            have T10 := Lib.hid (T9.out.drew HS.out)
            have R10 := Lib.hid R9.out.drew
            have X10 : Hid (Out ws8.drew fm3 wr.heap.size f) := Lib.hid (show Out ws8.drew fm3 wr.heap.size f from X9.out)
            clear T9 R9 X9
            generalize ws8.drew = wd10 at *
            refine tk 0 86 (.slice (some ⟨b, off, none⟩) len cap) rfl hHeld ?_
            simp only [Act.put, sA, sZ, sS]
            refine tk 1 87 (.int .i64 (i : Int)) rfl hHeld ?_
            simp only [Act.put, sA, sZ, sS]
            refine tk 2 88 (.pointer (some ⟨b, off + i * 49, none⟩)) rfl hHeld ?_
            simp only [Act.put, sA, sZ, sS]
            refine tk 3 89 (.pointer (some ⟨b, off + i * 49, none⟩)) rfl hHeld ?_
            simp only [Act.put, sA, sZ, sS]
            refine tkY 4 90 (.int .i64 0) rfl (Or.inl ⟨by rfl, fun W hW => by have hc := CK.out W hW.1; go_simp⟩) hHeld ?_
            simp only [Act.put, sA, sZ, sS]
            refine tk 5 91 (.bool false) rfl hHeld ?_
            simp only [Act.put, sA, sZ, sS]
            refine tk 6 92 (.bool false) rfl hHeld ?_
            simp only [Act.put, sA, sZ, sS]
            refine tkN 7 93 rfl hHeld ?_
            simp only [Act.put, sA, sZ, sS]
            refine tkN 8 94 rfl hHeld ?_
            simp only [Act.put, sA, sZ, sS]
            refine tkN 9 95 rfl hHeld ?_
            simp only [Act.put, sA, sZ, sS]
            refine tkN 10 96 rfl hHeld ?_
            simp only [Act.put, sA, sZ, sS]
            refine tkN 11 97 rfl hHeld ?_
            simp only [Act.put, sA, sZ, sS]
            refine tkN 12 98 rfl hHeld ?_
            simp only [Act.put, sA, sZ, sS]
            refine tkN 13 99 rfl hHeld ?_
            simp only [Act.put, sA, sZ, sS]
            refine tkN 14 100 rfl hHeld ?_
            simp only [Act.put, sA, sZ, sS]
            refine tkN 15 101 rfl hHeld ?_
            simp only [Act.put, sA, sZ, sS]
            refine tk 16 102 (.bool false) rfl hHeld ?_
            simp only [Act.put, sA, sZ, sS]
            clear hHeld
            refine wpAnyH_done (by kernel_rfl) ?_ _
            go_upto_region 18 with (fail)
            refine wp_region_held_drew (S := fun W => Below Y.heap.size Y W ∧ W.rangeAt wr.heap.size 0 (fwL f)) (by kernel_rfl) (⟨T10.out.bel.drew, out_at X10.out⟩) (fun hHeld => ?_)
            have T11 := Lib.hid (T10.out.drew HS.out)
            have R11 := Lib.hid R10.out.drew
            have X11 : Hid (Out wd10.drew fm3 wr.heap.size f) := Lib.hid (show Out wd10.drew fm3 wr.heap.size f from X10.out)
            clear T10 R10 X10
            generalize wd10.drew = wd11 at *
            refine tk 0 103 (.slice (some ⟨b, off, none⟩) len cap) rfl hHeld ?_
            simp only [Act.put, sA, sZ, sS]
            refine tk 1 104 (.int .i64 (i : Int)) rfl hHeld ?_
            simp only [Act.put, sA, sZ, sS]
            refine tk 2 105 (.pointer (some ⟨b, off + i * 49, none⟩)) rfl hHeld ?_
            simp only [Act.put, sA, sZ, sS]
            refine tk 3 106 (.pointer (some ⟨b, off + i * 49, none⟩)) rfl hHeld ?_
            simp only [Act.put, sA, sZ, sS]
            refine tkY 4 107 (.int .i64 0) rfl (Or.inl ⟨by rfl, fun W hW => by have hc := CK.out W hW.1; go_simp⟩) hHeld ?_
            simp only [Act.put, sA, sZ, sS]
            refine tk 5 108 (.bool false) rfl hHeld ?_
            simp only [Act.put, sA, sZ, sS]
            refine tk 6 109 (.bool false) rfl hHeld ?_
            simp only [Act.put, sA, sZ, sS]
            refine tkN 7 110 rfl hHeld ?_
            simp only [Act.put, sA, sZ, sS]
            refine tkN 8 111 rfl hHeld ?_
            simp only [Act.put, sA, sZ, sS]
            refine tkN 9 112 rfl hHeld ?_
            simp only [Act.put, sA, sZ, sS]
            refine tkN 10 113 rfl hHeld ?_
            simp only [Act.put, sA, sZ, sS]
            refine tkN 11 114 rfl hHeld ?_
            simp only [Act.put, sA, sZ, sS]
            refine tkN 12 115 rfl hHeld ?_
            simp only [Act.put, sA, sZ, sS]
            refine tkN 13 116 rfl hHeld ?_
            simp only [Act.put, sA, sZ, sS]
            refine tkN 14 117 rfl hHeld ?_
            simp only [Act.put, sA, sZ, sS]
            refine tkN 15 118 rfl hHeld ?_
            simp only [Act.put, sA, sZ, sS]
            refine tkN 16 119 rfl hHeld ?_
            simp only [Act.put, sA, sZ, sS]
            refine tkN 17 120 rfl hHeld ?_
            simp only [Act.put, sA, sZ, sS]
            refine tkN 18 121 rfl hHeld ?_
            simp only [Act.put, sA, sZ, sS]
            refine tkN 19 122 rfl hHeld ?_
            simp only [Act.put, sA, sZ, sS]
            refine tkN 20 123 rfl hHeld ?_
            simp only [Act.put, sA, sZ, sS]
            refine tkN 21 124 rfl hHeld ?_
            simp only [Act.put, sA, sZ, sS]
            refine tkN 22 125 rfl hHeld ?_
            simp only [Act.put, sA, sZ, sS]
            refine tkN 23 126 rfl hHeld ?_
            simp only [Act.put, sA, sZ, sS]
            refine tkN 24 127 rfl hHeld ?_
            simp only [Act.put, sA, sZ, sS]
            refine tkN 25 128 rfl hHeld ?_
            simp only [Act.put, sA, sZ, sS]
            refine tkN 26 129 rfl hHeld ?_
            simp only [Act.put, sA, sZ, sS]
            refine tkN 27 130 rfl hHeld ?_
            simp only [Act.put, sA, sZ, sS]
            refine tkN 28 131 rfl hHeld ?_
            simp only [Act.put, sA, sZ, sS]
            refine tkN 29 132 rfl hHeld ?_
            simp only [Act.put, sA, sZ, sS]
            refine tkN 30 133 rfl hHeld ?_
            simp only [Act.put, sA, sZ, sS]
            refine tkN 31 134 rfl hHeld ?_
            simp only [Act.put, sA, sZ, sS]
            refine tkN 32 135 rfl hHeld ?_
            simp only [Act.put, sA, sZ, sS]
            refine tk 33 136 (.bool false) rfl hHeld ?_
            simp only [Act.put, sA, sZ, sS]
            clear hHeld
            refine wpAnyH_done (by kernel_rfl) ?_ _
            obtain ⟨Al, nl, cl, hlv, hnl, _, _, _, _⟩ := R11.out.own.sl
            subst hlv
            have HNL := Lib.hid hnl
            have HRU : Hid (RightT RR mm) := Lib.hid T11.out.right
            clear hnl
            by_cases hpl : placeK mm f.k < 0
            · as_aux_lemma =>
                have HGV : Hid (getV mm f.k = .tuple #[.agg ZZ, .bool false]) := Lib.hid (by rw [getV_none (place_none.1 hpl), fw_c HZZ.out])
                obtain ⟨z, hz⟩ : ∃ z, placeK mm f.k = z := ⟨_, rfl⟩
                have HPL := Lib.hid hz
                have hz0 : ¬ (0 : Int) ≤ z := by omega
                have hz1 : z < 0 := by omega
                clear hpl hz
                go_upto_region 21 with (first | ((with_reducible show wpList _ _ _ (⟨some 140, _, _, _, _, _⟩ :: _) _ _); refine wpList_loadKeyF (op := ⟨some 140, _, _, _, _, _⟩) _ rfl (by rfl) wr.heap.size (0) (by rfl) f (out_at X11.out) J HJ.out ?_) | ((have hq := T11.out.get HS.out HIX.out.t); (rw [key_c HJ.out, HGV.out] at hq); (with_reducible refine hq.mono ?_); clear hq; rintro e wm12 ⟨rfl, fm12, hT, hkp, hs⟩; have T13 := Lib.hid hT; have R13 := Lib.hid (duo_ref R11.out N7.out hkp); have N13 := Lib.hid (duo_off R11.out N7.out hs); have X13 := Lib.hid (X11.out.left hkp hs); clear T11 R11 N7 X11 hT hkp hs) | ((with_reducible show wpList _ _ _ (⟨none, .store _ (.tmp 18) _, _, _, _, _⟩ :: _) _ _); refine wpList_storeNewG rfl 28 _ _ rfl (by rfl) (fwL fw0) (by rw [HZZ.out]; rfl) (by rw [fwL_len]; rfl) (sizeFwL _) (fwL_one _) ?_; intro ws14 hb9 hB9 _; have T15 := Lib.hid (T13.out.below HS.out hB9); have R15 := Lib.hid (R13.out.below hB9); have X15 := Lib.hid (X13.out.below hB9); have E_0 : Hid (Out ws14 fm12 wm12.heap.size fw0) := Lib.hid ⟨hb9, T13.out.new_off HS.out (Nat.le_refl _)⟩; have HE : Hid (wm12.heap.size ≠ gT) := Lib.hid (by have := R13.out.lt; omega); clear hb9 hB9 T13 R13 X13))
                go_upto_region 22 with (first | ((with_reducible show wpList _ _ _ (⟨some 146, _, _, _, _, _⟩ :: _) _ _); refine wpList_loadKeyF (op := ⟨some 146, _, _, _, _, _⟩) _ rfl (by rfl) wr.heap.size (0) (by rfl) f (out_at X15.out) J HJ.out ?_) | ((have hq := rfind21_any R15.out f.ok); (rw [key_c HJ.out, HPL.out] at hq); (with_reducible refine hq.mono ?_); clear hq; rintro e wfd ⟨rfl, hb⟩; have T16 := Lib.hid (T15.out.below HS.out hb); have R16 := Lib.hid (R15.out.below hb); have X16 := Lib.hid (X15.out.below hb); have E_16 := Lib.hid (E_0.out.below hb); clear hb T15 R15 X15 E_0))
                refine wp_region_held_drew (S := fun W => (∃ fq, Hid (Tb Rep Y Y.heap.size (.pointer (some ⟨g, 0, none⟩)) RR mm W fq) ∧ Hid (RefT W gT (RR : Int) (.slice Al nl cl) mm) ∧ Hid (Off fq gT (.slice Al nl cl)) ∧ Hid (Out W fq wm12.heap.size fw0))) (by kernel_rfl) (⟨fm12, Lib.hid (T16.out.drew HS.out), Lib.hid R16.out.drew, N13, Lib.hid (show Out _ fm12 wm12.heap.size fw0 from E_16.out)⟩) (fun hHeld => ?_)
                clear T16 R16 N13 X16 E_16
                refine tk 0 148 (.bool false) rfl hHeld ?_
                simp only [Act.put, sA, sZ, sS]
                refine tk 1 149 (.int .i64 z) rfl hHeld ?_
                simp only [Act.put, sA, sZ, sS]
                refine tk 2 150 (.bool false) rfl hHeld ?_
                simp only [Act.put, sA, sZ, sS]
                refine tk 3 151 (.bool false) rfl hHeld ?_
                simp only [Act.put, sA, sZ, sS]
                refine tk 4 152 (.bool false) rfl hHeld ?_
                simp only [Act.put, sA, sZ, sS]
                refine tk 5 153 (.int .i64 z) rfl hHeld ?_
                simp only [Act.put, sA, sZ, sS]
                refine tk 6 154 (.bool false) rfl hHeld ?_
                simp only [Act.put, sA, sZ, sS]
                refine tk 7 155 (.bool false) rfl hHeld ?_
                simp only [Act.put, sA, sZ, sS]
                refine tkN 8 156 rfl hHeld ?_
                simp only [Act.put, sA, sZ, sS]
                refine tkN 9 157 rfl hHeld ?_
                simp only [Act.put, sA, sZ, sS]
                refine tkN 10 158 rfl hHeld ?_
                simp only [Act.put, sA, sZ, sS]
                refine tkN 11 159 rfl hHeld ?_
                simp only [Act.put, sA, sZ, sS]
                refine tkN 12 160 rfl hHeld ?_
                simp only [Act.put, sA, sZ, sS]
                refine tkN 13 161 rfl hHeld ?_
                simp only [Act.put, sA, sZ, sS]
                refine tkN 14 162 rfl hHeld ?_
                simp only [Act.put, sA, sZ, sS]
                refine tkN 15 163 rfl hHeld ?_
                simp only [Act.put, sA, sZ, sS]
                refine tkN 16 164 rfl hHeld ?_
                simp only [Act.put, sA, sZ, sS]
                refine tk 17 165 (.bool false) rfl hHeld ?_
                simp only [Act.put, sA, sZ, sS]
                refine tk 18 166 (.bool false) rfl hHeld ?_
                simp only [Act.put, sA, sZ, sS]
                refine tk 19 167 (.bool false) rfl hHeld ?_
                simp only [Act.put, sA, sZ, sS]
                refine tk 20 168 (.bool false) rfl hHeld ?_
                simp only [Act.put, sA, sZ, sS]
                refine tk 21 169 (.bool true) rfl hHeld ?_
                simp only [Act.put, sA, sZ, sS]
                refine tk 22 170 (.bool true) rfl hHeld ?_
                simp only [Act.put, sA, sZ, sS]
                refine tkY 23 171 (.agg ZZ) rfl (yields_loadFw (by rfl) _ rfl wm12.heap.size 0 (by rfl) fw0 (fun W hW => by obtain ⟨_, _, _, _, he⟩ := hW; exact out_at he.out) ZZ HZZ.out) hHeld ?_
                simp only [Act.put, sA, sZ, sS]
                refine tkY 24 172 (.agg ZZ) rfl (yields_bldF (by rfl) 28 #[] rfl [] (by simp) ZZ HBZ.out) hHeld ?_
                simp only [Act.put, sA, sZ, sS]
                refine tkY 25 173 (.bool false) rfl (yields_cmpS (by rfl) .neq 28 _ _ _ rfl ZZ ZZ (by rfl) (by rfl) guard_fw false (fun W => by have h := ne_fws HZZ.out HZZ.out W; rwa [fwQ_self] at h)) hHeld ?_
                simp only [Act.put, sA, sZ, sS]
                refine tk 26 174 (.bool false) rfl hHeld ?_
                simp only [Act.put, sA, sZ, sS]
                refine tk 27 175 (.bool false) rfl hHeld ?_
                simp only [Act.put, sA, sZ, sS]
                refine tk 28 176 (.bool false) rfl hHeld ?_
                simp only [Act.put, sA, sZ, sS]
                refine tk 29 177 (.pointer (some ⟨g, 0, none⟩)) rfl hHeld ?_
                simp only [Act.put, sA, sZ, sS]
                refine tk 31 179 (.pointer (some ⟨gT, 0, none⟩)) rfl hHeld ?_
                simp only [Act.put, sA, sZ, sS]
                refine tk 32 180 (.pointer (some ⟨gT, 0, none⟩)) rfl hHeld ?_
                simp only [Act.put, sA, sZ, sS]
                refine tk 33 181 (.pointer (some ⟨gT, 1, none⟩)) rfl hHeld ?_
                simp only [Act.put, sA, sZ, sS]
                refine tkY 34 182 (.slice Al nl cl) rfl (Or.inl ⟨by rfl, fun W hW => by have hc := (show W.cell? ⟨gT, 1, none⟩ = some (.slice Al nl cl) from by obtain ⟨_, _, hr, _, _⟩ := hW; exact hr.out.blk.cell (i := 1) rfl); go_simp⟩) hHeld ?_
                simp only [Act.put, sA, sZ, sS]
                refine tk 35 183 (.int .i64 (nl : Int)) rfl hHeld ?_
                simp only [Act.put, sA, sZ, sS]
                refine wpAnyH_ready (rs := [30]) (by kernel_rfl) (by simp) (AllReadyH.cons (o := ⟨some 178, _, _, _, _, _⟩) rfl (fun K hK => ?_) AllReadyH.nil)
                obtain ⟨fq, a1, a2, a3, a4⟩ := hHeld
                go_simp
                have hq := a1.out.len HS.out
                rw [← HNL.out] at hq
                refine hq.mono ?_
                clear hq
                rintro e wl ⟨rfl, fq2, hT, hkp, hs⟩
                have b1 := Lib.hid hT
                have b2 := Lib.hid (duo_ref a2.out a3.out hkp)
                have b3 := Lib.hid (duo_off a2.out a3.out hs)
                have b4 := Lib.hid (a4.out.left hkp hs)
                clear a1 a2 a3 a4 hT hkp hs
                refine hK.out _ _ (⟨fq2, b1, b2, b3, b4⟩) (fun hHeld => ?_)
                clear hK K b1 b2 b3 b4
                refine tk 36 184 (.bool false) rfl hHeld ?_
                simp only [Act.put, sA, sZ, sS]
                refine tk 37 185 (.bool false) rfl hHeld ?_
                simp only [Act.put, sA, sZ, sS]
                obtain ⟨fqx, a1, a2, a3, _⟩ := hHeld
                refine wpAnyH_done (by kernel_rfl) ?_ _
                go_wp2_with fail
                go_roundw
                case rel => exact ⟨i + 1, fqx, _, mm, HLT.out, by have := HLT.out; go_num, a1, a2, a3⟩
                case measure =>
                  have := HLT.out
                  simp [RowKit.intOf]
                  omega
            · as_aux_lemma =>
                obtain ⟨j, x, hpj, hxj, hxk, _⟩ := place_some HRU.out.apart hpl
                obtain ⟨OX, hOX⟩ : ∃ O, (fwL x).toArray = O := ⟨_, rfl⟩
                have HOX := Lib.hid hOX
                have HGV : Hid (getV mm f.k = .tuple #[.agg OX, .bool true]) := Lib.hid (by rw [getV_some hxk, fw_c hOX])
                have HPL := Lib.hid hpj
                have HXJ := Lib.hid hxj
                have HJN : Hid (j < nl) := Lib.hid (by rw [HNL.out]; exact (List.getElem?_eq_some_iff.1 hxj).1)
                have hz0 : (0 : Int) ≤ (j : Int) := by omega
                have hz1 : (j : Int) < (nl : Int) := by have := HJN.out; omega
                obtain ⟨gl, cx, eX, _⟩ := R11.out.own.form (by rw [← HNL.out]; have := HJN.out; omega)
                have eA : Al = some ⟨gl, 0, none⟩ := by cases eX; rfl
                subst eA
                clear eX hpl hpj hxj hxk hOX
                go_upto_region 21 with (first | ((with_reducible show wpList _ _ _ (⟨some 140, _, _, _, _, _⟩ :: _) _ _); refine wpList_loadKeyF (op := ⟨some 140, _, _, _, _, _⟩) _ rfl (by rfl) wr.heap.size (0) (by rfl) f (out_at X11.out) J HJ.out ?_) | ((have hq := T11.out.get HS.out HIX.out.t); (rw [key_c HJ.out, HGV.out] at hq); (with_reducible refine hq.mono ?_); clear hq; rintro e wm12 ⟨rfl, fm12, hT, hkp, hs⟩; have T13 := Lib.hid hT; have R13 := Lib.hid (duo_ref R11.out N7.out hkp); have N13 := Lib.hid (duo_off R11.out N7.out hs); have X13 := Lib.hid (X11.out.left hkp hs); clear T11 R11 N7 X11 hT hkp hs) | ((with_reducible show wpList _ _ _ (⟨none, .store _ (.tmp 18) _, _, _, _, _⟩ :: _) _ _); refine wpList_storeNewG rfl 28 _ _ rfl (by rfl) (fwL x) (by rw [HOX.out]; rfl) (by rw [fwL_len]; rfl) (sizeFwL _) (fwL_one _) ?_; intro ws14 hb9 hB9 _; have T15 := Lib.hid (T13.out.below HS.out hB9); have R15 := Lib.hid (R13.out.below hB9); have X15 := Lib.hid (X13.out.below hB9); have E_0 : Hid (Out ws14 fm12 wm12.heap.size x) := Lib.hid ⟨hb9, T13.out.new_off HS.out (Nat.le_refl _)⟩; have HE : Hid (wm12.heap.size ≠ gT) := Lib.hid (by have := R13.out.lt; omega); clear hb9 hB9 T13 R13 X13))
                go_upto_region 22 with (first | ((with_reducible show wpList _ _ _ (⟨some 146, _, _, _, _, _⟩ :: _) _ _); refine wpList_loadKeyF (op := ⟨some 146, _, _, _, _, _⟩) _ rfl (by rfl) wr.heap.size (0) (by rfl) f (out_at X15.out) J HJ.out ?_) | ((have hq := rfind21_any R15.out f.ok); (rw [key_c HJ.out, HPL.out] at hq); (with_reducible refine hq.mono ?_); clear hq; rintro e wfd ⟨rfl, hb⟩; have T16 := Lib.hid (T15.out.below HS.out hb); have R16 := Lib.hid (R15.out.below hb); have X16 := Lib.hid (X15.out.below hb); have E_16 := Lib.hid (E_0.out.below hb); clear hb T15 R15 X15 E_0))
                refine wp_region_held_drew (S := fun W => (∃ fq, Hid (Tb Rep Y Y.heap.size (.pointer (some ⟨g, 0, none⟩)) RR mm W fq) ∧ Hid (RefT W gT (RR : Int) (.slice (some ⟨gl, 0, none⟩) nl cl) mm) ∧ Hid (Off fq gT (.slice (some ⟨gl, 0, none⟩) nl cl)) ∧ Hid (Out W fq wm12.heap.size x))) (by kernel_rfl) (⟨fm12, Lib.hid (T16.out.drew HS.out), Lib.hid R16.out.drew, N13, Lib.hid (show Out _ fm12 wm12.heap.size x from E_16.out)⟩) (fun hHeld => ?_)
                clear T16 R16 N13 X16 E_16
                refine tk 0 148 (.bool true) rfl hHeld ?_
                simp only [Act.put, sA, sZ, sS]
                refine tk 1 149 (.int .i64 (j : Int)) rfl hHeld ?_
                simp only [Act.put, sA, sZ, sS]
                refine tk 2 150 (.bool true) rfl hHeld ?_
                simp only [Act.put, sA, sZ, sS]
                refine tk 3 151 (.bool false) rfl hHeld ?_
                simp only [Act.put, sA, sZ, sS]
                refine tk 4 152 (.bool false) rfl hHeld ?_
                simp only [Act.put, sA, sZ, sS]
                refine tk 5 153 (.int .i64 (j : Int)) rfl hHeld ?_
                simp only [Act.put, sA, sZ, sS]
                refine tk 6 154 (.bool true) rfl hHeld ?_
                simp only [Act.put, sA, sZ, sS]
                refine tk 7 155 (.bool true) rfl hHeld ?_
                simp only [Act.put, sA, sZ, sS]
                refine tkY 8 156 (.agg OX) rfl (yields_loadFw (by rfl) _ rfl wm12.heap.size 0 (by rfl) x (fun W hW => by obtain ⟨_, _, _, _, he⟩ := hW; exact out_at he.out) OX HOX.out) hHeld ?_
                simp only [Act.put, sA, sZ, sS]
                refine tk 9 157 (.pointer (some ⟨gT, 0, none⟩)) rfl hHeld ?_
                simp only [Act.put, sA, sZ, sS]
                refine tk 10 158 (.pointer (some ⟨gT, 0, none⟩)) rfl hHeld ?_
                simp only [Act.put, sA, sZ, sS]
                refine tk 11 159 (.pointer (some ⟨gT, 1, none⟩)) rfl hHeld ?_
                simp only [Act.put, sA, sZ, sS]
                refine tkY 12 160 (.slice (some ⟨gl, 0, none⟩) nl cl) rfl (Or.inl ⟨by rfl, fun W hW => by have hc := (show W.cell? ⟨gT, 1, none⟩ = some (.slice (some ⟨gl, 0, none⟩) nl cl) from by obtain ⟨_, _, hr, _, _⟩ := hW; exact hr.out.blk.cell (i := 1) rfl); go_simp⟩) hHeld ?_
                simp only [Act.put, sA, sZ, sS]
                refine tk 13 161 (.int .i64 (j : Int)) rfl hHeld ?_
                simp only [Act.put, sA, sZ, sS]
                refine tk 14 162 (.pointer (some ⟨gl, j * 41, none⟩)) rfl hHeld ?_
                simp only [Act.put, sA, sZ, sS]
                refine tkY 15 163 (.agg OX) rfl (yields_loadFw (by rfl) _ rfl gl (j * 41) (by rfl) x (fun W hW => by obtain ⟨_, _, hr, _, _⟩ := hW; have h9 := hr.out.own.rd.range HXJ.out; rw [Nat.zero_add] at h9; exact h9) OX HOX.out) hHeld ?_
                simp only [Act.put, sA, sZ, sS]
                refine tkY 16 164 (.bool false) rfl (yields_cmpS (by rfl) .neq 28 _ _ _ rfl OX OX (by rfl) (by rfl) guard_fw false (fun W => by have h := ne_fws HOX.out HOX.out W; rwa [fwQ_self] at h)) hHeld ?_
                simp only [Act.put, sA, sZ, sS]
                refine tk 17 165 (.bool false) rfl hHeld ?_
                simp only [Act.put, sA, sZ, sS]
                refine tk 18 166 (.bool false) rfl hHeld ?_
                simp only [Act.put, sA, sZ, sS]
                refine tk 19 167 (.bool false) rfl hHeld ?_
                simp only [Act.put, sA, sZ, sS]
                refine tk 20 168 (.bool true) rfl hHeld ?_
                simp only [Act.put, sA, sZ, sS]
                refine tk 21 169 (.bool false) rfl hHeld ?_
                simp only [Act.put, sA, sZ, sS]
                refine tk 22 170 (.bool false) rfl hHeld ?_
                simp only [Act.put, sA, sZ, sS]
                refine tkN 23 171 rfl hHeld ?_
                simp only [Act.put, sA, sZ, sS]
                refine tkN 24 172 rfl hHeld ?_
                simp only [Act.put, sA, sZ, sS]
                refine tkN 25 173 rfl hHeld ?_
                simp only [Act.put, sA, sZ, sS]
                refine tk 26 174 (.bool false) rfl hHeld ?_
                simp only [Act.put, sA, sZ, sS]
                refine tk 27 175 (.bool false) rfl hHeld ?_
                simp only [Act.put, sA, sZ, sS]
                refine tk 28 176 (.bool false) rfl hHeld ?_
                simp only [Act.put, sA, sZ, sS]
                refine tk 29 177 (.pointer (some ⟨g, 0, none⟩)) rfl hHeld ?_
                simp only [Act.put, sA, sZ, sS]
                refine tk 31 179 (.pointer (some ⟨gT, 0, none⟩)) rfl hHeld ?_
                simp only [Act.put, sA, sZ, sS]
                refine tk 32 180 (.pointer (some ⟨gT, 0, none⟩)) rfl hHeld ?_
                simp only [Act.put, sA, sZ, sS]
                refine tk 33 181 (.pointer (some ⟨gT, 1, none⟩)) rfl hHeld ?_
                simp only [Act.put, sA, sZ, sS]
                refine tkY 34 182 (.slice (some ⟨gl, 0, none⟩) nl cl) rfl (Or.inl ⟨by rfl, fun W hW => by have hc := (show W.cell? ⟨gT, 1, none⟩ = some (.slice (some ⟨gl, 0, none⟩) nl cl) from by obtain ⟨_, _, hr, _, _⟩ := hW; exact hr.out.blk.cell (i := 1) rfl); go_simp⟩) hHeld ?_
                simp only [Act.put, sA, sZ, sS]
                refine tk 35 183 (.int .i64 (nl : Int)) rfl hHeld ?_
                simp only [Act.put, sA, sZ, sS]
                refine wpAnyH_ready (rs := [30]) (by kernel_rfl) (by simp) (AllReadyH.cons (o := ⟨some 178, _, _, _, _, _⟩) rfl (fun K hK => ?_) AllReadyH.nil)
                obtain ⟨fq, a1, a2, a3, a4⟩ := hHeld
                go_simp
                have hq := a1.out.len HS.out
                rw [← HNL.out] at hq
                refine hq.mono ?_
                clear hq
                rintro e wl ⟨rfl, fq2, hT, hkp, hs⟩
                have b1 := Lib.hid hT
                have b2 := Lib.hid (duo_ref a2.out a3.out hkp)
                have b3 := Lib.hid (duo_off a2.out a3.out hs)
                have b4 := Lib.hid (a4.out.left hkp hs)
                clear a1 a2 a3 a4 hT hkp hs
                refine hK.out _ _ (⟨fq2, b1, b2, b3, b4⟩) (fun hHeld => ?_)
                clear hK K b1 b2 b3 b4
                refine tk 36 184 (.bool false) rfl hHeld ?_
                simp only [Act.put, sA, sZ, sS]
                refine tk 37 185 (.bool false) rfl hHeld ?_
                simp only [Act.put, sA, sZ, sS]
                obtain ⟨fqx, a1, a2, a3, _⟩ := hHeld
                refine wpAnyH_done (by kernel_rfl) ?_ _
                go_wp2_with fail
                go_roundw
                case rel => exact ⟨i + 1, fqx, _, mm, HLT.out, by have := HLT.out; go_num, a1, a2, a3⟩
                case measure =>
                  have := HLT.out
                  simp [RowKit.intOf]
                  omega
        · by_cases e2 : kd = 2
          · subst e2
            clear e0
            obtain ⟨mm, hmm⟩ : ∃ n, outK m f.k = n := ⟨_, rfl⟩
            have HMM := Lib.hid hmm
            obtain ⟨dk, hdk⟩ : ∃ z, (hasK m f.k).isSome = z := ⟨_, rfl⟩
            have HDK := Lib.hid hdk
            clear hmm hdk
            as_aux_lemma =>
              go_upto_region 11 with (first | ((with_reducible show wpList _ _ _ (⟨some 52, _, _, _, _, _⟩ :: _) _ _); refine wpList_loadFw (op := ⟨some 52, _, _, _, _, _⟩) _ rfl (by rfl) b (off + i * 49 + 1) (by rfl) f (RXF.out _ TT.out.bel) O HO.out ?_) | ((with_reducible show wpList _ _ _ (⟨none, .store _ (.tmp 11) _, _, _, _, _⟩ :: _) _ _); refine wpList_storeNewG rfl 28 _ _ rfl (by rfl) (fwL f) (by rw [HO.out]; rfl) (by rw [fwL_len]; rfl) (sizeFwL _) (fwL_one _) ?_; intro ws1 hb9 hB9 _; have T2 := Lib.hid (TT.out.below HS.out hB9); have R2 := Lib.hid (RT.out.below hB9); have X_0 : Hid (Out ws1 fp wr.heap.size f) := Lib.hid ⟨hb9, TT.out.new_off HS.out (Nat.le_refl _)⟩; have HX : Hid (wr.heap.size ≠ gT) := Lib.hid (by have := RT.out.lt; omega); clear hb9 hB9 TT RT))
              have c0 := CK.out ws1 T2.out.bel
              go_upto_region 16 with (fail)
              clear c0
              refine wp_region_held_drew (S := fun W => Below Y.heap.size Y W ∧ W.rangeAt wr.heap.size 0 (fwL f)) (by kernel_rfl) (⟨T2.out.bel.drew, out_at X_0.out⟩) (fun hHeld => ?_)
              have T3 := Lib.hid (T2.out.drew HS.out)
              have R3 := Lib.hid R2.out.drew
              have X3 : Hid (Out ws1.drew fp wr.heap.size f) := Lib.hid (show Out ws1.drew fp wr.heap.size f from X_0.out)
              clear T2 R2 X_0
              generalize ws1.drew = wd3 at *
              refine tk 0 86 (.slice (some ⟨b, off, none⟩) len cap) rfl hHeld ?_
              simp only [Act.put, sA, sZ, sS]
              refine tk 1 87 (.int .i64 (i : Int)) rfl hHeld ?_
              simp only [Act.put, sA, sZ, sS]
              refine tk 2 88 (.pointer (some ⟨b, off + i * 49, none⟩)) rfl hHeld ?_
              simp only [Act.put, sA, sZ, sS]
              refine tk 3 89 (.pointer (some ⟨b, off + i * 49, none⟩)) rfl hHeld ?_
              simp only [Act.put, sA, sZ, sS]
              refine tkY 4 90 (.int .i64 2) rfl (Or.inl ⟨by rfl, fun W hW => by have hc := CK.out W hW.1; go_simp⟩) hHeld ?_
              simp only [Act.put, sA, sZ, sS]
              refine tk 5 91 (.bool true) rfl hHeld ?_
              simp only [Act.put, sA, sZ, sS]
              refine tk 6 92 (.bool true) rfl hHeld ?_
              simp only [Act.put, sA, sZ, sS]
              refine tk 7 93 (.pointer (some ⟨g, 0, none⟩)) rfl hHeld ?_
              simp only [Act.put, sA, sZ, sS]
              refine tk 8 94 (.pointer (some ⟨wr.heap.size, 0, none⟩)) rfl hHeld ?_
              simp only [Act.put, sA, sZ, sS]
              refine tkY 9 95 (.agg J) rfl (yields_loadTu (by rfl) _ rfl wr.heap.size 0 (by rfl) f (fun W hW => hW.2) J HJ.out) hHeld ?_
              simp only [Act.put, sA, sZ, sS]
              refine tk 11 97 (.pointer (some ⟨gT, 0, none⟩)) rfl hHeld ?_
              simp only [Act.put, sA, sZ, sS]
              refine tk 12 98 (.pointer (some ⟨wr.heap.size, 0, none⟩)) rfl hHeld ?_
              simp only [Act.put, sA, sZ, sS]
              refine tkY 13 99 (.agg J) rfl (yields_loadTu (by rfl) _ rfl wr.heap.size 0 (by rfl) f (fun W hW => hW.2) J HJ.out) hHeld ?_
              simp only [Act.put, sA, sZ, sS]
              refine wpAnyH_ready (rs := [10]) (by kernel_rfl) (by simp) (AllReadyH.cons (o := ⟨some 96, _, _, _, _, _⟩) rfl (fun K hK => ?_) AllReadyH.nil)
              go_simp
              have hq := T3.out.drop HS.out HIX.out.t
              rw [key_c HJ.out, HDK.out, HMM.out] at hq
              refine hq.mono ?_
              clear hq
              rintro e wp1 ⟨rfl, fp1, hT, hkp, hs⟩
              have T4 := Lib.hid hT
              have R4 := Lib.hid (duo_ref R3.out NT.out hkp)
              have N4 := Lib.hid (duo_off R3.out NT.out hs)
              have X4 := Lib.hid (X3.out.left hkp hs)
              clear T3 R3 NT X3 hT hkp hs
              refine hK.out _ _ (⟨T4.out.bel, out_at X4.out⟩) (fun hHeld => ?_)
              clear hK K 
              refine wpAnyH_ready (rs := [14]) (by kernel_rfl) (by simp) (AllReadyH.cons (o := ⟨some 100, _, _, _, _, _⟩) rfl (fun K hK => ?_) AllReadyH.nil)
              go_simp
              have hq := rdrop_any R4.out (by have h := HRT.out.fits; have := HQ4.out; omega) HRT.out f.ok
              rw [key_c HJ.out, HDK.out, HMM.out] at hq
              refine hq.mono ?_
              clear hq
              rintro e wp2 ⟨rfl, lvp, hr, hg, hn⟩
              have T5 := Lib.hid (T4.out.grown HS.out hg HGB.out N4.out.1)
              have R5 := Lib.hid hr
              have N5 := Lib.hid (duo_new HS.out T4.out N4.out hn)
              have X5 := Lib.hid (X4.out.grown hg HGF.out)
              clear T4 R4 N4 X4 hr hg hn
              refine hK.out _ _ (⟨T5.out.bel, out_at X5.out⟩) (fun hHeld => ?_)
              clear hK K 
              refine tk 15 101 (.bool false) rfl hHeld ?_
              simp only [Act.put, sA, sZ, sS]
              refine tk 16 102 (.bool false) rfl hHeld ?_
              simp only [Act.put, sA, sZ, sS]
              clear hHeld
              refine wpAnyH_done (by kernel_rfl) ?_ _
              go_upto_region 18 with (fail)
              refine wp_region_held_drew (S := fun W => Below Y.heap.size Y W ∧ W.rangeAt wr.heap.size 0 (fwL f)) (by kernel_rfl) (⟨T5.out.bel.drew, out_at X5.out⟩) (fun hHeld => ?_)
              have T6 := Lib.hid (T5.out.drew HS.out)
              have R6 := Lib.hid R5.out.drew
              have X6 : Hid (Out wp2.drew fp1 wr.heap.size f) := Lib.hid (show Out wp2.drew fp1 wr.heap.size f from X5.out)
              clear T5 R5 X5
              generalize wp2.drew = wd6 at *
              refine tk 0 103 (.slice (some ⟨b, off, none⟩) len cap) rfl hHeld ?_
              simp only [Act.put, sA, sZ, sS]
              refine tk 1 104 (.int .i64 (i : Int)) rfl hHeld ?_
              simp only [Act.put, sA, sZ, sS]
              refine tk 2 105 (.pointer (some ⟨b, off + i * 49, none⟩)) rfl hHeld ?_
              simp only [Act.put, sA, sZ, sS]
              refine tk 3 106 (.pointer (some ⟨b, off + i * 49, none⟩)) rfl hHeld ?_
              simp only [Act.put, sA, sZ, sS]
              refine tkY 4 107 (.int .i64 2) rfl (Or.inl ⟨by rfl, fun W hW => by have hc := CK.out W hW.1; go_simp⟩) hHeld ?_
              simp only [Act.put, sA, sZ, sS]
              refine tk 5 108 (.bool false) rfl hHeld ?_
              simp only [Act.put, sA, sZ, sS]
              refine tk 6 109 (.bool false) rfl hHeld ?_
              simp only [Act.put, sA, sZ, sS]
              refine tkN 7 110 rfl hHeld ?_
              simp only [Act.put, sA, sZ, sS]
              refine tkN 8 111 rfl hHeld ?_
              simp only [Act.put, sA, sZ, sS]
              refine tkN 9 112 rfl hHeld ?_
              simp only [Act.put, sA, sZ, sS]
              refine tkN 10 113 rfl hHeld ?_
              simp only [Act.put, sA, sZ, sS]
              refine tkN 11 114 rfl hHeld ?_
              simp only [Act.put, sA, sZ, sS]
              refine tkN 12 115 rfl hHeld ?_
              simp only [Act.put, sA, sZ, sS]
              refine tkN 13 116 rfl hHeld ?_
              simp only [Act.put, sA, sZ, sS]
              refine tkN 14 117 rfl hHeld ?_
              simp only [Act.put, sA, sZ, sS]
              refine tkN 15 118 rfl hHeld ?_
              simp only [Act.put, sA, sZ, sS]
              refine tkN 16 119 rfl hHeld ?_
              simp only [Act.put, sA, sZ, sS]
              refine tkN 17 120 rfl hHeld ?_
              simp only [Act.put, sA, sZ, sS]
              refine tkN 18 121 rfl hHeld ?_
              simp only [Act.put, sA, sZ, sS]
              refine tkN 19 122 rfl hHeld ?_
              simp only [Act.put, sA, sZ, sS]
              refine tkN 20 123 rfl hHeld ?_
              simp only [Act.put, sA, sZ, sS]
              refine tkN 21 124 rfl hHeld ?_
              simp only [Act.put, sA, sZ, sS]
              refine tkN 22 125 rfl hHeld ?_
              simp only [Act.put, sA, sZ, sS]
              refine tkN 23 126 rfl hHeld ?_
              simp only [Act.put, sA, sZ, sS]
              refine tkN 24 127 rfl hHeld ?_
              simp only [Act.put, sA, sZ, sS]
              refine tkN 25 128 rfl hHeld ?_
              simp only [Act.put, sA, sZ, sS]
              refine tkN 26 129 rfl hHeld ?_
              simp only [Act.put, sA, sZ, sS]
              refine tkN 27 130 rfl hHeld ?_
              simp only [Act.put, sA, sZ, sS]
              refine tkN 28 131 rfl hHeld ?_
              simp only [Act.put, sA, sZ, sS]
              refine tkN 29 132 rfl hHeld ?_
              simp only [Act.put, sA, sZ, sS]
              refine tkN 30 133 rfl hHeld ?_
              simp only [Act.put, sA, sZ, sS]
              refine tkN 31 134 rfl hHeld ?_
              simp only [Act.put, sA, sZ, sS]
              refine tkN 32 135 rfl hHeld ?_
              simp only [Act.put, sA, sZ, sS]
              refine tk 33 136 (.bool false) rfl hHeld ?_
              simp only [Act.put, sA, sZ, sS]
              clear hHeld
              refine wpAnyH_done (by kernel_rfl) ?_ _
              obtain ⟨Al, nl, cl, hlv, hnl, _, _, _, _⟩ := R6.out.own.sl
              subst hlv
              have HNL := Lib.hid hnl
              have HRU : Hid (RightT RR mm) := Lib.hid T6.out.right
              clear hnl
              by_cases hpl : placeK mm f.k < 0
              · as_aux_lemma =>
                  have HGV : Hid (getV mm f.k = .tuple #[.agg ZZ, .bool false]) := Lib.hid (by rw [getV_none (place_none.1 hpl), fw_c HZZ.out])
                  obtain ⟨z, hz⟩ : ∃ z, placeK mm f.k = z := ⟨_, rfl⟩
                  have HPL := Lib.hid hz
                  have hz0 : ¬ (0 : Int) ≤ z := by omega
                  have hz1 : z < 0 := by omega
                  clear hpl hz
                  go_upto_region 21 with (first | ((with_reducible show wpList _ _ _ (⟨some 140, _, _, _, _, _⟩ :: _) _ _); refine wpList_loadKeyF (op := ⟨some 140, _, _, _, _, _⟩) _ rfl (by rfl) wr.heap.size (0) (by rfl) f (out_at X6.out) J HJ.out ?_) | ((have hq := T6.out.get HS.out HIX.out.t); (rw [key_c HJ.out, HGV.out] at hq); (with_reducible refine hq.mono ?_); clear hq; rintro e wm7 ⟨rfl, fm7, hT, hkp, hs⟩; have T8 := Lib.hid hT; have R8 := Lib.hid (duo_ref R6.out N5.out hkp); have N8 := Lib.hid (duo_off R6.out N5.out hs); have X8 := Lib.hid (X6.out.left hkp hs); clear T6 R6 N5 X6 hT hkp hs) | ((with_reducible show wpList _ _ _ (⟨none, .store _ (.tmp 18) _, _, _, _, _⟩ :: _) _ _); refine wpList_storeNewG rfl 28 _ _ rfl (by rfl) (fwL fw0) (by rw [HZZ.out]; rfl) (by rw [fwL_len]; rfl) (sizeFwL _) (fwL_one _) ?_; intro ws9 hb9 hB9 _; have T10 := Lib.hid (T8.out.below HS.out hB9); have R10 := Lib.hid (R8.out.below hB9); have X10 := Lib.hid (X8.out.below hB9); have E_0 : Hid (Out ws9 fm7 wm7.heap.size fw0) := Lib.hid ⟨hb9, T8.out.new_off HS.out (Nat.le_refl _)⟩; have HE : Hid (wm7.heap.size ≠ gT) := Lib.hid (by have := R8.out.lt; omega); clear hb9 hB9 T8 R8 X8))
                  go_upto_region 22 with (first | ((with_reducible show wpList _ _ _ (⟨some 146, _, _, _, _, _⟩ :: _) _ _); refine wpList_loadKeyF (op := ⟨some 146, _, _, _, _, _⟩) _ rfl (by rfl) wr.heap.size (0) (by rfl) f (out_at X10.out) J HJ.out ?_) | ((have hq := rfind21_any R10.out f.ok); (rw [key_c HJ.out, HPL.out] at hq); (with_reducible refine hq.mono ?_); clear hq; rintro e wfd ⟨rfl, hb⟩; have T11 := Lib.hid (T10.out.below HS.out hb); have R11 := Lib.hid (R10.out.below hb); have X11 := Lib.hid (X10.out.below hb); have E_11 := Lib.hid (E_0.out.below hb); clear hb T10 R10 X10 E_0))
                  refine wp_region_held_drew (S := fun W => (∃ fq, Hid (Tb Rep Y Y.heap.size (.pointer (some ⟨g, 0, none⟩)) RR mm W fq) ∧ Hid (RefT W gT (RR : Int) (.slice Al nl cl) mm) ∧ Hid (Off fq gT (.slice Al nl cl)) ∧ Hid (Out W fq wm7.heap.size fw0))) (by kernel_rfl) (⟨fm7, Lib.hid (T11.out.drew HS.out), Lib.hid R11.out.drew, N8, Lib.hid (show Out _ fm7 wm7.heap.size fw0 from E_11.out)⟩) (fun hHeld => ?_)
                  clear T11 R11 N8 X11 E_11
                  refine tk 0 148 (.bool false) rfl hHeld ?_
                  simp only [Act.put, sA, sZ, sS]
                  refine tk 1 149 (.int .i64 z) rfl hHeld ?_
                  simp only [Act.put, sA, sZ, sS]
                  refine tk 2 150 (.bool false) rfl hHeld ?_
                  simp only [Act.put, sA, sZ, sS]
                  refine tk 3 151 (.bool false) rfl hHeld ?_
                  simp only [Act.put, sA, sZ, sS]
                  refine tk 4 152 (.bool false) rfl hHeld ?_
                  simp only [Act.put, sA, sZ, sS]
                  refine tk 5 153 (.int .i64 z) rfl hHeld ?_
                  simp only [Act.put, sA, sZ, sS]
                  refine tk 6 154 (.bool false) rfl hHeld ?_
                  simp only [Act.put, sA, sZ, sS]
                  refine tk 7 155 (.bool false) rfl hHeld ?_
                  simp only [Act.put, sA, sZ, sS]
                  refine tkN 8 156 rfl hHeld ?_
                  simp only [Act.put, sA, sZ, sS]
                  refine tkN 9 157 rfl hHeld ?_
                  simp only [Act.put, sA, sZ, sS]
                  refine tkN 10 158 rfl hHeld ?_
                  simp only [Act.put, sA, sZ, sS]
                  refine tkN 11 159 rfl hHeld ?_
                  simp only [Act.put, sA, sZ, sS]
                  refine tkN 12 160 rfl hHeld ?_
                  simp only [Act.put, sA, sZ, sS]
                  refine tkN 13 161 rfl hHeld ?_
                  simp only [Act.put, sA, sZ, sS]
                  refine tkN 14 162 rfl hHeld ?_
                  simp only [Act.put, sA, sZ, sS]
                  refine tkN 15 163 rfl hHeld ?_
                  simp only [Act.put, sA, sZ, sS]
                  refine tkN 16 164 rfl hHeld ?_
                  simp only [Act.put, sA, sZ, sS]
                  refine tk 17 165 (.bool false) rfl hHeld ?_
                  simp only [Act.put, sA, sZ, sS]
                  refine tk 18 166 (.bool false) rfl hHeld ?_
                  simp only [Act.put, sA, sZ, sS]
                  refine tk 19 167 (.bool false) rfl hHeld ?_
                  simp only [Act.put, sA, sZ, sS]
                  refine tk 20 168 (.bool false) rfl hHeld ?_
                  simp only [Act.put, sA, sZ, sS]
                  refine tk 21 169 (.bool true) rfl hHeld ?_
                  simp only [Act.put, sA, sZ, sS]
                  refine tk 22 170 (.bool true) rfl hHeld ?_
                  simp only [Act.put, sA, sZ, sS]
                  refine tkY 23 171 (.agg ZZ) rfl (yields_loadFw (by rfl) _ rfl wm7.heap.size 0 (by rfl) fw0 (fun W hW => by obtain ⟨_, _, _, _, he⟩ := hW; exact out_at he.out) ZZ HZZ.out) hHeld ?_
                  simp only [Act.put, sA, sZ, sS]
                  refine tkY 24 172 (.agg ZZ) rfl (yields_bldF (by rfl) 28 #[] rfl [] (by simp) ZZ HBZ.out) hHeld ?_
                  simp only [Act.put, sA, sZ, sS]
                  refine tkY 25 173 (.bool false) rfl (yields_cmpS (by rfl) .neq 28 _ _ _ rfl ZZ ZZ (by rfl) (by rfl) guard_fw false (fun W => by have h := ne_fws HZZ.out HZZ.out W; rwa [fwQ_self] at h)) hHeld ?_
                  simp only [Act.put, sA, sZ, sS]
                  refine tk 26 174 (.bool false) rfl hHeld ?_
                  simp only [Act.put, sA, sZ, sS]
                  refine tk 27 175 (.bool false) rfl hHeld ?_
                  simp only [Act.put, sA, sZ, sS]
                  refine tk 28 176 (.bool false) rfl hHeld ?_
                  simp only [Act.put, sA, sZ, sS]
                  refine tk 29 177 (.pointer (some ⟨g, 0, none⟩)) rfl hHeld ?_
                  simp only [Act.put, sA, sZ, sS]
                  refine tk 31 179 (.pointer (some ⟨gT, 0, none⟩)) rfl hHeld ?_
                  simp only [Act.put, sA, sZ, sS]
                  refine tk 32 180 (.pointer (some ⟨gT, 0, none⟩)) rfl hHeld ?_
                  simp only [Act.put, sA, sZ, sS]
                  refine tk 33 181 (.pointer (some ⟨gT, 1, none⟩)) rfl hHeld ?_
                  simp only [Act.put, sA, sZ, sS]
                  refine tkY 34 182 (.slice Al nl cl) rfl (Or.inl ⟨by rfl, fun W hW => by have hc := (show W.cell? ⟨gT, 1, none⟩ = some (.slice Al nl cl) from by obtain ⟨_, _, hr, _, _⟩ := hW; exact hr.out.blk.cell (i := 1) rfl); go_simp⟩) hHeld ?_
                  simp only [Act.put, sA, sZ, sS]
                  refine tk 35 183 (.int .i64 (nl : Int)) rfl hHeld ?_
                  simp only [Act.put, sA, sZ, sS]
                  refine wpAnyH_ready (rs := [30]) (by kernel_rfl) (by simp) (AllReadyH.cons (o := ⟨some 178, _, _, _, _, _⟩) rfl (fun K hK => ?_) AllReadyH.nil)
                  obtain ⟨fq, a1, a2, a3, a4⟩ := hHeld
                  go_simp
                  have hq := a1.out.len HS.out
                  rw [← HNL.out] at hq
                  refine hq.mono ?_
                  clear hq
                  rintro e wl ⟨rfl, fq2, hT, hkp, hs⟩
                  have b1 := Lib.hid hT
                  have b2 := Lib.hid (duo_ref a2.out a3.out hkp)
                  have b3 := Lib.hid (duo_off a2.out a3.out hs)
                  have b4 := Lib.hid (a4.out.left hkp hs)
                  clear a1 a2 a3 a4 hT hkp hs
                  refine hK.out _ _ (⟨fq2, b1, b2, b3, b4⟩) (fun hHeld => ?_)
                  clear hK K b1 b2 b3 b4
                  refine tk 36 184 (.bool false) rfl hHeld ?_
                  simp only [Act.put, sA, sZ, sS]
                  refine tk 37 185 (.bool false) rfl hHeld ?_
                  simp only [Act.put, sA, sZ, sS]
                  obtain ⟨fqx, a1, a2, a3, _⟩ := hHeld
                  refine wpAnyH_done (by kernel_rfl) ?_ _
                  go_wp2_with fail
                  go_roundw
                  case rel => exact ⟨i + 1, fqx, _, mm, HLT.out, by have := HLT.out; go_num, a1, a2, a3⟩
                  case measure =>
                    have := HLT.out
                    simp [RowKit.intOf]
                    omega
              · as_aux_lemma =>
                  obtain ⟨j, x, hpj, hxj, hxk, _⟩ := place_some HRU.out.apart hpl
                  obtain ⟨OX, hOX⟩ : ∃ O, (fwL x).toArray = O := ⟨_, rfl⟩
                  have HOX := Lib.hid hOX
                  have HGV : Hid (getV mm f.k = .tuple #[.agg OX, .bool true]) := Lib.hid (by rw [getV_some hxk, fw_c hOX])
                  have HPL := Lib.hid hpj
                  have HXJ := Lib.hid hxj
                  have HJN : Hid (j < nl) := Lib.hid (by rw [HNL.out]; exact (List.getElem?_eq_some_iff.1 hxj).1)
                  have hz0 : (0 : Int) ≤ (j : Int) := by omega
                  have hz1 : (j : Int) < (nl : Int) := by have := HJN.out; omega
                  obtain ⟨gl, cx, eX, _⟩ := R6.out.own.form (by rw [← HNL.out]; have := HJN.out; omega)
                  have eA : Al = some ⟨gl, 0, none⟩ := by cases eX; rfl
                  subst eA
                  clear eX hpl hpj hxj hxk hOX
                  go_upto_region 21 with (first | ((with_reducible show wpList _ _ _ (⟨some 140, _, _, _, _, _⟩ :: _) _ _); refine wpList_loadKeyF (op := ⟨some 140, _, _, _, _, _⟩) _ rfl (by rfl) wr.heap.size (0) (by rfl) f (out_at X6.out) J HJ.out ?_) | ((have hq := T6.out.get HS.out HIX.out.t); (rw [key_c HJ.out, HGV.out] at hq); (with_reducible refine hq.mono ?_); clear hq; rintro e wm7 ⟨rfl, fm7, hT, hkp, hs⟩; have T8 := Lib.hid hT; have R8 := Lib.hid (duo_ref R6.out N5.out hkp); have N8 := Lib.hid (duo_off R6.out N5.out hs); have X8 := Lib.hid (X6.out.left hkp hs); clear T6 R6 N5 X6 hT hkp hs) | ((with_reducible show wpList _ _ _ (⟨none, .store _ (.tmp 18) _, _, _, _, _⟩ :: _) _ _); refine wpList_storeNewG rfl 28 _ _ rfl (by rfl) (fwL x) (by rw [HOX.out]; rfl) (by rw [fwL_len]; rfl) (sizeFwL _) (fwL_one _) ?_; intro ws9 hb9 hB9 _; have T10 := Lib.hid (T8.out.below HS.out hB9); have R10 := Lib.hid (R8.out.below hB9); have X10 := Lib.hid (X8.out.below hB9); have E_0 : Hid (Out ws9 fm7 wm7.heap.size x) := Lib.hid ⟨hb9, T8.out.new_off HS.out (Nat.le_refl _)⟩; have HE : Hid (wm7.heap.size ≠ gT) := Lib.hid (by have := R8.out.lt; omega); clear hb9 hB9 T8 R8 X8))
                  go_upto_region 22 with (first | ((with_reducible show wpList _ _ _ (⟨some 146, _, _, _, _, _⟩ :: _) _ _); refine wpList_loadKeyF (op := ⟨some 146, _, _, _, _, _⟩) _ rfl (by rfl) wr.heap.size (0) (by rfl) f (out_at X10.out) J HJ.out ?_) | ((have hq := rfind21_any R10.out f.ok); (rw [key_c HJ.out, HPL.out] at hq); (with_reducible refine hq.mono ?_); clear hq; rintro e wfd ⟨rfl, hb⟩; have T11 := Lib.hid (T10.out.below HS.out hb); have R11 := Lib.hid (R10.out.below hb); have X11 := Lib.hid (X10.out.below hb); have E_11 := Lib.hid (E_0.out.below hb); clear hb T10 R10 X10 E_0))
                  refine wp_region_held_drew (S := fun W => (∃ fq, Hid (Tb Rep Y Y.heap.size (.pointer (some ⟨g, 0, none⟩)) RR mm W fq) ∧ Hid (RefT W gT (RR : Int) (.slice (some ⟨gl, 0, none⟩) nl cl) mm) ∧ Hid (Off fq gT (.slice (some ⟨gl, 0, none⟩) nl cl)) ∧ Hid (Out W fq wm7.heap.size x))) (by kernel_rfl) (⟨fm7, Lib.hid (T11.out.drew HS.out), Lib.hid R11.out.drew, N8, Lib.hid (show Out _ fm7 wm7.heap.size x from E_11.out)⟩) (fun hHeld => ?_)
                  clear T11 R11 N8 X11 E_11
                  refine tk 0 148 (.bool true) rfl hHeld ?_
                  simp only [Act.put, sA, sZ, sS]
                  refine tk 1 149 (.int .i64 (j : Int)) rfl hHeld ?_
                  simp only [Act.put, sA, sZ, sS]
                  refine tk 2 150 (.bool true) rfl hHeld ?_
                  simp only [Act.put, sA, sZ, sS]
                  refine tk 3 151 (.bool false) rfl hHeld ?_
                  simp only [Act.put, sA, sZ, sS]
                  refine tk 4 152 (.bool false) rfl hHeld ?_
                  simp only [Act.put, sA, sZ, sS]
                  refine tk 5 153 (.int .i64 (j : Int)) rfl hHeld ?_
                  simp only [Act.put, sA, sZ, sS]
                  refine tk 6 154 (.bool true) rfl hHeld ?_
                  simp only [Act.put, sA, sZ, sS]
                  refine tk 7 155 (.bool true) rfl hHeld ?_
                  simp only [Act.put, sA, sZ, sS]
                  refine tkY 8 156 (.agg OX) rfl (yields_loadFw (by rfl) _ rfl wm7.heap.size 0 (by rfl) x (fun W hW => by obtain ⟨_, _, _, _, he⟩ := hW; exact out_at he.out) OX HOX.out) hHeld ?_
                  simp only [Act.put, sA, sZ, sS]
                  refine tk 9 157 (.pointer (some ⟨gT, 0, none⟩)) rfl hHeld ?_
                  simp only [Act.put, sA, sZ, sS]
                  refine tk 10 158 (.pointer (some ⟨gT, 0, none⟩)) rfl hHeld ?_
                  simp only [Act.put, sA, sZ, sS]
                  refine tk 11 159 (.pointer (some ⟨gT, 1, none⟩)) rfl hHeld ?_
                  simp only [Act.put, sA, sZ, sS]
                  refine tkY 12 160 (.slice (some ⟨gl, 0, none⟩) nl cl) rfl (Or.inl ⟨by rfl, fun W hW => by have hc := (show W.cell? ⟨gT, 1, none⟩ = some (.slice (some ⟨gl, 0, none⟩) nl cl) from by obtain ⟨_, _, hr, _, _⟩ := hW; exact hr.out.blk.cell (i := 1) rfl); go_simp⟩) hHeld ?_
                  simp only [Act.put, sA, sZ, sS]
                  refine tk 13 161 (.int .i64 (j : Int)) rfl hHeld ?_
                  simp only [Act.put, sA, sZ, sS]
                  refine tk 14 162 (.pointer (some ⟨gl, j * 41, none⟩)) rfl hHeld ?_
                  simp only [Act.put, sA, sZ, sS]
                  refine tkY 15 163 (.agg OX) rfl (yields_loadFw (by rfl) _ rfl gl (j * 41) (by rfl) x (fun W hW => by obtain ⟨_, _, hr, _, _⟩ := hW; have h9 := hr.out.own.rd.range HXJ.out; rw [Nat.zero_add] at h9; exact h9) OX HOX.out) hHeld ?_
                  simp only [Act.put, sA, sZ, sS]
                  refine tkY 16 164 (.bool false) rfl (yields_cmpS (by rfl) .neq 28 _ _ _ rfl OX OX (by rfl) (by rfl) guard_fw false (fun W => by have h := ne_fws HOX.out HOX.out W; rwa [fwQ_self] at h)) hHeld ?_
                  simp only [Act.put, sA, sZ, sS]
                  refine tk 17 165 (.bool false) rfl hHeld ?_
                  simp only [Act.put, sA, sZ, sS]
                  refine tk 18 166 (.bool false) rfl hHeld ?_
                  simp only [Act.put, sA, sZ, sS]
                  refine tk 19 167 (.bool false) rfl hHeld ?_
                  simp only [Act.put, sA, sZ, sS]
                  refine tk 20 168 (.bool true) rfl hHeld ?_
                  simp only [Act.put, sA, sZ, sS]
                  refine tk 21 169 (.bool false) rfl hHeld ?_
                  simp only [Act.put, sA, sZ, sS]
                  refine tk 22 170 (.bool false) rfl hHeld ?_
                  simp only [Act.put, sA, sZ, sS]
                  refine tkN 23 171 rfl hHeld ?_
                  simp only [Act.put, sA, sZ, sS]
                  refine tkN 24 172 rfl hHeld ?_
                  simp only [Act.put, sA, sZ, sS]
                  refine tkN 25 173 rfl hHeld ?_
                  simp only [Act.put, sA, sZ, sS]
                  refine tk 26 174 (.bool false) rfl hHeld ?_
                  simp only [Act.put, sA, sZ, sS]
                  refine tk 27 175 (.bool false) rfl hHeld ?_
                  simp only [Act.put, sA, sZ, sS]
                  refine tk 28 176 (.bool false) rfl hHeld ?_
                  simp only [Act.put, sA, sZ, sS]
                  refine tk 29 177 (.pointer (some ⟨g, 0, none⟩)) rfl hHeld ?_
                  simp only [Act.put, sA, sZ, sS]
                  refine tk 31 179 (.pointer (some ⟨gT, 0, none⟩)) rfl hHeld ?_
                  simp only [Act.put, sA, sZ, sS]
                  refine tk 32 180 (.pointer (some ⟨gT, 0, none⟩)) rfl hHeld ?_
                  simp only [Act.put, sA, sZ, sS]
                  refine tk 33 181 (.pointer (some ⟨gT, 1, none⟩)) rfl hHeld ?_
                  simp only [Act.put, sA, sZ, sS]
                  refine tkY 34 182 (.slice (some ⟨gl, 0, none⟩) nl cl) rfl (Or.inl ⟨by rfl, fun W hW => by have hc := (show W.cell? ⟨gT, 1, none⟩ = some (.slice (some ⟨gl, 0, none⟩) nl cl) from by obtain ⟨_, _, hr, _, _⟩ := hW; exact hr.out.blk.cell (i := 1) rfl); go_simp⟩) hHeld ?_
                  simp only [Act.put, sA, sZ, sS]
                  refine tk 35 183 (.int .i64 (nl : Int)) rfl hHeld ?_
                  simp only [Act.put, sA, sZ, sS]
                  refine wpAnyH_ready (rs := [30]) (by kernel_rfl) (by simp) (AllReadyH.cons (o := ⟨some 178, _, _, _, _, _⟩) rfl (fun K hK => ?_) AllReadyH.nil)
                  obtain ⟨fq, a1, a2, a3, a4⟩ := hHeld
                  go_simp
                  have hq := a1.out.len HS.out
                  rw [← HNL.out] at hq
                  refine hq.mono ?_
                  clear hq
                  rintro e wl ⟨rfl, fq2, hT, hkp, hs⟩
                  have b1 := Lib.hid hT
                  have b2 := Lib.hid (duo_ref a2.out a3.out hkp)
                  have b3 := Lib.hid (duo_off a2.out a3.out hs)
                  have b4 := Lib.hid (a4.out.left hkp hs)
                  clear a1 a2 a3 a4 hT hkp hs
                  refine hK.out _ _ (⟨fq2, b1, b2, b3, b4⟩) (fun hHeld => ?_)
                  clear hK K b1 b2 b3 b4
                  refine tk 36 184 (.bool false) rfl hHeld ?_
                  simp only [Act.put, sA, sZ, sS]
                  refine tk 37 185 (.bool false) rfl hHeld ?_
                  simp only [Act.put, sA, sZ, sS]
                  obtain ⟨fqx, a1, a2, a3, _⟩ := hHeld
                  refine wpAnyH_done (by kernel_rfl) ?_ _
                  go_wp2_with fail
                  go_roundw
                  case rel => exact ⟨i + 1, fqx, _, mm, HLT.out, by have := HLT.out; go_num, a1, a2, a3⟩
                  case measure =>
                    have := HLT.out
                    simp [RowKit.intOf]
                    omega
          · by_cases e3 : kd = 3
            · subst e3
              clear e0 e2
              obtain ⟨q, hq⟩ : ∃ q, staleF a.now a.idle = q := ⟨_, rfl⟩
              have HQ := Lib.hid hq
              obtain ⟨mm, hmm⟩ : ∃ n, (m.filter fun x => !q x) = n := ⟨_, rfl⟩
              have HMM := Lib.hid hmm
              obtain ⟨ZI, hZI⟩ : ∃ O, (zL a.idle).toArray = O := ⟨_, rfl⟩
              have HZI := Lib.hid hZI
              have HZC : Hid (zC a.idle = .agg ZI) := Lib.hid (by unfold zC; rw [hZI])
              clear hq hmm hZI
              as_aux_lemma =>
                go_upto_region 11 with (first | ((with_reducible show wpList _ _ _ (⟨some 52, _, _, _, _, _⟩ :: _) _ _); refine wpList_loadFw (op := ⟨some 52, _, _, _, _, _⟩) _ rfl (by rfl) b (off + i * 49 + 1) (by rfl) f (RXF.out _ TT.out.bel) O HO.out ?_) | ((with_reducible show wpList _ _ _ (⟨none, .store _ (.tmp 11) _, _, _, _, _⟩ :: _) _ _); refine wpList_storeNewG rfl 28 _ _ rfl (by rfl) (fwL f) (by rw [HO.out]; rfl) (by rw [fwL_len]; rfl) (sizeFwL _) (fwL_one _) ?_; intro ws1 hb9 hB9 _; have T2 := Lib.hid (TT.out.below HS.out hB9); have R2 := Lib.hid (RT.out.below hB9); have X_0 : Hid (Out ws1 fp wr.heap.size f) := Lib.hid ⟨hb9, TT.out.new_off HS.out (Nat.le_refl _)⟩; have HX : Hid (wr.heap.size ≠ gT) := Lib.hid (by have := RT.out.lt; omega); clear hb9 hB9 TT RT))
                have c0 := CK.out ws1 T2.out.bel
                go_upto_region 16 with (fail)
                clear c0
                refine wp_region_held_drew (S := fun W => Below Y.heap.size Y W ∧ W.rangeAt wr.heap.size 0 (fwL f)) (by kernel_rfl) (⟨T2.out.bel.drew, out_at X_0.out⟩) (fun hHeld => ?_)
                have T3 := Lib.hid (T2.out.drew HS.out)
                have R3 := Lib.hid R2.out.drew
                have X3 : Hid (Out ws1.drew fp wr.heap.size f) := Lib.hid (show Out ws1.drew fp wr.heap.size f from X_0.out)
                clear T2 R2 X_0
                generalize ws1.drew = wd3 at *
                refine tk 0 86 (.slice (some ⟨b, off, none⟩) len cap) rfl hHeld ?_
                simp only [Act.put, sA, sZ, sS]
                refine tk 1 87 (.int .i64 (i : Int)) rfl hHeld ?_
                simp only [Act.put, sA, sZ, sS]
                refine tk 2 88 (.pointer (some ⟨b, off + i * 49, none⟩)) rfl hHeld ?_
                simp only [Act.put, sA, sZ, sS]
                refine tk 3 89 (.pointer (some ⟨b, off + i * 49, none⟩)) rfl hHeld ?_
                simp only [Act.put, sA, sZ, sS]
                refine tkY 4 90 (.int .i64 3) rfl (Or.inl ⟨by rfl, fun W hW => by have hc := CK.out W hW.1; go_simp⟩) hHeld ?_
                simp only [Act.put, sA, sZ, sS]
                refine tk 5 91 (.bool false) rfl hHeld ?_
                simp only [Act.put, sA, sZ, sS]
                refine tk 6 92 (.bool false) rfl hHeld ?_
                simp only [Act.put, sA, sZ, sS]
                refine tkN 7 93 rfl hHeld ?_
                simp only [Act.put, sA, sZ, sS]
                refine tkN 8 94 rfl hHeld ?_
                simp only [Act.put, sA, sZ, sS]
                refine tkN 9 95 rfl hHeld ?_
                simp only [Act.put, sA, sZ, sS]
                refine tkN 10 96 rfl hHeld ?_
                simp only [Act.put, sA, sZ, sS]
                refine tkN 11 97 rfl hHeld ?_
                simp only [Act.put, sA, sZ, sS]
                refine tkN 12 98 rfl hHeld ?_
                simp only [Act.put, sA, sZ, sS]
                refine tkN 13 99 rfl hHeld ?_
                simp only [Act.put, sA, sZ, sS]
                refine tkN 14 100 rfl hHeld ?_
                simp only [Act.put, sA, sZ, sS]
                refine tkN 15 101 rfl hHeld ?_
                simp only [Act.put, sA, sZ, sS]
                refine tk 16 102 (.bool false) rfl hHeld ?_
                simp only [Act.put, sA, sZ, sS]
                clear hHeld
                refine wpAnyH_done (by kernel_rfl) ?_ _
                go_upto_region 18 with (fail)
                refine wp_region_held_drew (S := fun W => Below Y.heap.size Y W ∧ W.rangeAt wr.heap.size 0 (fwL f)) (by kernel_rfl) (⟨T3.out.bel.drew, out_at X3.out⟩) (fun hHeld => ?_)
                have T4 := Lib.hid (T3.out.drew HS.out)
                have R4 := Lib.hid R3.out.drew
                have X4 : Hid (Out wd3.drew fp wr.heap.size f) := Lib.hid (show Out wd3.drew fp wr.heap.size f from X3.out)
                clear T3 R3 X3
                generalize wd3.drew = wd4 at *
                refine tk 0 103 (.slice (some ⟨b, off, none⟩) len cap) rfl hHeld ?_
                simp only [Act.put, sA, sZ, sS]
                refine tk 1 104 (.int .i64 (i : Int)) rfl hHeld ?_
                simp only [Act.put, sA, sZ, sS]
                refine tk 2 105 (.pointer (some ⟨b, off + i * 49, none⟩)) rfl hHeld ?_
                simp only [Act.put, sA, sZ, sS]
                refine tk 3 106 (.pointer (some ⟨b, off + i * 49, none⟩)) rfl hHeld ?_
                simp only [Act.put, sA, sZ, sS]
                refine tkY 4 107 (.int .i64 3) rfl (Or.inl ⟨by rfl, fun W hW => by have hc := CK.out W hW.1; go_simp⟩) hHeld ?_
                simp only [Act.put, sA, sZ, sS]
                refine tk 5 108 (.bool true) rfl hHeld ?_
                simp only [Act.put, sA, sZ, sS]
                refine tk 6 109 (.bool true) rfl hHeld ?_
                simp only [Act.put, sA, sZ, sS]
                refine tk 7 110 (.pointer (some ⟨g, 0, none⟩)) rfl hHeld ?_
                simp only [Act.put, sA, sZ, sS]
                refine tk 8 111 (.slice (some ⟨b, off, none⟩) len cap) rfl hHeld ?_
                simp only [Act.put, sA, sZ, sS]
                refine tk 9 112 (.int .i64 (i : Int)) rfl hHeld ?_
                simp only [Act.put, sA, sZ, sS]
                refine tk 10 113 (.pointer (some ⟨b, off + i * 49, none⟩)) rfl hHeld ?_
                simp only [Act.put, sA, sZ, sS]
                refine tk 11 114 (.pointer (some ⟨b, off + i * 49 + 42, none⟩)) rfl hHeld ?_
                simp only [Act.put, sA, sZ, sS]
                refine tkY 12 115 (.int .i64 a.now) rfl (Or.inl ⟨by rfl, fun W hW => by have hc := CN.out W hW.1; go_simp⟩) hHeld ?_
                simp only [Act.put, sA, sZ, sS]
                refine tk 13 116 (.slice (some ⟨b, off, none⟩) len cap) rfl hHeld ?_
                simp only [Act.put, sA, sZ, sS]
                refine tk 14 117 (.int .i64 (i : Int)) rfl hHeld ?_
                simp only [Act.put, sA, sZ, sS]
                refine tk 15 118 (.pointer (some ⟨b, off + i * 49, none⟩)) rfl hHeld ?_
                simp only [Act.put, sA, sZ, sS]
                refine tk 16 119 (.pointer (some ⟨b, off + i * 49 + 43, none⟩)) rfl hHeld ?_
                simp only [Act.put, sA, sZ, sS]
                refine tkY 17 120 (.agg ZI) rfl (yields_loadId (by rfl) _ rfl b (off + i * 49 + 43) (by rfl) a.six (fun W hW => ac_id (RX.out W hW.1)) ZI HZI.out) hHeld ?_
                simp only [Act.put, sA, sZ, sS]
                refine tk 19 122 (.pointer (some ⟨gT, 0, none⟩)) rfl hHeld ?_
                simp only [Act.put, sA, sZ, sS]
                refine tk 20 123 (.slice (some ⟨b, off, none⟩) len cap) rfl hHeld ?_
                simp only [Act.put, sA, sZ, sS]
                refine tk 21 124 (.int .i64 (i : Int)) rfl hHeld ?_
                simp only [Act.put, sA, sZ, sS]
                refine tk 22 125 (.pointer (some ⟨b, off + i * 49, none⟩)) rfl hHeld ?_
                simp only [Act.put, sA, sZ, sS]
                refine tk 23 126 (.pointer (some ⟨b, off + i * 49 + 42, none⟩)) rfl hHeld ?_
                simp only [Act.put, sA, sZ, sS]
                refine tkY 24 127 (.int .i64 a.now) rfl (Or.inl ⟨by rfl, fun W hW => by have hc := CN.out W hW.1; go_simp⟩) hHeld ?_
                simp only [Act.put, sA, sZ, sS]
                refine tk 25 128 (.slice (some ⟨b, off, none⟩) len cap) rfl hHeld ?_
                simp only [Act.put, sA, sZ, sS]
                refine tk 26 129 (.int .i64 (i : Int)) rfl hHeld ?_
                simp only [Act.put, sA, sZ, sS]
                refine tk 27 130 (.pointer (some ⟨b, off + i * 49, none⟩)) rfl hHeld ?_
                simp only [Act.put, sA, sZ, sS]
                refine tk 28 131 (.pointer (some ⟨b, off + i * 49 + 43, none⟩)) rfl hHeld ?_
                simp only [Act.put, sA, sZ, sS]
                refine tkY 29 132 (.agg ZI) rfl (yields_loadId (by rfl) _ rfl b (off + i * 49 + 43) (by rfl) a.six (fun W hW => ac_id (RX.out W hW.1)) ZI HZI.out) hHeld ?_
                simp only [Act.put, sA, sZ, sS]
                refine wpAnyH_ready (rs := [18]) (by kernel_rfl) (by simp) (AllReadyH.cons (o := ⟨some 121, _, _, _, _, _⟩) rfl (fun K hK => ?_) AllReadyH.nil)
                go_simp
                have hq := T4.out.sweep HS.out HAO.out.now a.six HAO.out.idle
                rw [HZC.out, HQ.out, HMM.out] at hq
                refine hq.mono ?_
                clear hq
                rintro e wp1 ⟨Ag, ng, cg, rfl, hng, _, _, ho, fp1, hT, hkp, hs, _⟩
                have G1 := Lib.hid ho
                have HGG1 := Lib.hid hng
                have HGO1 := Lib.hid R4.out.lt
                clear ho hng
                have T5 := Lib.hid hT
                have R5 := Lib.hid (duo_ref R4.out NT.out hkp)
                have N5 := Lib.hid (duo_off R4.out NT.out hs)
                have X5 := Lib.hid (X4.out.left hkp hs)
                clear T4 R4 NT X4 hT hkp hs
                refine hK.out _ _ (⟨T5.out.bel, out_at X5.out⟩) (fun hHeld => ?_)
                clear hK K 
                refine wpAnyH_ready (rs := [30]) (by kernel_rfl) (by simp) (AllReadyH.cons (o := ⟨some 133, _, _, _, _, _⟩) rfl (fun K hK => ?_) AllReadyH.nil)
                go_simp
                have hq := rsweep_any R5.out (by have h := HRT.out.fits; have := HQ4.out; omega) a.now a.six
                rw [HZC.out, HQ.out, HMM.out] at hq
                refine hq.mono ?_
                clear hq
                rintro e wp2 ⟨v, lvp, rfl, ho, hr, hg, hn, _⟩
                obtain ⟨Av, nv, cv, rfl, h51, h52, h53, h54, h55⟩ := ho.sl
                clear h51 h52 h53 h54 h55
                have G2 := Lib.hid (G1.out.kept hg (.inr (fun e => by have h8 := G1.out.lt _ e; have := HGO1.out; omega)))
                have V2 := Lib.hid ho
                clear ho G1
                have T6 := Lib.hid (T5.out.grown HS.out hg HGB.out N5.out.1)
                have R6 := Lib.hid hr
                have N6 := Lib.hid (duo_new HS.out T5.out N5.out (fun b hb => .inr (hn b hb)))
                have X6 := Lib.hid (X5.out.grown hg HGF.out)
                clear T5 R5 N5 X5 hr hg hn
                refine hK.out _ _ (⟨T6.out.bel, out_at X6.out⟩) (fun hHeld => ?_)
                clear hK K 
                refine wpAnyH_ready (rs := [31]) (by kernel_rfl) (by simp) (AllReadyH.cons (o := ⟨some 134, _, _, _, _, _⟩) rfl (fun K hK => ?_) AllReadyH.nil)
                go_simp
                have hq := rsame21_any (w := wp2) cg cv (by have := HGG1.out; have h := HRT.out.fits; have := HQ4.out; have h3 := List.length_filter_le q m; omega) (Nat.le_refl _) (Nat.le_refl _) G2.out.rd V2.out.rd
                rw [sameF_iff.2 rfl] at hq
                refine hq.mono ?_
                clear hq
                rintro e wp3 ⟨rfl, hb⟩
                have T7 := Lib.hid (T6.out.below HS.out hb)
                have R7 := Lib.hid (R6.out.below hb)
                have X7 := Lib.hid (X6.out.below hb)
                clear T6 R6 X6
                clear hb G2 V2
                refine hK.out _ _ (⟨T7.out.bel, out_at X7.out⟩) (fun hHeld => ?_)
                clear hK K 
                refine tk 32 135 (.bool false) rfl hHeld ?_
                simp only [Act.put, sA, sZ, sS]
                refine tk 33 136 (.bool false) rfl hHeld ?_
                simp only [Act.put, sA, sZ, sS]
                clear hHeld
                refine wpAnyH_done (by kernel_rfl) ?_ _
                obtain ⟨Al, nl, cl, hlv, hnl, _, _, _, _⟩ := R7.out.own.sl
                subst hlv
                have HNL := Lib.hid hnl
                have HRU : Hid (RightT RR mm) := Lib.hid T7.out.right
                clear hnl
                by_cases hpl : placeK mm f.k < 0
                · as_aux_lemma =>
                    have HGV : Hid (getV mm f.k = .tuple #[.agg ZZ, .bool false]) := Lib.hid (by rw [getV_none (place_none.1 hpl), fw_c HZZ.out])
                    obtain ⟨z, hz⟩ : ∃ z, placeK mm f.k = z := ⟨_, rfl⟩
                    have HPL := Lib.hid hz
                    have hz0 : ¬ (0 : Int) ≤ z := by omega
                    have hz1 : z < 0 := by omega
                    clear hpl hz
                    go_upto_region 21 with (first | ((with_reducible show wpList _ _ _ (⟨some 140, _, _, _, _, _⟩ :: _) _ _); refine wpList_loadKeyF (op := ⟨some 140, _, _, _, _, _⟩) _ rfl (by rfl) wr.heap.size (0) (by rfl) f (out_at X7.out) J HJ.out ?_) | ((have hq := T7.out.get HS.out HIX.out.t); (rw [key_c HJ.out, HGV.out] at hq); (with_reducible refine hq.mono ?_); clear hq; rintro e wm8 ⟨rfl, fm8, hT, hkp, hs⟩; have T9 := Lib.hid hT; have R9 := Lib.hid (duo_ref R7.out N6.out hkp); have N9 := Lib.hid (duo_off R7.out N6.out hs); have X9 := Lib.hid (X7.out.left hkp hs); clear T7 R7 N6 X7 hT hkp hs) | ((with_reducible show wpList _ _ _ (⟨none, .store _ (.tmp 18) _, _, _, _, _⟩ :: _) _ _); refine wpList_storeNewG rfl 28 _ _ rfl (by rfl) (fwL fw0) (by rw [HZZ.out]; rfl) (by rw [fwL_len]; rfl) (sizeFwL _) (fwL_one _) ?_; intro ws10 hb9 hB9 _; have T11 := Lib.hid (T9.out.below HS.out hB9); have R11 := Lib.hid (R9.out.below hB9); have X11 := Lib.hid (X9.out.below hB9); have E_0 : Hid (Out ws10 fm8 wm8.heap.size fw0) := Lib.hid ⟨hb9, T9.out.new_off HS.out (Nat.le_refl _)⟩; have HE : Hid (wm8.heap.size ≠ gT) := Lib.hid (by have := R9.out.lt; omega); clear hb9 hB9 T9 R9 X9))
                    go_upto_region 22 with (first | ((with_reducible show wpList _ _ _ (⟨some 146, _, _, _, _, _⟩ :: _) _ _); refine wpList_loadKeyF (op := ⟨some 146, _, _, _, _, _⟩) _ rfl (by rfl) wr.heap.size (0) (by rfl) f (out_at X11.out) J HJ.out ?_) | ((have hq := rfind21_any R11.out f.ok); (rw [key_c HJ.out, HPL.out] at hq); (with_reducible refine hq.mono ?_); clear hq; rintro e wfd ⟨rfl, hb⟩; have T12 := Lib.hid (T11.out.below HS.out hb); have R12 := Lib.hid (R11.out.below hb); have X12 := Lib.hid (X11.out.below hb); have E_12 := Lib.hid (E_0.out.below hb); clear hb T11 R11 X11 E_0))
                    refine wp_region_held_drew (S := fun W => (∃ fq, Hid (Tb Rep Y Y.heap.size (.pointer (some ⟨g, 0, none⟩)) RR mm W fq) ∧ Hid (RefT W gT (RR : Int) (.slice Al nl cl) mm) ∧ Hid (Off fq gT (.slice Al nl cl)) ∧ Hid (Out W fq wm8.heap.size fw0))) (by kernel_rfl) (⟨fm8, Lib.hid (T12.out.drew HS.out), Lib.hid R12.out.drew, N9, Lib.hid (show Out _ fm8 wm8.heap.size fw0 from E_12.out)⟩) (fun hHeld => ?_)
                    clear T12 R12 N9 X12 E_12
                    refine tk 0 148 (.bool false) rfl hHeld ?_
                    simp only [Act.put, sA, sZ, sS]
                    refine tk 1 149 (.int .i64 z) rfl hHeld ?_
                    simp only [Act.put, sA, sZ, sS]
                    refine tk 2 150 (.bool false) rfl hHeld ?_
                    simp only [Act.put, sA, sZ, sS]
                    refine tk 3 151 (.bool false) rfl hHeld ?_
                    simp only [Act.put, sA, sZ, sS]
                    refine tk 4 152 (.bool false) rfl hHeld ?_
                    simp only [Act.put, sA, sZ, sS]
                    refine tk 5 153 (.int .i64 z) rfl hHeld ?_
                    simp only [Act.put, sA, sZ, sS]
                    refine tk 6 154 (.bool false) rfl hHeld ?_
                    simp only [Act.put, sA, sZ, sS]
                    refine tk 7 155 (.bool false) rfl hHeld ?_
                    simp only [Act.put, sA, sZ, sS]
                    refine tkN 8 156 rfl hHeld ?_
                    simp only [Act.put, sA, sZ, sS]
                    refine tkN 9 157 rfl hHeld ?_
                    simp only [Act.put, sA, sZ, sS]
                    refine tkN 10 158 rfl hHeld ?_
                    simp only [Act.put, sA, sZ, sS]
                    refine tkN 11 159 rfl hHeld ?_
                    simp only [Act.put, sA, sZ, sS]
                    refine tkN 12 160 rfl hHeld ?_
                    simp only [Act.put, sA, sZ, sS]
                    refine tkN 13 161 rfl hHeld ?_
                    simp only [Act.put, sA, sZ, sS]
                    refine tkN 14 162 rfl hHeld ?_
                    simp only [Act.put, sA, sZ, sS]
                    refine tkN 15 163 rfl hHeld ?_
                    simp only [Act.put, sA, sZ, sS]
                    refine tkN 16 164 rfl hHeld ?_
                    simp only [Act.put, sA, sZ, sS]
                    refine tk 17 165 (.bool false) rfl hHeld ?_
                    simp only [Act.put, sA, sZ, sS]
                    refine tk 18 166 (.bool false) rfl hHeld ?_
                    simp only [Act.put, sA, sZ, sS]
                    refine tk 19 167 (.bool false) rfl hHeld ?_
                    simp only [Act.put, sA, sZ, sS]
                    refine tk 20 168 (.bool false) rfl hHeld ?_
                    simp only [Act.put, sA, sZ, sS]
                    refine tk 21 169 (.bool true) rfl hHeld ?_
                    simp only [Act.put, sA, sZ, sS]
                    refine tk 22 170 (.bool true) rfl hHeld ?_
                    simp only [Act.put, sA, sZ, sS]
                    refine tkY 23 171 (.agg ZZ) rfl (yields_loadFw (by rfl) _ rfl wm8.heap.size 0 (by rfl) fw0 (fun W hW => by obtain ⟨_, _, _, _, he⟩ := hW; exact out_at he.out) ZZ HZZ.out) hHeld ?_
                    simp only [Act.put, sA, sZ, sS]
                    refine tkY 24 172 (.agg ZZ) rfl (yields_bldF (by rfl) 28 #[] rfl [] (by simp) ZZ HBZ.out) hHeld ?_
                    simp only [Act.put, sA, sZ, sS]
                    refine tkY 25 173 (.bool false) rfl (yields_cmpS (by rfl) .neq 28 _ _ _ rfl ZZ ZZ (by rfl) (by rfl) guard_fw false (fun W => by have h := ne_fws HZZ.out HZZ.out W; rwa [fwQ_self] at h)) hHeld ?_
                    simp only [Act.put, sA, sZ, sS]
                    refine tk 26 174 (.bool false) rfl hHeld ?_
                    simp only [Act.put, sA, sZ, sS]
                    refine tk 27 175 (.bool false) rfl hHeld ?_
                    simp only [Act.put, sA, sZ, sS]
                    refine tk 28 176 (.bool false) rfl hHeld ?_
                    simp only [Act.put, sA, sZ, sS]
                    refine tk 29 177 (.pointer (some ⟨g, 0, none⟩)) rfl hHeld ?_
                    simp only [Act.put, sA, sZ, sS]
                    refine tk 31 179 (.pointer (some ⟨gT, 0, none⟩)) rfl hHeld ?_
                    simp only [Act.put, sA, sZ, sS]
                    refine tk 32 180 (.pointer (some ⟨gT, 0, none⟩)) rfl hHeld ?_
                    simp only [Act.put, sA, sZ, sS]
                    refine tk 33 181 (.pointer (some ⟨gT, 1, none⟩)) rfl hHeld ?_
                    simp only [Act.put, sA, sZ, sS]
                    refine tkY 34 182 (.slice Al nl cl) rfl (Or.inl ⟨by rfl, fun W hW => by have hc := (show W.cell? ⟨gT, 1, none⟩ = some (.slice Al nl cl) from by obtain ⟨_, _, hr, _, _⟩ := hW; exact hr.out.blk.cell (i := 1) rfl); go_simp⟩) hHeld ?_
                    simp only [Act.put, sA, sZ, sS]
                    refine tk 35 183 (.int .i64 (nl : Int)) rfl hHeld ?_
                    simp only [Act.put, sA, sZ, sS]
                    refine wpAnyH_ready (rs := [30]) (by kernel_rfl) (by simp) (AllReadyH.cons (o := ⟨some 178, _, _, _, _, _⟩) rfl (fun K hK => ?_) AllReadyH.nil)
                    obtain ⟨fq, a1, a2, a3, a4⟩ := hHeld
                    go_simp
                    have hq := a1.out.len HS.out
                    rw [← HNL.out] at hq
                    refine hq.mono ?_
                    clear hq
                    rintro e wl ⟨rfl, fq2, hT, hkp, hs⟩
                    have b1 := Lib.hid hT
                    have b2 := Lib.hid (duo_ref a2.out a3.out hkp)
                    have b3 := Lib.hid (duo_off a2.out a3.out hs)
                    have b4 := Lib.hid (a4.out.left hkp hs)
                    clear a1 a2 a3 a4 hT hkp hs
                    refine hK.out _ _ (⟨fq2, b1, b2, b3, b4⟩) (fun hHeld => ?_)
                    clear hK K b1 b2 b3 b4
                    refine tk 36 184 (.bool false) rfl hHeld ?_
                    simp only [Act.put, sA, sZ, sS]
                    refine tk 37 185 (.bool false) rfl hHeld ?_
                    simp only [Act.put, sA, sZ, sS]
                    obtain ⟨fqx, a1, a2, a3, _⟩ := hHeld
                    refine wpAnyH_done (by kernel_rfl) ?_ _
                    go_wp2_with fail
                    go_roundw
                    case rel => exact ⟨i + 1, fqx, _, mm, HLT.out, by have := HLT.out; go_num, a1, a2, a3⟩
                    case measure =>
                      have := HLT.out
                      simp [RowKit.intOf]
                      omega
                · as_aux_lemma =>
                    obtain ⟨j, x, hpj, hxj, hxk, _⟩ := place_some HRU.out.apart hpl
                    obtain ⟨OX, hOX⟩ : ∃ O, (fwL x).toArray = O := ⟨_, rfl⟩
                    have HOX := Lib.hid hOX
                    have HGV : Hid (getV mm f.k = .tuple #[.agg OX, .bool true]) := Lib.hid (by rw [getV_some hxk, fw_c hOX])
                    have HPL := Lib.hid hpj
                    have HXJ := Lib.hid hxj
                    have HJN : Hid (j < nl) := Lib.hid (by rw [HNL.out]; exact (List.getElem?_eq_some_iff.1 hxj).1)
                    have hz0 : (0 : Int) ≤ (j : Int) := by omega
                    have hz1 : (j : Int) < (nl : Int) := by have := HJN.out; omega
                    obtain ⟨gl, cx, eX, _⟩ := R7.out.own.form (by rw [← HNL.out]; have := HJN.out; omega)
                    have eA : Al = some ⟨gl, 0, none⟩ := by cases eX; rfl
                    subst eA
                    clear eX hpl hpj hxj hxk hOX
                    go_upto_region 21 with (first | ((with_reducible show wpList _ _ _ (⟨some 140, _, _, _, _, _⟩ :: _) _ _); refine wpList_loadKeyF (op := ⟨some 140, _, _, _, _, _⟩) _ rfl (by rfl) wr.heap.size (0) (by rfl) f (out_at X7.out) J HJ.out ?_) | ((have hq := T7.out.get HS.out HIX.out.t); (rw [key_c HJ.out, HGV.out] at hq); (with_reducible refine hq.mono ?_); clear hq; rintro e wm8 ⟨rfl, fm8, hT, hkp, hs⟩; have T9 := Lib.hid hT; have R9 := Lib.hid (duo_ref R7.out N6.out hkp); have N9 := Lib.hid (duo_off R7.out N6.out hs); have X9 := Lib.hid (X7.out.left hkp hs); clear T7 R7 N6 X7 hT hkp hs) | ((with_reducible show wpList _ _ _ (⟨none, .store _ (.tmp 18) _, _, _, _, _⟩ :: _) _ _); refine wpList_storeNewG rfl 28 _ _ rfl (by rfl) (fwL x) (by rw [HOX.out]; rfl) (by rw [fwL_len]; rfl) (sizeFwL _) (fwL_one _) ?_; intro ws10 hb9 hB9 _; have T11 := Lib.hid (T9.out.below HS.out hB9); have R11 := Lib.hid (R9.out.below hB9); have X11 := Lib.hid (X9.out.below hB9); have E_0 : Hid (Out ws10 fm8 wm8.heap.size x) := Lib.hid ⟨hb9, T9.out.new_off HS.out (Nat.le_refl _)⟩; have HE : Hid (wm8.heap.size ≠ gT) := Lib.hid (by have := R9.out.lt; omega); clear hb9 hB9 T9 R9 X9))
                    go_upto_region 22 with (first | ((with_reducible show wpList _ _ _ (⟨some 146, _, _, _, _, _⟩ :: _) _ _); refine wpList_loadKeyF (op := ⟨some 146, _, _, _, _, _⟩) _ rfl (by rfl) wr.heap.size (0) (by rfl) f (out_at X11.out) J HJ.out ?_) | ((have hq := rfind21_any R11.out f.ok); (rw [key_c HJ.out, HPL.out] at hq); (with_reducible refine hq.mono ?_); clear hq; rintro e wfd ⟨rfl, hb⟩; have T12 := Lib.hid (T11.out.below HS.out hb); have R12 := Lib.hid (R11.out.below hb); have X12 := Lib.hid (X11.out.below hb); have E_12 := Lib.hid (E_0.out.below hb); clear hb T11 R11 X11 E_0))
                    refine wp_region_held_drew (S := fun W => (∃ fq, Hid (Tb Rep Y Y.heap.size (.pointer (some ⟨g, 0, none⟩)) RR mm W fq) ∧ Hid (RefT W gT (RR : Int) (.slice (some ⟨gl, 0, none⟩) nl cl) mm) ∧ Hid (Off fq gT (.slice (some ⟨gl, 0, none⟩) nl cl)) ∧ Hid (Out W fq wm8.heap.size x))) (by kernel_rfl) (⟨fm8, Lib.hid (T12.out.drew HS.out), Lib.hid R12.out.drew, N9, Lib.hid (show Out _ fm8 wm8.heap.size x from E_12.out)⟩) (fun hHeld => ?_)
                    clear T12 R12 N9 X12 E_12
                    refine tk 0 148 (.bool true) rfl hHeld ?_
                    simp only [Act.put, sA, sZ, sS]
                    refine tk 1 149 (.int .i64 (j : Int)) rfl hHeld ?_
                    simp only [Act.put, sA, sZ, sS]
                    refine tk 2 150 (.bool true) rfl hHeld ?_
                    simp only [Act.put, sA, sZ, sS]
                    refine tk 3 151 (.bool false) rfl hHeld ?_
                    simp only [Act.put, sA, sZ, sS]
                    refine tk 4 152 (.bool false) rfl hHeld ?_
                    simp only [Act.put, sA, sZ, sS]
                    refine tk 5 153 (.int .i64 (j : Int)) rfl hHeld ?_
                    simp only [Act.put, sA, sZ, sS]
                    refine tk 6 154 (.bool true) rfl hHeld ?_
                    simp only [Act.put, sA, sZ, sS]
                    refine tk 7 155 (.bool true) rfl hHeld ?_
                    simp only [Act.put, sA, sZ, sS]
                    refine tkY 8 156 (.agg OX) rfl (yields_loadFw (by rfl) _ rfl wm8.heap.size 0 (by rfl) x (fun W hW => by obtain ⟨_, _, _, _, he⟩ := hW; exact out_at he.out) OX HOX.out) hHeld ?_
                    simp only [Act.put, sA, sZ, sS]
                    refine tk 9 157 (.pointer (some ⟨gT, 0, none⟩)) rfl hHeld ?_
                    simp only [Act.put, sA, sZ, sS]
                    refine tk 10 158 (.pointer (some ⟨gT, 0, none⟩)) rfl hHeld ?_
                    simp only [Act.put, sA, sZ, sS]
                    refine tk 11 159 (.pointer (some ⟨gT, 1, none⟩)) rfl hHeld ?_
                    simp only [Act.put, sA, sZ, sS]
                    refine tkY 12 160 (.slice (some ⟨gl, 0, none⟩) nl cl) rfl (Or.inl ⟨by rfl, fun W hW => by have hc := (show W.cell? ⟨gT, 1, none⟩ = some (.slice (some ⟨gl, 0, none⟩) nl cl) from by obtain ⟨_, _, hr, _, _⟩ := hW; exact hr.out.blk.cell (i := 1) rfl); go_simp⟩) hHeld ?_
                    simp only [Act.put, sA, sZ, sS]
                    refine tk 13 161 (.int .i64 (j : Int)) rfl hHeld ?_
                    simp only [Act.put, sA, sZ, sS]
                    refine tk 14 162 (.pointer (some ⟨gl, j * 41, none⟩)) rfl hHeld ?_
                    simp only [Act.put, sA, sZ, sS]
                    refine tkY 15 163 (.agg OX) rfl (yields_loadFw (by rfl) _ rfl gl (j * 41) (by rfl) x (fun W hW => by obtain ⟨_, _, hr, _, _⟩ := hW; have h9 := hr.out.own.rd.range HXJ.out; rw [Nat.zero_add] at h9; exact h9) OX HOX.out) hHeld ?_
                    simp only [Act.put, sA, sZ, sS]
                    refine tkY 16 164 (.bool false) rfl (yields_cmpS (by rfl) .neq 28 _ _ _ rfl OX OX (by rfl) (by rfl) guard_fw false (fun W => by have h := ne_fws HOX.out HOX.out W; rwa [fwQ_self] at h)) hHeld ?_
                    simp only [Act.put, sA, sZ, sS]
                    refine tk 17 165 (.bool false) rfl hHeld ?_
                    simp only [Act.put, sA, sZ, sS]
                    refine tk 18 166 (.bool false) rfl hHeld ?_
                    simp only [Act.put, sA, sZ, sS]
                    refine tk 19 167 (.bool false) rfl hHeld ?_
                    simp only [Act.put, sA, sZ, sS]
                    refine tk 20 168 (.bool true) rfl hHeld ?_
                    simp only [Act.put, sA, sZ, sS]
                    refine tk 21 169 (.bool false) rfl hHeld ?_
                    simp only [Act.put, sA, sZ, sS]
                    refine tk 22 170 (.bool false) rfl hHeld ?_
                    simp only [Act.put, sA, sZ, sS]
                    refine tkN 23 171 rfl hHeld ?_
                    simp only [Act.put, sA, sZ, sS]
                    refine tkN 24 172 rfl hHeld ?_
                    simp only [Act.put, sA, sZ, sS]
                    refine tkN 25 173 rfl hHeld ?_
                    simp only [Act.put, sA, sZ, sS]
                    refine tk 26 174 (.bool false) rfl hHeld ?_
                    simp only [Act.put, sA, sZ, sS]
                    refine tk 27 175 (.bool false) rfl hHeld ?_
                    simp only [Act.put, sA, sZ, sS]
                    refine tk 28 176 (.bool false) rfl hHeld ?_
                    simp only [Act.put, sA, sZ, sS]
                    refine tk 29 177 (.pointer (some ⟨g, 0, none⟩)) rfl hHeld ?_
                    simp only [Act.put, sA, sZ, sS]
                    refine tk 31 179 (.pointer (some ⟨gT, 0, none⟩)) rfl hHeld ?_
                    simp only [Act.put, sA, sZ, sS]
                    refine tk 32 180 (.pointer (some ⟨gT, 0, none⟩)) rfl hHeld ?_
                    simp only [Act.put, sA, sZ, sS]
                    refine tk 33 181 (.pointer (some ⟨gT, 1, none⟩)) rfl hHeld ?_
                    simp only [Act.put, sA, sZ, sS]
                    refine tkY 34 182 (.slice (some ⟨gl, 0, none⟩) nl cl) rfl (Or.inl ⟨by rfl, fun W hW => by have hc := (show W.cell? ⟨gT, 1, none⟩ = some (.slice (some ⟨gl, 0, none⟩) nl cl) from by obtain ⟨_, _, hr, _, _⟩ := hW; exact hr.out.blk.cell (i := 1) rfl); go_simp⟩) hHeld ?_
                    simp only [Act.put, sA, sZ, sS]
                    refine tk 35 183 (.int .i64 (nl : Int)) rfl hHeld ?_
                    simp only [Act.put, sA, sZ, sS]
                    refine wpAnyH_ready (rs := [30]) (by kernel_rfl) (by simp) (AllReadyH.cons (o := ⟨some 178, _, _, _, _, _⟩) rfl (fun K hK => ?_) AllReadyH.nil)
                    obtain ⟨fq, a1, a2, a3, a4⟩ := hHeld
                    go_simp
                    have hq := a1.out.len HS.out
                    rw [← HNL.out] at hq
                    refine hq.mono ?_
                    clear hq
                    rintro e wl ⟨rfl, fq2, hT, hkp, hs⟩
                    have b1 := Lib.hid hT
                    have b2 := Lib.hid (duo_ref a2.out a3.out hkp)
                    have b3 := Lib.hid (duo_off a2.out a3.out hs)
                    have b4 := Lib.hid (a4.out.left hkp hs)
                    clear a1 a2 a3 a4 hT hkp hs
                    refine hK.out _ _ (⟨fq2, b1, b2, b3, b4⟩) (fun hHeld => ?_)
                    clear hK K b1 b2 b3 b4
                    refine tk 36 184 (.bool false) rfl hHeld ?_
                    simp only [Act.put, sA, sZ, sS]
                    refine tk 37 185 (.bool false) rfl hHeld ?_
                    simp only [Act.put, sA, sZ, sS]
                    obtain ⟨fqx, a1, a2, a3, _⟩ := hHeld
                    refine wpAnyH_done (by kernel_rfl) ?_ _
                    go_wp2_with fail
                    go_roundw
                    case rel => exact ⟨i + 1, fqx, _, mm, HLT.out, by have := HLT.out; go_num, a1, a2, a3⟩
                    case measure =>
                      have := HLT.out
                      simp [RowKit.intOf]
                      omega
            · have e0b : (kd == 0) = false := by simpa using e0
              have e2b : (kd == 2) = false := by simpa using e2
              have e3b : (kd == 3) = false := by simpa using e3
              as_aux_lemma =>
                go_upto_region 11 with (first | ((with_reducible show wpList _ _ _ (⟨some 52, _, _, _, _, _⟩ :: _) _ _); refine wpList_loadFw (op := ⟨some 52, _, _, _, _, _⟩) _ rfl (by rfl) b (off + i * 49 + 1) (by rfl) f (RXF.out _ TT.out.bel) O HO.out ?_) | ((with_reducible show wpList _ _ _ (⟨none, .store _ (.tmp 11) _, _, _, _, _⟩ :: _) _ _); refine wpList_storeNewG rfl 28 _ _ rfl (by rfl) (fwL f) (by rw [HO.out]; rfl) (by rw [fwL_len]; rfl) (sizeFwL _) (fwL_one _) ?_; intro ws1 hb9 hB9 _; have T2 := Lib.hid (TT.out.below HS.out hB9); have R2 := Lib.hid (RT.out.below hB9); have X_0 : Hid (Out ws1 fp wr.heap.size f) := Lib.hid ⟨hb9, TT.out.new_off HS.out (Nat.le_refl _)⟩; have HX : Hid (wr.heap.size ≠ gT) := Lib.hid (by have := RT.out.lt; omega); clear hb9 hB9 TT RT))
                have c0 := CK.out ws1 T2.out.bel
                go_upto_region 16 with (fail)
                clear c0
                refine wp_region_held_drew (S := fun W => Below Y.heap.size Y W ∧ W.rangeAt wr.heap.size 0 (fwL f)) (by kernel_rfl) (⟨T2.out.bel.drew, out_at X_0.out⟩) (fun hHeld => ?_)
                have T3 := Lib.hid (T2.out.drew HS.out)
                have R3 := Lib.hid R2.out.drew
                have X3 : Hid (Out ws1.drew fp wr.heap.size f) := Lib.hid (show Out ws1.drew fp wr.heap.size f from X_0.out)
                clear T2 R2 X_0
                generalize ws1.drew = wd3 at *
                refine tk 0 86 (.slice (some ⟨b, off, none⟩) len cap) rfl hHeld ?_
                simp only [Act.put, sA, sZ, sS]
                refine tk 1 87 (.int .i64 (i : Int)) rfl hHeld ?_
                simp only [Act.put, sA, sZ, sS]
                refine tk 2 88 (.pointer (some ⟨b, off + i * 49, none⟩)) rfl hHeld ?_
                simp only [Act.put, sA, sZ, sS]
                refine tk 3 89 (.pointer (some ⟨b, off + i * 49, none⟩)) rfl hHeld ?_
                simp only [Act.put, sA, sZ, sS]
                refine tkY 4 90 (.int .i64 kd) rfl (Or.inl ⟨by rfl, fun W hW => by have hc := CK.out W hW.1; go_simp⟩) hHeld ?_
                simp only [Act.put, sA, sZ, sS]
                refine tk 5 91 (.bool false) rfl hHeld ?_
                simp only [Act.put, sA, sZ, sS]
                refine tk 6 92 (.bool false) rfl hHeld ?_
                simp only [Act.put, sA, sZ, sS]
                refine tkN 7 93 rfl hHeld ?_
                simp only [Act.put, sA, sZ, sS]
                refine tkN 8 94 rfl hHeld ?_
                simp only [Act.put, sA, sZ, sS]
                refine tkN 9 95 rfl hHeld ?_
                simp only [Act.put, sA, sZ, sS]
                refine tkN 10 96 rfl hHeld ?_
                simp only [Act.put, sA, sZ, sS]
                refine tkN 11 97 rfl hHeld ?_
                simp only [Act.put, sA, sZ, sS]
                refine tkN 12 98 rfl hHeld ?_
                simp only [Act.put, sA, sZ, sS]
                refine tkN 13 99 rfl hHeld ?_
                simp only [Act.put, sA, sZ, sS]
                refine tkN 14 100 rfl hHeld ?_
                simp only [Act.put, sA, sZ, sS]
                refine tkN 15 101 rfl hHeld ?_
                simp only [Act.put, sA, sZ, sS]
                refine tk 16 102 (.bool false) rfl hHeld ?_
                simp only [Act.put, sA, sZ, sS]
                clear hHeld
                refine wpAnyH_done (by kernel_rfl) ?_ _
                go_upto_region 18 with (fail)
                refine wp_region_held_drew (S := fun W => Below Y.heap.size Y W ∧ W.rangeAt wr.heap.size 0 (fwL f)) (by kernel_rfl) (⟨T3.out.bel.drew, out_at X3.out⟩) (fun hHeld => ?_)
                have T4 := Lib.hid (T3.out.drew HS.out)
                have R4 := Lib.hid R3.out.drew
                have X4 : Hid (Out wd3.drew fp wr.heap.size f) := Lib.hid (show Out wd3.drew fp wr.heap.size f from X3.out)
                clear T3 R3 X3
                generalize wd3.drew = wd4 at *
                refine tk 0 103 (.slice (some ⟨b, off, none⟩) len cap) rfl hHeld ?_
                simp only [Act.put, sA, sZ, sS]
                refine tk 1 104 (.int .i64 (i : Int)) rfl hHeld ?_
                simp only [Act.put, sA, sZ, sS]
                refine tk 2 105 (.pointer (some ⟨b, off + i * 49, none⟩)) rfl hHeld ?_
                simp only [Act.put, sA, sZ, sS]
                refine tk 3 106 (.pointer (some ⟨b, off + i * 49, none⟩)) rfl hHeld ?_
                simp only [Act.put, sA, sZ, sS]
                refine tkY 4 107 (.int .i64 kd) rfl (Or.inl ⟨by rfl, fun W hW => by have hc := CK.out W hW.1; go_simp⟩) hHeld ?_
                simp only [Act.put, sA, sZ, sS]
                refine tk 5 108 (.bool false) rfl hHeld ?_
                simp only [Act.put, sA, sZ, sS]
                refine tk 6 109 (.bool false) rfl hHeld ?_
                simp only [Act.put, sA, sZ, sS]
                refine tkN 7 110 rfl hHeld ?_
                simp only [Act.put, sA, sZ, sS]
                refine tkN 8 111 rfl hHeld ?_
                simp only [Act.put, sA, sZ, sS]
                refine tkN 9 112 rfl hHeld ?_
                simp only [Act.put, sA, sZ, sS]
                refine tkN 10 113 rfl hHeld ?_
                simp only [Act.put, sA, sZ, sS]
                refine tkN 11 114 rfl hHeld ?_
                simp only [Act.put, sA, sZ, sS]
                refine tkN 12 115 rfl hHeld ?_
                simp only [Act.put, sA, sZ, sS]
                refine tkN 13 116 rfl hHeld ?_
                simp only [Act.put, sA, sZ, sS]
                refine tkN 14 117 rfl hHeld ?_
                simp only [Act.put, sA, sZ, sS]
                refine tkN 15 118 rfl hHeld ?_
                simp only [Act.put, sA, sZ, sS]
                refine tkN 16 119 rfl hHeld ?_
                simp only [Act.put, sA, sZ, sS]
                refine tkN 17 120 rfl hHeld ?_
                simp only [Act.put, sA, sZ, sS]
                refine tkN 18 121 rfl hHeld ?_
                simp only [Act.put, sA, sZ, sS]
                refine tkN 19 122 rfl hHeld ?_
                simp only [Act.put, sA, sZ, sS]
                refine tkN 20 123 rfl hHeld ?_
                simp only [Act.put, sA, sZ, sS]
                refine tkN 21 124 rfl hHeld ?_
                simp only [Act.put, sA, sZ, sS]
                refine tkN 22 125 rfl hHeld ?_
                simp only [Act.put, sA, sZ, sS]
                refine tkN 23 126 rfl hHeld ?_
                simp only [Act.put, sA, sZ, sS]
                refine tkN 24 127 rfl hHeld ?_
                simp only [Act.put, sA, sZ, sS]
                refine tkN 25 128 rfl hHeld ?_
                simp only [Act.put, sA, sZ, sS]
                refine tkN 26 129 rfl hHeld ?_
                simp only [Act.put, sA, sZ, sS]
                refine tkN 27 130 rfl hHeld ?_
                simp only [Act.put, sA, sZ, sS]
                refine tkN 28 131 rfl hHeld ?_
                simp only [Act.put, sA, sZ, sS]
                refine tkN 29 132 rfl hHeld ?_
                simp only [Act.put, sA, sZ, sS]
                refine tkN 30 133 rfl hHeld ?_
                simp only [Act.put, sA, sZ, sS]
                refine tkN 31 134 rfl hHeld ?_
                simp only [Act.put, sA, sZ, sS]
                refine tkN 32 135 rfl hHeld ?_
                simp only [Act.put, sA, sZ, sS]
                refine tk 33 136 (.bool false) rfl hHeld ?_
                simp only [Act.put, sA, sZ, sS]
                clear hHeld
                refine wpAnyH_done (by kernel_rfl) ?_ _
                obtain ⟨Al, nl, cl, hlv, hnl, _, _, _, _⟩ := R4.out.own.sl
                subst hlv
                have HNL := Lib.hid hnl
                have HRU : Hid (RightT RR m) := Lib.hid T4.out.right
                clear hnl
                by_cases hpl : placeK m f.k < 0
                · as_aux_lemma =>
                    have HGV : Hid (getV m f.k = .tuple #[.agg ZZ, .bool false]) := Lib.hid (by rw [getV_none (place_none.1 hpl), fw_c HZZ.out])
                    obtain ⟨z, hz⟩ : ∃ z, placeK m f.k = z := ⟨_, rfl⟩
                    have HPL := Lib.hid hz
                    have hz0 : ¬ (0 : Int) ≤ z := by omega
                    have hz1 : z < 0 := by omega
                    clear hpl hz
                    go_upto_region 21 with (first | ((with_reducible show wpList _ _ _ (⟨some 140, _, _, _, _, _⟩ :: _) _ _); refine wpList_loadKeyF (op := ⟨some 140, _, _, _, _, _⟩) _ rfl (by rfl) wr.heap.size (0) (by rfl) f (out_at X4.out) J HJ.out ?_) | ((have hq := T4.out.get HS.out HIX.out.t); (rw [key_c HJ.out, HGV.out] at hq); (with_reducible refine hq.mono ?_); clear hq; rintro e wm5 ⟨rfl, fm5, hT, hkp, hs⟩; have T6 := Lib.hid hT; have R6 := Lib.hid (duo_ref R4.out NT.out hkp); have N6 := Lib.hid (duo_off R4.out NT.out hs); have X6 := Lib.hid (X4.out.left hkp hs); clear T4 R4 NT X4 hT hkp hs) | ((with_reducible show wpList _ _ _ (⟨none, .store _ (.tmp 18) _, _, _, _, _⟩ :: _) _ _); refine wpList_storeNewG rfl 28 _ _ rfl (by rfl) (fwL fw0) (by rw [HZZ.out]; rfl) (by rw [fwL_len]; rfl) (sizeFwL _) (fwL_one _) ?_; intro ws7 hb9 hB9 _; have T8 := Lib.hid (T6.out.below HS.out hB9); have R8 := Lib.hid (R6.out.below hB9); have X8 := Lib.hid (X6.out.below hB9); have E_0 : Hid (Out ws7 fm5 wm5.heap.size fw0) := Lib.hid ⟨hb9, T6.out.new_off HS.out (Nat.le_refl _)⟩; have HE : Hid (wm5.heap.size ≠ gT) := Lib.hid (by have := R6.out.lt; omega); clear hb9 hB9 T6 R6 X6))
                    go_upto_region 22 with (first | ((with_reducible show wpList _ _ _ (⟨some 146, _, _, _, _, _⟩ :: _) _ _); refine wpList_loadKeyF (op := ⟨some 146, _, _, _, _, _⟩) _ rfl (by rfl) wr.heap.size (0) (by rfl) f (out_at X8.out) J HJ.out ?_) | ((have hq := rfind21_any R8.out f.ok); (rw [key_c HJ.out, HPL.out] at hq); (with_reducible refine hq.mono ?_); clear hq; rintro e wfd ⟨rfl, hb⟩; have T9 := Lib.hid (T8.out.below HS.out hb); have R9 := Lib.hid (R8.out.below hb); have X9 := Lib.hid (X8.out.below hb); have E_9 := Lib.hid (E_0.out.below hb); clear hb T8 R8 X8 E_0))
                    refine wp_region_held_drew (S := fun W => (∃ fq, Hid (Tb Rep Y Y.heap.size (.pointer (some ⟨g, 0, none⟩)) RR m W fq) ∧ Hid (RefT W gT (RR : Int) (.slice Al nl cl) m) ∧ Hid (Off fq gT (.slice Al nl cl)) ∧ Hid (Out W fq wm5.heap.size fw0))) (by kernel_rfl) (⟨fm5, Lib.hid (T9.out.drew HS.out), Lib.hid R9.out.drew, N6, Lib.hid (show Out _ fm5 wm5.heap.size fw0 from E_9.out)⟩) (fun hHeld => ?_)
                    clear T9 R9 N6 X9 E_9
                    refine tk 0 148 (.bool false) rfl hHeld ?_
                    simp only [Act.put, sA, sZ, sS]
                    refine tk 1 149 (.int .i64 z) rfl hHeld ?_
                    simp only [Act.put, sA, sZ, sS]
                    refine tk 2 150 (.bool false) rfl hHeld ?_
                    simp only [Act.put, sA, sZ, sS]
                    refine tk 3 151 (.bool false) rfl hHeld ?_
                    simp only [Act.put, sA, sZ, sS]
                    refine tk 4 152 (.bool false) rfl hHeld ?_
                    simp only [Act.put, sA, sZ, sS]
                    refine tk 5 153 (.int .i64 z) rfl hHeld ?_
                    simp only [Act.put, sA, sZ, sS]
                    refine tk 6 154 (.bool false) rfl hHeld ?_
                    simp only [Act.put, sA, sZ, sS]
                    refine tk 7 155 (.bool false) rfl hHeld ?_
                    simp only [Act.put, sA, sZ, sS]
                    refine tkN 8 156 rfl hHeld ?_
                    simp only [Act.put, sA, sZ, sS]
                    refine tkN 9 157 rfl hHeld ?_
                    simp only [Act.put, sA, sZ, sS]
                    refine tkN 10 158 rfl hHeld ?_
                    simp only [Act.put, sA, sZ, sS]
                    refine tkN 11 159 rfl hHeld ?_
                    simp only [Act.put, sA, sZ, sS]
                    refine tkN 12 160 rfl hHeld ?_
                    simp only [Act.put, sA, sZ, sS]
                    refine tkN 13 161 rfl hHeld ?_
                    simp only [Act.put, sA, sZ, sS]
                    refine tkN 14 162 rfl hHeld ?_
                    simp only [Act.put, sA, sZ, sS]
                    refine tkN 15 163 rfl hHeld ?_
                    simp only [Act.put, sA, sZ, sS]
                    refine tkN 16 164 rfl hHeld ?_
                    simp only [Act.put, sA, sZ, sS]
                    refine tk 17 165 (.bool false) rfl hHeld ?_
                    simp only [Act.put, sA, sZ, sS]
                    refine tk 18 166 (.bool false) rfl hHeld ?_
                    simp only [Act.put, sA, sZ, sS]
                    refine tk 19 167 (.bool false) rfl hHeld ?_
                    simp only [Act.put, sA, sZ, sS]
                    refine tk 20 168 (.bool false) rfl hHeld ?_
                    simp only [Act.put, sA, sZ, sS]
                    refine tk 21 169 (.bool true) rfl hHeld ?_
                    simp only [Act.put, sA, sZ, sS]
                    refine tk 22 170 (.bool true) rfl hHeld ?_
                    simp only [Act.put, sA, sZ, sS]
                    refine tkY 23 171 (.agg ZZ) rfl (yields_loadFw (by rfl) _ rfl wm5.heap.size 0 (by rfl) fw0 (fun W hW => by obtain ⟨_, _, _, _, he⟩ := hW; exact out_at he.out) ZZ HZZ.out) hHeld ?_
                    simp only [Act.put, sA, sZ, sS]
                    refine tkY 24 172 (.agg ZZ) rfl (yields_bldF (by rfl) 28 #[] rfl [] (by simp) ZZ HBZ.out) hHeld ?_
                    simp only [Act.put, sA, sZ, sS]
                    refine tkY 25 173 (.bool false) rfl (yields_cmpS (by rfl) .neq 28 _ _ _ rfl ZZ ZZ (by rfl) (by rfl) guard_fw false (fun W => by have h := ne_fws HZZ.out HZZ.out W; rwa [fwQ_self] at h)) hHeld ?_
                    simp only [Act.put, sA, sZ, sS]
                    refine tk 26 174 (.bool false) rfl hHeld ?_
                    simp only [Act.put, sA, sZ, sS]
                    refine tk 27 175 (.bool false) rfl hHeld ?_
                    simp only [Act.put, sA, sZ, sS]
                    refine tk 28 176 (.bool false) rfl hHeld ?_
                    simp only [Act.put, sA, sZ, sS]
                    refine tk 29 177 (.pointer (some ⟨g, 0, none⟩)) rfl hHeld ?_
                    simp only [Act.put, sA, sZ, sS]
                    refine tk 31 179 (.pointer (some ⟨gT, 0, none⟩)) rfl hHeld ?_
                    simp only [Act.put, sA, sZ, sS]
                    refine tk 32 180 (.pointer (some ⟨gT, 0, none⟩)) rfl hHeld ?_
                    simp only [Act.put, sA, sZ, sS]
                    refine tk 33 181 (.pointer (some ⟨gT, 1, none⟩)) rfl hHeld ?_
                    simp only [Act.put, sA, sZ, sS]
                    refine tkY 34 182 (.slice Al nl cl) rfl (Or.inl ⟨by rfl, fun W hW => by have hc := (show W.cell? ⟨gT, 1, none⟩ = some (.slice Al nl cl) from by obtain ⟨_, _, hr, _, _⟩ := hW; exact hr.out.blk.cell (i := 1) rfl); go_simp⟩) hHeld ?_
                    simp only [Act.put, sA, sZ, sS]
                    refine tk 35 183 (.int .i64 (nl : Int)) rfl hHeld ?_
                    simp only [Act.put, sA, sZ, sS]
                    refine wpAnyH_ready (rs := [30]) (by kernel_rfl) (by simp) (AllReadyH.cons (o := ⟨some 178, _, _, _, _, _⟩) rfl (fun K hK => ?_) AllReadyH.nil)
                    obtain ⟨fq, a1, a2, a3, a4⟩ := hHeld
                    go_simp
                    have hq := a1.out.len HS.out
                    rw [← HNL.out] at hq
                    refine hq.mono ?_
                    clear hq
                    rintro e wl ⟨rfl, fq2, hT, hkp, hs⟩
                    have b1 := Lib.hid hT
                    have b2 := Lib.hid (duo_ref a2.out a3.out hkp)
                    have b3 := Lib.hid (duo_off a2.out a3.out hs)
                    have b4 := Lib.hid (a4.out.left hkp hs)
                    clear a1 a2 a3 a4 hT hkp hs
                    refine hK.out _ _ (⟨fq2, b1, b2, b3, b4⟩) (fun hHeld => ?_)
                    clear hK K b1 b2 b3 b4
                    refine tk 36 184 (.bool false) rfl hHeld ?_
                    simp only [Act.put, sA, sZ, sS]
                    refine tk 37 185 (.bool false) rfl hHeld ?_
                    simp only [Act.put, sA, sZ, sS]
                    obtain ⟨fqx, a1, a2, a3, _⟩ := hHeld
                    refine wpAnyH_done (by kernel_rfl) ?_ _
                    go_wp2_with fail
                    go_roundw
                    case rel => exact ⟨i + 1, fqx, _, m, HLT.out, by have := HLT.out; go_num, a1, a2, a3⟩
                    case measure =>
                      have := HLT.out
                      simp [RowKit.intOf]
                      omega
                · as_aux_lemma =>
                    obtain ⟨j, x, hpj, hxj, hxk, _⟩ := place_some HRU.out.apart hpl
                    obtain ⟨OX, hOX⟩ : ∃ O, (fwL x).toArray = O := ⟨_, rfl⟩
                    have HOX := Lib.hid hOX
                    have HGV : Hid (getV m f.k = .tuple #[.agg OX, .bool true]) := Lib.hid (by rw [getV_some hxk, fw_c hOX])
                    have HPL := Lib.hid hpj
                    have HXJ := Lib.hid hxj
                    have HJN : Hid (j < nl) := Lib.hid (by rw [HNL.out]; exact (List.getElem?_eq_some_iff.1 hxj).1)
                    have hz0 : (0 : Int) ≤ (j : Int) := by omega
                    have hz1 : (j : Int) < (nl : Int) := by have := HJN.out; omega
                    obtain ⟨gl, cx, eX, _⟩ := R4.out.own.form (by rw [← HNL.out]; have := HJN.out; omega)
                    have eA : Al = some ⟨gl, 0, none⟩ := by cases eX; rfl
                    subst eA
                    clear eX hpl hpj hxj hxk hOX
                    go_upto_region 21 with (first | ((with_reducible show wpList _ _ _ (⟨some 140, _, _, _, _, _⟩ :: _) _ _); refine wpList_loadKeyF (op := ⟨some 140, _, _, _, _, _⟩) _ rfl (by rfl) wr.heap.size (0) (by rfl) f (out_at X4.out) J HJ.out ?_) | ((have hq := T4.out.get HS.out HIX.out.t); (rw [key_c HJ.out, HGV.out] at hq); (with_reducible refine hq.mono ?_); clear hq; rintro e wm5 ⟨rfl, fm5, hT, hkp, hs⟩; have T6 := Lib.hid hT; have R6 := Lib.hid (duo_ref R4.out NT.out hkp); have N6 := Lib.hid (duo_off R4.out NT.out hs); have X6 := Lib.hid (X4.out.left hkp hs); clear T4 R4 NT X4 hT hkp hs) | ((with_reducible show wpList _ _ _ (⟨none, .store _ (.tmp 18) _, _, _, _, _⟩ :: _) _ _); refine wpList_storeNewG rfl 28 _ _ rfl (by rfl) (fwL x) (by rw [HOX.out]; rfl) (by rw [fwL_len]; rfl) (sizeFwL _) (fwL_one _) ?_; intro ws7 hb9 hB9 _; have T8 := Lib.hid (T6.out.below HS.out hB9); have R8 := Lib.hid (R6.out.below hB9); have X8 := Lib.hid (X6.out.below hB9); have E_0 : Hid (Out ws7 fm5 wm5.heap.size x) := Lib.hid ⟨hb9, T6.out.new_off HS.out (Nat.le_refl _)⟩; have HE : Hid (wm5.heap.size ≠ gT) := Lib.hid (by have := R6.out.lt; omega); clear hb9 hB9 T6 R6 X6))
                    go_upto_region 22 with (first | ((with_reducible show wpList _ _ _ (⟨some 146, _, _, _, _, _⟩ :: _) _ _); refine wpList_loadKeyF (op := ⟨some 146, _, _, _, _, _⟩) _ rfl (by rfl) wr.heap.size (0) (by rfl) f (out_at X8.out) J HJ.out ?_) | ((have hq := rfind21_any R8.out f.ok); (rw [key_c HJ.out, HPL.out] at hq); (with_reducible refine hq.mono ?_); clear hq; rintro e wfd ⟨rfl, hb⟩; have T9 := Lib.hid (T8.out.below HS.out hb); have R9 := Lib.hid (R8.out.below hb); have X9 := Lib.hid (X8.out.below hb); have E_9 := Lib.hid (E_0.out.below hb); clear hb T8 R8 X8 E_0))
                    refine wp_region_held_drew (S := fun W => (∃ fq, Hid (Tb Rep Y Y.heap.size (.pointer (some ⟨g, 0, none⟩)) RR m W fq) ∧ Hid (RefT W gT (RR : Int) (.slice (some ⟨gl, 0, none⟩) nl cl) m) ∧ Hid (Off fq gT (.slice (some ⟨gl, 0, none⟩) nl cl)) ∧ Hid (Out W fq wm5.heap.size x))) (by kernel_rfl) (⟨fm5, Lib.hid (T9.out.drew HS.out), Lib.hid R9.out.drew, N6, Lib.hid (show Out _ fm5 wm5.heap.size x from E_9.out)⟩) (fun hHeld => ?_)
                    clear T9 R9 N6 X9 E_9
                    refine tk 0 148 (.bool true) rfl hHeld ?_
                    simp only [Act.put, sA, sZ, sS]
                    refine tk 1 149 (.int .i64 (j : Int)) rfl hHeld ?_
                    simp only [Act.put, sA, sZ, sS]
                    refine tk 2 150 (.bool true) rfl hHeld ?_
                    simp only [Act.put, sA, sZ, sS]
                    refine tk 3 151 (.bool false) rfl hHeld ?_
                    simp only [Act.put, sA, sZ, sS]
                    refine tk 4 152 (.bool false) rfl hHeld ?_
                    simp only [Act.put, sA, sZ, sS]
                    refine tk 5 153 (.int .i64 (j : Int)) rfl hHeld ?_
                    simp only [Act.put, sA, sZ, sS]
                    refine tk 6 154 (.bool true) rfl hHeld ?_
                    simp only [Act.put, sA, sZ, sS]
                    refine tk 7 155 (.bool true) rfl hHeld ?_
                    simp only [Act.put, sA, sZ, sS]
                    refine tkY 8 156 (.agg OX) rfl (yields_loadFw (by rfl) _ rfl wm5.heap.size 0 (by rfl) x (fun W hW => by obtain ⟨_, _, _, _, he⟩ := hW; exact out_at he.out) OX HOX.out) hHeld ?_
                    simp only [Act.put, sA, sZ, sS]
                    refine tk 9 157 (.pointer (some ⟨gT, 0, none⟩)) rfl hHeld ?_
                    simp only [Act.put, sA, sZ, sS]
                    refine tk 10 158 (.pointer (some ⟨gT, 0, none⟩)) rfl hHeld ?_
                    simp only [Act.put, sA, sZ, sS]
                    refine tk 11 159 (.pointer (some ⟨gT, 1, none⟩)) rfl hHeld ?_
                    simp only [Act.put, sA, sZ, sS]
                    refine tkY 12 160 (.slice (some ⟨gl, 0, none⟩) nl cl) rfl (Or.inl ⟨by rfl, fun W hW => by have hc := (show W.cell? ⟨gT, 1, none⟩ = some (.slice (some ⟨gl, 0, none⟩) nl cl) from by obtain ⟨_, _, hr, _, _⟩ := hW; exact hr.out.blk.cell (i := 1) rfl); go_simp⟩) hHeld ?_
                    simp only [Act.put, sA, sZ, sS]
                    refine tk 13 161 (.int .i64 (j : Int)) rfl hHeld ?_
                    simp only [Act.put, sA, sZ, sS]
                    refine tk 14 162 (.pointer (some ⟨gl, j * 41, none⟩)) rfl hHeld ?_
                    simp only [Act.put, sA, sZ, sS]
                    refine tkY 15 163 (.agg OX) rfl (yields_loadFw (by rfl) _ rfl gl (j * 41) (by rfl) x (fun W hW => by obtain ⟨_, _, hr, _, _⟩ := hW; have h9 := hr.out.own.rd.range HXJ.out; rw [Nat.zero_add] at h9; exact h9) OX HOX.out) hHeld ?_
                    simp only [Act.put, sA, sZ, sS]
                    refine tkY 16 164 (.bool false) rfl (yields_cmpS (by rfl) .neq 28 _ _ _ rfl OX OX (by rfl) (by rfl) guard_fw false (fun W => by have h := ne_fws HOX.out HOX.out W; rwa [fwQ_self] at h)) hHeld ?_
                    simp only [Act.put, sA, sZ, sS]
                    refine tk 17 165 (.bool false) rfl hHeld ?_
                    simp only [Act.put, sA, sZ, sS]
                    refine tk 18 166 (.bool false) rfl hHeld ?_
                    simp only [Act.put, sA, sZ, sS]
                    refine tk 19 167 (.bool false) rfl hHeld ?_
                    simp only [Act.put, sA, sZ, sS]
                    refine tk 20 168 (.bool true) rfl hHeld ?_
                    simp only [Act.put, sA, sZ, sS]
                    refine tk 21 169 (.bool false) rfl hHeld ?_
                    simp only [Act.put, sA, sZ, sS]
                    refine tk 22 170 (.bool false) rfl hHeld ?_
                    simp only [Act.put, sA, sZ, sS]
                    refine tkN 23 171 rfl hHeld ?_
                    simp only [Act.put, sA, sZ, sS]
                    refine tkN 24 172 rfl hHeld ?_
                    simp only [Act.put, sA, sZ, sS]
                    refine tkN 25 173 rfl hHeld ?_
                    simp only [Act.put, sA, sZ, sS]
                    refine tk 26 174 (.bool false) rfl hHeld ?_
                    simp only [Act.put, sA, sZ, sS]
                    refine tk 27 175 (.bool false) rfl hHeld ?_
                    simp only [Act.put, sA, sZ, sS]
                    refine tk 28 176 (.bool false) rfl hHeld ?_
                    simp only [Act.put, sA, sZ, sS]
                    refine tk 29 177 (.pointer (some ⟨g, 0, none⟩)) rfl hHeld ?_
                    simp only [Act.put, sA, sZ, sS]
                    refine tk 31 179 (.pointer (some ⟨gT, 0, none⟩)) rfl hHeld ?_
                    simp only [Act.put, sA, sZ, sS]
                    refine tk 32 180 (.pointer (some ⟨gT, 0, none⟩)) rfl hHeld ?_
                    simp only [Act.put, sA, sZ, sS]
                    refine tk 33 181 (.pointer (some ⟨gT, 1, none⟩)) rfl hHeld ?_
                    simp only [Act.put, sA, sZ, sS]
                    refine tkY 34 182 (.slice (some ⟨gl, 0, none⟩) nl cl) rfl (Or.inl ⟨by rfl, fun W hW => by have hc := (show W.cell? ⟨gT, 1, none⟩ = some (.slice (some ⟨gl, 0, none⟩) nl cl) from by obtain ⟨_, _, hr, _, _⟩ := hW; exact hr.out.blk.cell (i := 1) rfl); go_simp⟩) hHeld ?_
                    simp only [Act.put, sA, sZ, sS]
                    refine tk 35 183 (.int .i64 (nl : Int)) rfl hHeld ?_
                    simp only [Act.put, sA, sZ, sS]
                    refine wpAnyH_ready (rs := [30]) (by kernel_rfl) (by simp) (AllReadyH.cons (o := ⟨some 178, _, _, _, _, _⟩) rfl (fun K hK => ?_) AllReadyH.nil)
                    obtain ⟨fq, a1, a2, a3, a4⟩ := hHeld
                    go_simp
                    have hq := a1.out.len HS.out
                    rw [← HNL.out] at hq
                    refine hq.mono ?_
                    clear hq
                    rintro e wl ⟨rfl, fq2, hT, hkp, hs⟩
                    have b1 := Lib.hid hT
                    have b2 := Lib.hid (duo_ref a2.out a3.out hkp)
                    have b3 := Lib.hid (duo_off a2.out a3.out hs)
                    have b4 := Lib.hid (a4.out.left hkp hs)
                    clear a1 a2 a3 a4 hT hkp hs
                    refine hK.out _ _ (⟨fq2, b1, b2, b3, b4⟩) (fun hHeld => ?_)
                    clear hK K b1 b2 b3 b4
                    refine tk 36 184 (.bool false) rfl hHeld ?_
                    simp only [Act.put, sA, sZ, sS]
                    refine tk 37 185 (.bool false) rfl hHeld ?_
                    simp only [Act.put, sA, sZ, sS]
                    obtain ⟨fqx, a1, a2, a3, _⟩ := hHeld
                    refine wpAnyH_done (by kernel_rfl) ?_ _
                    go_wp2_with fail
                    go_roundw
                    case rel => exact ⟨i + 1, fqx, _, m, HLT.out, by have := HLT.out; go_num, a1, a2, a3⟩
                    case measure =>
                      have := HLT.out
                      simp [RowKit.intOf]
                      omega
      · obtain rfl : len = i := by omega
        have h1 : ¬ (len : Int) < (len : Int) := by omega
        clear hli hi
        obtain ⟨Al, nl, cl, hlv, hnl, _, _, _, _⟩ := RT.out.own.sl
        subst hlv
        have HNL := Lib.hid hnl
        have HRT : Hid (RightT RR m) := Lib.hid TT.out.right
        clear hnl
        go_upto_region 24 with (fail)
        refine wp_region_held_drew (S := fun W => Below Y.heap.size Y W ∧ W.cell? ⟨gT, 1, none⟩ = some (.slice Al nl cl)) (by kernel_rfl) (⟨TT.out.bel.drew, RT.out.drew.blk.cell (i := 1) rfl⟩) (fun hHeld => ?_)
        have T1 := Lib.hid (TT.out.drew HS.out)
        have R1 := Lib.hid RT.out.drew
        clear TT RT
        generalize wr.drew = wd at *
        refine tk 0 186 (.pointer (some ⟨g, 0, none⟩)) rfl hHeld ?_
        simp only [Act.put, sA, sZ, sS]
        refine tk 2 188 (.pointer (some ⟨gT, 0, none⟩)) rfl hHeld ?_
        simp only [Act.put, sA, sZ, sS]
        refine tk 3 189 (.pointer (some ⟨gT, 0, none⟩)) rfl hHeld ?_
        simp only [Act.put, sA, sZ, sS]
        refine tk 4 190 (.pointer (some ⟨gT, 1, none⟩)) rfl hHeld ?_
        simp only [Act.put, sA, sZ, sS]
        refine tkY 5 191 (.slice Al nl cl) rfl (Or.inl ⟨by rfl, fun W hW => by have hc := hW.2; go_simp⟩) hHeld ?_
        simp only [Act.put, sA, sZ, sS]
        refine wpAnyH_ready (rs := [1]) (by kernel_rfl) (by simp) (AllReadyH.cons (o := ⟨some 187, _, _, _, _, _⟩) rfl (fun K hK => ?_) AllReadyH.nil)
        go_simp
        refine (T1.out.list HS.out).mono ?_
        rintro e wl ⟨Ax, nx, cx, rfl, hnx, _, _, ho, fq, hT, hkp, hs, _⟩
        have T2 := Lib.hid hT
        have R2 := Lib.hid (duo_ref R1.out NT.out hkp)
        have L2 := Lib.hid ho
        have HNX := Lib.hid hnx
        clear T1 R1 hT hkp hs ho hnx
        refine hK.out _ _ (⟨T2.out.bel, R2.out.blk.cell (i := 1) rfl⟩) (fun hHeld => ?_)
        clear hK K 
        refine wpAnyH_ready (rs := [6]) (by kernel_rfl) (by simp) (AllReadyH.cons (o := ⟨some 192, _, _, _, _, _⟩) rfl (fun K hK => ?_) AllReadyH.nil)
        go_simp
        have hq := rsame21_any (w := wl) cx cl (by have := HNX.out; have h := HRT.out.fits; have := HQ4.out; omega) (Nat.le_refl _) (Nat.le_refl _) L2.out.rd R2.out.own.rd
        rw [sameF_iff.2 rfl] at hq
        refine hq.mono ?_
        clear hq
        rintro e wn ⟨rfl, hb⟩
        have T3 := Lib.hid (T2.out.below HS.out hb)
        have R3 := Lib.hid (R2.out.below hb)
        clear hb
        refine hK.out _ _ (⟨T3.out.bel, R3.out.blk.cell (i := 1) rfl⟩) (fun hHeld => ?_)
        clear hK K 
        refine tk 7 6 (.bool true) rfl hHeld ?_
        simp only [Act.put, sA, sZ, sS]
        clear hHeld
        refine wpAnyH_done (by kernel_rfl) ?_ _
        go_wp2_with fail
        go_ret
        exact ⟨rfl, HB.out.trans (T3.out.bel.mono HB.out.size)⟩
end Go.Proofs.Ytfbiinipiklkaaa
