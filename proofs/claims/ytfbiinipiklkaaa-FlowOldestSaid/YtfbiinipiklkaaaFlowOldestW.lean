/-
  FlowOldest: its walk, the program's contracts a premise.
-/
import Derived.Test.YtfbiinipiklkaaaFLBld
import Derived.Test.YtfbiinipiklkaaaFLMath4
namespace Go.Proofs.Ytfbiinipiklkaaa
set_option maxRecDepth 100000
open Go.RowKit Go.Lib

set_option maxHeartbeats 64000000 in
theorem flowOldest_walkW {Rep : RepF} (S : FlowC Rep) (key : List UInt8) (hk : key.length = 16) (num : Nat) (hnum : num < 256) (A : Option Addr) (len cap : Nat) (xs : List Fw) (hc : len ≤ cap) (hm : cap ≤ maxLen) (hX : ∀ x, x ∈ xs → FwOk x) (w : World) (hI : RdG eF w w.heap.size A len xs) :
    Calls Try.prog 5 #[.agg (key.map v8).toArray, .int .u8 (num : Int), .slice A len cap] w fun e w' => e = .returned (.bool true) ∧ Below w.heap.size w w' := by
  have HS := Lib.hid S
  have HKL := Lib.hid hk
  have HLB := Lib.hid (show len ≤ 9223372036854775807 by unfold maxLen at hm; omega)
  have HL := Lib.hid hI.len
  obtain ⟨KK, hKK⟩ : ∃ O, (key.map v8).toArray = O := ⟨_, rfl⟩
  have HKK := Lib.hid hKK
  obtain ⟨Y, hY⟩ : ∃ Y, w.alloc (.cells KK 22) = Y := ⟨_, rfl⟩
  have KY : Blk Y 22 w.heap.size (key.map v8) := by rw [← hY, ← hKK]; exact Blk_10.new w _ (key.map v8)
  have hB0 : Below w.heap.size w Y := by rw [← hY]; exact (Below.refl w.heap.size w).alloc (Nat.le_refl _) _
  have PK : Hid (∀ W, Below Y.heap.size Y W → W.rangeAt w.heap.size 0 (key.map v8)) := Lib.hid (fun W h => Blk_10.range (Blk_10.below KY (Blk_10.lt KY) h))
  have HR := Lib.hid (hI.below hB0)
  have HB := Lib.hid hB0
  have PR : Hid (∀ W, Below Y.heap.size Y W → RdG eF W w.heap.size A len xs) := Lib.hid (fun W h => HR.out.below (h.mono HB.out.size))
  have HY := Lib.hid hY
  have HAW := Lib.hid (fun W => awake_any S W)
  have HNEW := Lib.hid (fun (r : Nat) (h1 : 1 ≤ r) (h2 : r ≤ 4096) (w0 : World) (B : Nat) (W : World) (hB : B ≤ w0.heap.size) (h : Below B w0 W) => tb_new S (w0 := w0) (B := B) (r := r) hk h1 h2 hB h)
  rw [hKK] at HNEW
  obtain ⟨F, hF⟩ : ∃ F, fewN (nmsF xs) = F := ⟨_, rfl⟩
  have HFE := Lib.hid hF
  have HFW : Hid (∀ W, Below Y.heap.size Y W → Calls Try.prog 29 #[.slice A len cap] W fun e w' => e = .returned (.bool F) ∧ w' = W) := Lib.hid (fun W h => by rw [← hF]; exact rfew21_any cap HLB.out W (PR.out W h))
  have HXO := Lib.hid hX
  rw [hKK]

  clear hY hF hI hX hk hm hB0 KY S
  cases F
  · skip
    go_enter Try.func5, Try.ntmps5
    go_upto_region 1 with (fail)
    rw [HY.out]
    go_wp2_with (first | ((with_reducible refine (HAW.out Y).mono ?_); rintro e w1 ⟨rfl, hb⟩; have D1 := Lib.hid hb; clear hb) | ((with_reducible refine (HFW.out w1 D1.out).mono ?_); rintro e wf ⟨rfl, hwf⟩; subst hwf))
    refine (HAW.out _).mono ?_
    rintro e wz ⟨rfl, hz⟩
    go_wp2_with fail
    go_ret
    exact ⟨rfl, HB.out.trans ((bel3 D1.out hz).mono HB.out.size)⟩
  · have hfw := (fewN_iff _).1 HFE.out
    have HN80 := Lib.hid (show len ≤ 80 by have h := hfw.1; rw [nmsF_len, HL.out] at h; exact h)
    have HIN := Lib.hid (fun x (h : x ∈ xs) => (HXO.out x h).inF (by have h9 := hfw.2 _ (List.mem_map_of_mem (f := Fw.nm) h); omega))
    clear hfw
    obtain ⟨RR, hRR⟩ : ∃ r, roomN num = r := ⟨_, rfl⟩
    have q3 : 1 ≤ RR := by rw [← hRR]; exact (room_in num).1
    have q4 : RR ≤ 40 := by rw [← hRR]; exact (room_in num).2
    have HRM : Hid (∀ W, Calls Try.prog 18 #[.int .u8 (num : Int)] W fun e w' => e = .returned (.int .i64 (RR : Int)) ∧ w' = W) := Lib.hid (fun W => by rw [← hRR]; exact rroom_any num hnum W)
    have NW : Hid (∀ W, Below Y.heap.size Y W → Calls Try.prog 11 #[.agg KK, .int .i64 (RR : Int)] W (NewGave Rep Y Y.heap.size RR W)) := Lib.hid (fun W h => HNEW.out RR q3 (by omega) Y Y.heap.size W (Nat.le_refl _) h)
    have HQ3 := Lib.hid q3
    have HQ4 := Lib.hid q4
    clear HNEW hRR hnum q3 q4
    go_enter Try.func5, Try.ntmps5
    go_upto_region 1 with (fail)
    rw [HY.out]
    go_upto_region 3 with (first | ((with_reducible refine (HAW.out Y).mono ?_); rintro e w1 ⟨rfl, hb⟩; have D1 := Lib.hid hb; clear hb) | ((with_reducible refine (HFW.out w1 D1.out).mono ?_); rintro e wf ⟨rfl, hwf⟩; subst hwf))
    refine wp_region_held_drew (S := fun W => Below Y.heap.size Y W) (by kernel_rfl) (D1.out.drew) (fun hHeld => ?_)
    refine tkY 0 31 (.agg KK) rfl (by rw [← HKK.out]; exact yieldsIf_load_mid (by rfl) 22 _ rfl w.heap.size 0 (by rfl) (key.map v8) _ PK.out Try.underlying22 rfl (sizeKey HKL.out)) hHeld ?_
    simp only [Act.put, sA, sZ, sS]
    refine tk 1 32 (.int .u8 (num : Int)) rfl hHeld ?_
    simp only [Act.put, sA, sZ, sS]
    refine wpAnyH_ready (rs := [2]) (by kernel_rfl) (by simp) (AllReadyH.cons (o := ⟨some 33, _, _, _, _, _⟩) rfl (fun K hK => ?_) AllReadyH.nil)
    go_simp
    refine (HRM.out _).mono ?_
    rintro e wq ⟨rfl, hq⟩
    subst hq
    refine hK.out _ _ (hHeld) (fun hHeld => ?_)
    clear hK K 
    refine wpAnyH_ready (rs := [3]) (by kernel_rfl) (by simp) (AllReadyH.cons (o := ⟨some 34, _, _, _, _, _⟩) rfl (fun K hK => ?_) AllReadyH.nil)
    go_simp
    refine (NW.out _ hHeld).mono ?_
    rintro e w2 ⟨g, fp2, rfl, hT, _, _⟩
    have T2 := Lib.hid hT
    refine hK.out _ _ (T2.out.bel) (fun hHeld => ?_)
    clear hK K hT
    refine tk 4 30 (.tuple #[.pointer (some ⟨g, 0, none⟩), .int .i64 0]) rfl hHeld ?_
    simp only [Act.put, sA, sZ, sS]
    refine tk 5 35 (.pointer (some ⟨g, 0, none⟩)) rfl hHeld ?_
    simp only [Act.put, sA, sZ, sS]
    refine tk 6 36 (.int .i64 0) rfl hHeld ?_
    simp only [Act.put, sA, sZ, sS]
    refine tk 7 7 (.pointer (some ⟨g, 0, none⟩)) rfl hHeld ?_
    simp only [Act.put, sA, sZ, sS]
    refine tk 8 8 (.int .i64 0) rfl hHeld ?_
    simp only [Act.put, sA, sZ, sS]
    clear hHeld
    refine wpAnyH_done (by kernel_rfl) ?_ _
    go_wp2_with fail
    go_loopw [9] (fun v9 wr => ∃ (i : Nat) (fp : Nat → Prop) (m : List Fw), i ≤ len ∧ v9 = .int .i64 (i : Int) ∧ Hid (Tb Rep Y Y.heap.size (.pointer (some ⟨g, 0, none⟩)) RR m wr fp)) (fun v9 _ => len - (RowKit.intOf v9).toNat)
    case atStart => exact ⟨0, fp2, [], Nat.zero_le _, rfl, T2⟩
    case round =>
      clear T2
      obtain ⟨i, fp, m, hi, rfl, TT⟩ := hrel
      by_cases hli : i < len
      · skip
        have h1 : (i : Int) < (len : Int) := by omega
        have h0 : (0 : Int) ≤ (i : Int) := by omega
        have hk9 : i < 9223372036854775807 := by have := HN80.out; omega
        obtain ⟨f, hx⟩ : ∃ x, xs[i]? = some x := ⟨_, List.getElem?_eq_getElem (by rw [HL.out]; exact hli)⟩
        obtain ⟨b, off, rfl, _⟩ := (PR.out wr TT.out.bel).addr (by omega)
        have RX : Hid (∀ W, Below Y.heap.size Y W → W.rangeAt b (off + i * 41) (fwL f)) := Lib.hid (fun W hW => (PR.out W hW).range hx)
        have HIX := Lib.hid (HIN.out f (List.mem_of_getElem? hx))
        obtain ⟨J, hJ⟩ : ∃ J, (tuL f.k).toArray = J := ⟨_, rfl⟩
        have HJ := Lib.hid hJ
        obtain ⟨O, hO⟩ : ∃ O, (fwL f).toArray = O := ⟨_, rfl⟩
        have HO := Lib.hid hO
        have HLT := Lib.hid hli
        obtain ⟨BW, hBW⟩ : ∃ n, wr.heap.size = n := ⟨_, rfl⟩
        have HBW := Lib.hid hBW
        obtain ⟨mm, hmm⟩ : ∃ n, putT RR m f = n := ⟨_, rfl⟩
        have HMM := Lib.hid hmm
        obtain ⟨go, hgo⟩ : ∃ n, goF RR m f = n := ⟨_, rfl⟩
        have HGO := Lib.hid hgo
        obtain ⟨GO, hGO⟩ : ∃ n, (fwL go).toArray = n := ⟨_, rfl⟩
        have HGG := Lib.hid hGO
        have HRT : Hid (RightT RR m) := Lib.hid TT.out.right
        have HRU : Hid (RightT RR mm) := Lib.hid (by rw [← hmm]; exact putT_right TT.out.right HQ3.out f)
        have HRGW := Lib.hid (fun W => rright21_any f (by have := HIX.out.nm; omega) W)
        rw [fw_c hO] at HRGW
        clear hx hJ hO hBW hmm hgo hGO hli hi
        obtain ⟨rf, hrf⟩ : ∃ f', rightF f = f' := ⟨_, rfl⟩
        have HRF := Lib.hid hrf
        rw [hrf] at HRGW
        have HRG := HRGW
        clear hrf HRGW
        obtain ⟨ZZ, hZZ⟩ : ∃ O, (fwL fw0).toArray = O := ⟨_, rfl⟩
        have HZZ := Lib.hid hZZ
        obtain ⟨z0, hz0⟩ : ∃ z, (hasK m f.k).getD fw0 = z := ⟨_, rfl⟩
        obtain ⟨th, hth⟩ : ∃ z, (hasK m f.k).isSome = z := ⟨_, rfl⟩
        have HTH := Lib.hid hth
        obtain ⟨Z0, hZ0⟩ : ∃ z, (fwL z0).toArray = z := ⟨_, rfl⟩
        have HZ0 := Lib.hid hZ0
        have HV1 : Hid (getV m f.k = .tuple #[.agg Z0, .bool th]) := Lib.hid (by unfold getV; rw [hz0, hth, fw_c hZ0])
        clear hZZ hz0 hth hZ0
        cases rf
        · have HLF : Hid (lfB RR m f = false) := Lib.hid (lfB_bad HRF.out)
          have HPV : Hid (putV RR m f = .tuple #[.agg GO, .bool false, .int .i64 1]) := Lib.hid (by rw [putV_form, HLF.out, HGO.out, fw_c HGG.out, HRF.out]; rfl)
          obtain ⟨z1, hz1⟩ : ∃ z, (hasK mm f.k).getD fw0 = z := ⟨_, rfl⟩
          obtain ⟨ok2, hok⟩ : ∃ z, (hasK mm f.k).isSome = z := ⟨_, rfl⟩
          obtain ⟨Z1, hZ1⟩ : ∃ z, (fwL z1).toArray = z := ⟨_, rfl⟩
          have HZ1 := Lib.hid hZ1
          have HV2 : Hid (getV mm f.k = .tuple #[.agg Z1, .bool ok2]) := Lib.hid (by unfold getV; rw [hz1, hok, fw_c hZ1])
          clear hz1 hok hZ1
          as_aux_lemma =>
            go_upto_region 10 with (((have hq := TT.out.list HS.out); (with_reducible refine hq.mono ?_); clear hq; rintro e wa ⟨Aw, nw, cw, rfl, hna, hca, hma, ho, fpa, hT, hkp, hs, hd⟩; have Ta := Lib.hid hT; have La : Hid (OutS wa fpa BW (.slice Aw nw cw) m) := Lib.hid ⟨by rw [← HBW.out]; exact ho, hd⟩; have HNW := Lib.hid hna; clear hT hkp hs ho hd hna hca hma TT))
            go_upto_region 11 with (first | ((with_reducible show wpList _ _ _ (⟨some 53, _, _, _, _, _⟩ :: _) _ _); refine wpList_loadKeyF (op := ⟨some 53, _, _, _, _, _⟩) _ rfl (by rfl) b (off + i * 41) (by rfl) f (RX.out _ Ta.out.bel) J HJ.out ?_) | ((have hq := Ta.out.get HS.out HIX.out.t); (rw [key_c HJ.out, HV1.out] at hq); (with_reducible refine hq.mono ?_); clear hq; rintro e wb ⟨rfl, fpb, hT, hkp, hs⟩; have Tc := Lib.hid hT; have Lc := Lib.hid (La.out.left hkp hs); clear hT hkp hs Ta La) | ((with_reducible show wpList _ _ _ (⟨none, .store _ (.tmp 11) _, _, _, _, _⟩ :: _) _ _); refine wpList_storeNewG rfl 28 _ _ rfl (by rfl) (fwL z0) (by rw [HZ0.out]; rfl) (by rw [fwL_len]; rfl) (sizeFwL _) (fwL_one _) ?_; intro wc hb9 hB9 _; have Td := Lib.hid (Tc.out.below HS.out hB9); have Ld := Lib.hid (Lc.out.below hB9); clear hb9 hB9 Tc Lc))
            go_upto_region 12 with (first | ((with_reducible show wpList _ _ _ (⟨some 62, _, _, _, _, _⟩ :: _) _ _); refine wpList_loadFw (op := ⟨some 62, _, _, _, _, _⟩) _ rfl (by rfl) b (off + i * 41) (by rfl) f (RX.out _ Td.out.bel) O HO.out ?_) | ((have hq := Td.out.put HS.out HIX.out); (rw [fw_c HO.out, HPV.out, HMM.out] at hq); (with_reducible refine hq.mono ?_); clear hq; rintro e wd ⟨rfl, fpd, hT, hkp, hs⟩; have Te := Lib.hid hT; have Le := Lib.hid (Ld.out.left hkp hs); clear hT hkp hs Td Ld) | ((with_reducible show wpList _ _ _ (⟨none, .store _ (.tmp 13) _, _, _, _, _⟩ :: _) _ _); refine wpList_storeNewG rfl 28 _ _ rfl (by rfl) (fwL go) (by rw [HGG.out]; rfl) (by rw [fwL_len]; rfl) (sizeFwL _) (fwL_one _) ?_; intro we hb9 hB9 _; have Tf := Lib.hid (Te.out.below HS.out hB9); have Lf := Lib.hid (Le.out.below hB9); have Gf : Hid (Out we fpd wd.heap.size go) := Lib.hid ⟨hb9, Te.out.new_off HS.out (Nat.le_refl _)⟩; clear hb9 hB9 Te Le))
            go_upto_region 13 with (first | ((with_reducible show wpList _ _ _ (⟨some 73, _, _, _, _, _⟩ :: _) _ _); refine wpList_loadKeyF (op := ⟨some 73, _, _, _, _, _⟩) _ rfl (by rfl) b (off + i * 41) (by rfl) f (RX.out _ Tf.out.bel) J HJ.out ?_) | ((have hq := Tf.out.get HS.out HIX.out.t); (rw [key_c HJ.out, HV2.out] at hq); (with_reducible refine hq.mono ?_); clear hq; rintro e wh ⟨rfl, fph, hT, hkp, hs⟩; have Tg := Lib.hid hT; have Lg := Lib.hid (Lf.out.left hkp hs); have Gg := Lib.hid (Gf.out.left hkp hs); clear hT hkp hs Tf Lf Gf) | ((with_reducible show wpList _ _ _ (⟨none, .store _ (.tmp 16) _, _, _, _, _⟩ :: _) _ _); refine wpList_storeNewG rfl 28 _ _ rfl (by rfl) (fwL z1) (by rw [HZ1.out]; rfl) (by rw [fwL_len]; rfl) (sizeFwL _) (fwL_one _) ?_; intro wg hb9 hB9 _; have Th := Lib.hid (Tg.out.below HS.out hB9); have Lh := Lib.hid (Lg.out.below hB9); have Gh := Lib.hid (Gg.out.below hB9); have Hh : Hid (Out wg fph wh.heap.size z1) := Lib.hid ⟨hb9, Tg.out.new_off HS.out (Nat.le_refl _)⟩; clear hb9 hB9 Tg Lg Gg))
            refine wp_region_held_drew (S := fun W => Below Y.heap.size Y W ∧ W.rangeAt wh.heap.size 0 (fwL z1)) (by kernel_rfl) (⟨Th.out.bel.drew, out_at Hh.out⟩) (fun hHeld => ?_)
            have Ti := Lib.hid (Th.out.drew HS.out)
            have Li : Hid (OutS wg.drew fph BW (.slice Aw nw cw) m) := Lib.hid (show OutS wg.drew fph BW (.slice Aw nw cw) m from Lh.out)
            have Gi : Hid (Out wg.drew fph wd.heap.size go) := Lib.hid (show Out wg.drew fph wd.heap.size go from Gh.out)
            have Hi : Hid (Out wg.drew fph wh.heap.size z1) := Lib.hid (show Out wg.drew fph wh.heap.size z1 from Hh.out)
            clear Th Lh Gh Hh
            generalize wg.drew = wi at *
            refine tk 0 77 (.int .i64 1) rfl hHeld ?_
            simp only [Act.put, sA, sZ, sS]
            refine tk 1 78 (.bool false) rfl hHeld ?_
            simp only [Act.put, sA, sZ, sS]
            refine tk 2 79 (.slice (some ⟨b, off, none⟩) len cap) rfl hHeld ?_
            simp only [Act.put, sA, sZ, sS]
            refine tk 3 80 (.int .i64 (i : Int)) rfl hHeld ?_
            simp only [Act.put, sA, sZ, sS]
            refine tk 4 81 (.pointer (some ⟨b, off + i * 41, none⟩)) rfl hHeld ?_
            simp only [Act.put, sA, sZ, sS]
            refine tkY 5 82 (.agg O) rfl (yields_loadFw (by rfl) _ rfl b (off + i * 41) (by rfl) f (fun W hW => RX.out W hW.1) O HO.out) hHeld ?_
            simp only [Act.put, sA, sZ, sS]
            refine wpAnyH_ready (rs := [6]) (by kernel_rfl) (by simp) (AllReadyH.cons (o := ⟨some 83, _, _, _, _, _⟩) rfl (fun K hK => ?_) AllReadyH.nil)
            go_simp
            refine (HRG.out _).mono ?_
            rintro e wj ⟨rfl, hq⟩
            have Tj := Lib.hid (Ti.out.below HS.out hq)
            have Lj := Lib.hid (Li.out.below hq)
            have Gj := Lib.hid (Gi.out.below hq)
            have Hj := Lib.hid (Hi.out.below hq)
            clear hq Ti Li Gi Hi
            refine hK.out _ _ (⟨Tj.out.bel, out_at Hj.out⟩) (fun hHeld => ?_)
            clear hK K 
            refine tk 7 84 (.bool false) rfl hHeld ?_
            simp only [Act.put, sA, sZ, sS]
            refine tk 8 85 (.bool false) rfl hHeld ?_
            simp only [Act.put, sA, sZ, sS]
            refine tk 9 86 (.int .i64 1) rfl hHeld ?_
            simp only [Act.put, sA, sZ, sS]
            refine tk 10 87 (.bool false) rfl hHeld ?_
            simp only [Act.put, sA, sZ, sS]
            refine tk 11 88 (.bool false) rfl hHeld ?_
            simp only [Act.put, sA, sZ, sS]
            refine tkN 12 89 rfl hHeld ?_
            simp only [Act.put, sA, sZ, sS]
            refine tkN 13 90 rfl hHeld ?_
            simp only [Act.put, sA, sZ, sS]
            refine tkN 14 91 rfl hHeld ?_
            simp only [Act.put, sA, sZ, sS]
            refine tkN 15 92 rfl hHeld ?_
            simp only [Act.put, sA, sZ, sS]
            refine tkN 16 93 rfl hHeld ?_
            simp only [Act.put, sA, sZ, sS]
            refine tkN 17 94 rfl hHeld ?_
            simp only [Act.put, sA, sZ, sS]
            refine tkN 18 95 rfl hHeld ?_
            simp only [Act.put, sA, sZ, sS]
            refine tkN 19 96 rfl hHeld ?_
            simp only [Act.put, sA, sZ, sS]
            refine tkN 20 97 rfl hHeld ?_
            simp only [Act.put, sA, sZ, sS]
            refine tkN 21 98 rfl hHeld ?_
            simp only [Act.put, sA, sZ, sS]
            refine tkN 22 99 rfl hHeld ?_
            simp only [Act.put, sA, sZ, sS]
            refine tkN 23 100 rfl hHeld ?_
            simp only [Act.put, sA, sZ, sS]
            refine tkN 24 101 rfl hHeld ?_
            simp only [Act.put, sA, sZ, sS]
            refine tkN 25 102 rfl hHeld ?_
            simp only [Act.put, sA, sZ, sS]
            refine tkN 26 103 rfl hHeld ?_
            simp only [Act.put, sA, sZ, sS]
            refine tkN 27 104 rfl hHeld ?_
            simp only [Act.put, sA, sZ, sS]
            refine tkN 28 105 rfl hHeld ?_
            simp only [Act.put, sA, sZ, sS]
            refine tkN 29 106 rfl hHeld ?_
            simp only [Act.put, sA, sZ, sS]
            refine tkN 30 107 rfl hHeld ?_
            simp only [Act.put, sA, sZ, sS]
            refine tkN 31 108 rfl hHeld ?_
            simp only [Act.put, sA, sZ, sS]
            refine tkN 32 109 rfl hHeld ?_
            simp only [Act.put, sA, sZ, sS]
            refine tkN 33 110 rfl hHeld ?_
            simp only [Act.put, sA, sZ, sS]
            refine tkN 34 111 rfl hHeld ?_
            simp only [Act.put, sA, sZ, sS]
            refine tk 35 112 (.bool false) rfl hHeld ?_
            simp only [Act.put, sA, sZ, sS]
            refine tk 36 113 (.bool false) rfl hHeld ?_
            simp only [Act.put, sA, sZ, sS]
            refine tk 37 114 (.bool false) rfl hHeld ?_
            simp only [Act.put, sA, sZ, sS]
            refine tk 38 115 (.int .i64 1) rfl hHeld ?_
            simp only [Act.put, sA, sZ, sS]
            refine tk 39 116 (.bool true) rfl hHeld ?_
            simp only [Act.put, sA, sZ, sS]
            refine tk 40 117 (.bool true) rfl hHeld ?_
            simp only [Act.put, sA, sZ, sS]
            refine tk 41 118 (.bool false) rfl hHeld ?_
            simp only [Act.put, sA, sZ, sS]
            refine tk 42 119 (.bool false) rfl hHeld ?_
            simp only [Act.put, sA, sZ, sS]
            refine tk 43 120 (.bool false) rfl hHeld ?_
            simp only [Act.put, sA, sZ, sS]
            refine tk 44 121 (.bool false) rfl hHeld ?_
            simp only [Act.put, sA, sZ, sS]
            refine tk 45 122 (.pointer (some ⟨g, 0, none⟩)) rfl hHeld ?_
            simp only [Act.put, sA, sZ, sS]
            refine tk 47 124 (.int .u8 (num : Int)) rfl hHeld ?_
            simp only [Act.put, sA, sZ, sS]
            have hcl := Tj.out.len HS.out
            obtain ⟨ml, hml⟩ : ∃ n, mm.length = n := ⟨_, rfl⟩
            have hmr : ¬ RR < ml := by have h := HRU.out.fits; omega
            have hms : ¬ (RR : Int) < (ml : Int) := by omega
            rw [hml] at hcl
            have HCL := Lib.hid hcl
            clear hcl hml
            refine wpAnyH_ready (rs := [46]) (by kernel_rfl) (by simp) (AllReadyH.cons (o := ⟨some 123, _, _, _, _, _⟩) rfl (fun K hK => ?_) AllReadyH.nil)
            go_simp
            refine HCL.out.mono ?_
            rintro e wk ⟨rfl, fq, hT, hkp, hs⟩
            have TV := Lib.hid hT
            have LV := Lib.hid (Lj.out.left hkp hs)
            have GV := Lib.hid (Gj.out.left hkp hs)
            have Hk := Lib.hid (Hj.out.left hkp hs)
            clear hT hkp hs Tj Lj Gj Hj HCL
            refine hK.out _ _ (⟨TV.out.bel, out_at Hk.out⟩) (fun hHeld => ?_)
            clear hK K 
            refine wpAnyH_ready (rs := [48]) (by kernel_rfl) (by simp) (AllReadyH.cons (o := ⟨some 125, _, _, _, _, _⟩) rfl (fun K hK => ?_) AllReadyH.nil)
            go_simp
            refine (HRM.out _).mono ?_
            rintro e wq ⟨rfl, hq⟩
            subst hq
            refine hK.out _ _ (hHeld) (fun hHeld => ?_)
            clear hK K 
            refine tk 49 126 (.bool false) rfl hHeld ?_
            simp only [Act.put, sA, sZ, sS]
            refine tk 50 127 (.bool false) rfl hHeld ?_
            simp only [Act.put, sA, sZ, sS]
            clear hHeld hmr hms Hk
            refine wpAnyH_done (by kernel_rfl) ?_ _
            go_wp2_with fail
            go_loopw [18] (fun v18 wr => ∃ (k : Nat) (fq : Nat → Prop), k ≤ nw ∧ v18 = .int .i64 (k : Int) ∧ Hid (Tb Rep Y Y.heap.size (.pointer (some ⟨g, 0, none⟩)) RR mm wr fq) ∧ Hid (OutS wr fq BW (.slice Aw nw cw) m) ∧ Hid (Out wr fq wd.heap.size go)) (fun v18 _ => nw - (RowKit.intOf v18).toNat)
            case atStart => exact ⟨0, fq, Nat.zero_le _, rfl, TV, LV, GV⟩
            case round =>
              clear TV LV GV
              obtain ⟨k, fq, hk, rfl, TQ, LQ, GQ⟩ := hrel
              by_cases hlk : k < nw
              · skip
                have h2 : (k : Int) < (nw : Int) := by omega
                have h3 : (0 : Int) ≤ (k : Int) := by omega
                have hk8 : k < 9223372036854775807 := by have := HNW.out; have := HRT.out.fits; have := HQ4.out; omega
                obtain ⟨y, hy⟩ : ∃ y, m[k]? = some y := ⟨_, List.getElem?_eq_getElem (by rw [← HNW.out]; exact hlk)⟩
                obtain ⟨gx, cx, eX, _⟩ := LQ.out.1.form (by rw [← HNW.out]; omega)
                have eA : Aw = some ⟨gx, 0, none⟩ := by cases eX; rfl
                subst eA
                clear eX
                have HYM := Lib.hid (List.mem_of_getElem? hy)
                have HYY := Lib.hid hy
                have HRY := Lib.hid (HRT.out.right y HYM.out)
                obtain ⟨JY, hJY⟩ : ∃ J, (tuL y.k).toArray = J := ⟨_, rfl⟩
                have HJY := Lib.hid hJY
                obtain ⟨OY, hOY⟩ : ∃ O, (fwL y).toArray = O := ⟨_, rfl⟩
                have HOY := Lib.hid hOY
                have HLK := Lib.hid hlk
                clear hy hJY hOY hlk hk
                obtain ⟨z, hz, _, hzy⟩ := put_all HRT.out HQ3.out HLF.out HYM.out
                obtain ⟨q, hq⟩ : ∃ q, fwQ z y = q := ⟨_, rfl⟩
                have HQQ := Lib.hid hq
                have HZZ9 := Lib.hid hz
                have HZY := Lib.hid hzy
                clear hz hzy hq
                have HGV : Hid (getV mm y.k = .tuple #[.agg OY, .bool true]) := Lib.hid (by rw [← HMM.out, getV_some HZZ9.out, (HZY.out.elim id (fun h => by have h2 := h.2; rw [HRF.out] at h2; cases h2) : z = y), fw_c HOY.out])
                as_aux_lemma =>
                  go_upto_region 19 with (first | ((with_reducible show wpList _ _ _ (⟨some 140, _, _, _, _, _⟩ :: _) _ _); refine wpList_loadKeyF (op := ⟨some 140, _, _, _, _, _⟩) _ rfl (by rfl) gx (k * 41) (by rfl) y (outs_at LQ.out HYY.out) JY HJY.out ?_) | ((have hq := TQ.out.get HS.out (right_inT HRY.out)); (rw [key_c HJY.out, HGV.out] at hq); (with_reducible refine hq.mono ?_); clear hq; rintro e wo ⟨rfl, fqo, hT, hkp, hs⟩; have Tr := Lib.hid hT; have Lr := Lib.hid (LQ.out.left hkp hs); have Gr := Lib.hid (GQ.out.left hkp hs); clear hT hkp hs TQ LQ GQ) | ((with_reducible show wpList _ _ _ (⟨none, .store _ (.tmp 19) _, _, _, _, _⟩ :: _) _ _); refine wpList_storeNewG rfl 28 _ _ rfl (by rfl) (fwL y) (by rw [HOY.out]; rfl) (by rw [fwL_len]; rfl) (sizeFwL _) (fwL_one _) ?_; intro wp hb9 hB9 _; have Ts := Lib.hid (Tr.out.below HS.out hB9); have Ls := Lib.hid (Lr.out.below hB9); have Gs := Lib.hid (Gr.out.below hB9); have Zs : Hid (Out wp fqo wo.heap.size y) := Lib.hid ⟨hb9, Tr.out.new_off HS.out (Nat.le_refl _)⟩; clear hb9 hB9 Tr Lr Gr))
                  refine wp_region_held_drew (S := fun W => Below wp.heap.size wp W) (by kernel_rfl) ((Below.refl _ _).drew) (fun hHeld => ?_)
                  refine tk 0 144 (.bool false) rfl hHeld ?_
                  simp only [Act.put, sA, sZ, sS]
                  refine tk 1 145 (.bool false) rfl hHeld ?_
                  simp only [Act.put, sA, sZ, sS]
                  refine tkN 2 146 rfl hHeld ?_
                  simp only [Act.put, sA, sZ, sS]
                  refine tkN 3 147 rfl hHeld ?_
                  simp only [Act.put, sA, sZ, sS]
                  refine tkN 4 148 rfl hHeld ?_
                  simp only [Act.put, sA, sZ, sS]
                  refine tkN 5 149 rfl hHeld ?_
                  simp only [Act.put, sA, sZ, sS]
                  refine tkN 6 150 rfl hHeld ?_
                  simp only [Act.put, sA, sZ, sS]
                  refine tkN 7 151 rfl hHeld ?_
                  simp only [Act.put, sA, sZ, sS]
                  refine tkN 8 152 rfl hHeld ?_
                  simp only [Act.put, sA, sZ, sS]
                  refine tkN 9 153 rfl hHeld ?_
                  simp only [Act.put, sA, sZ, sS]
                  refine tk 10 154 (.bool false) rfl hHeld ?_
                  simp only [Act.put, sA, sZ, sS]
                  refine tk 11 21 (.bool false) rfl hHeld ?_
                  simp only [Act.put, sA, sZ, sS]
                  have Tt := Lib.hid (Ts.out.below HS.out hHeld)
                  have Lt := Lib.hid (Ls.out.below hHeld)
                  have Gt := Lib.hid (Gs.out.below hHeld)
                  have Zt := Lib.hid (Zs.out.below hHeld)
                  clear hHeld Ts Ls Gs Zs
                  refine wpAnyH_done (by kernel_rfl) ?_ _
                  go_upto_region 20 with (fail)
                  refine wp_region_held_drew (S := fun W => (∃ fq, Hid (Tb Rep Y Y.heap.size (.pointer (some ⟨g, 0, none⟩)) RR mm W fq) ∧ Hid (OutS W fq BW (.slice (some ⟨gx, 0, none⟩) nw cw) m) ∧ Hid (Out W fq wd.heap.size go) ∧ Hid (Out W fq wo.heap.size y))) (by kernel_rfl) (⟨fqo, Lib.hid (Tt.out.drew HS.out), Lib.hid (show OutS _ fqo BW (.slice (some ⟨gx, 0, none⟩) nw cw) m from Lt.out), Lib.hid (show Out _ fqo wd.heap.size go from Gt.out), Lib.hid (show Out _ fqo wo.heap.size y from Zt.out)⟩) (fun hHeld => ?_)
                  clear Tt Lt Gt Zt
                  refine tk 0 155 (.bool false) rfl hHeld ?_
                  simp only [Act.put, sA, sZ, sS]
                  refine tk 1 156 (.bool true) rfl hHeld ?_
                  simp only [Act.put, sA, sZ, sS]
                  refine tk 2 157 (.bool false) rfl hHeld ?_
                  simp only [Act.put, sA, sZ, sS]
                  refine tk 3 158 (.bool false) rfl hHeld ?_
                  simp only [Act.put, sA, sZ, sS]
                  refine tk 4 159 (.bool false) rfl hHeld ?_
                  simp only [Act.put, sA, sZ, sS]
                  refine tk 5 160 (.bool false) rfl hHeld ?_
                  simp only [Act.put, sA, sZ, sS]
                  refine tkN 6 161 rfl hHeld ?_
                  simp only [Act.put, sA, sZ, sS]
                  refine tkN 7 162 rfl hHeld ?_
                  simp only [Act.put, sA, sZ, sS]
                  refine tkN 8 163 rfl hHeld ?_
                  simp only [Act.put, sA, sZ, sS]
                  refine tkN 9 164 rfl hHeld ?_
                  simp only [Act.put, sA, sZ, sS]
                  refine tkN 10 165 rfl hHeld ?_
                  simp only [Act.put, sA, sZ, sS]
                  refine tkN 11 166 rfl hHeld ?_
                  simp only [Act.put, sA, sZ, sS]
                  refine tk 12 167 (.bool false) rfl hHeld ?_
                  simp only [Act.put, sA, sZ, sS]
                  refine tk 13 168 (.bool false) rfl hHeld ?_
                  simp only [Act.put, sA, sZ, sS]
                  refine tk 14 169 (.bool false) rfl hHeld ?_
                  simp only [Act.put, sA, sZ, sS]
                  refine tk 15 170 (.bool true) rfl hHeld ?_
                  simp only [Act.put, sA, sZ, sS]
                  refine tk 16 171 (.bool true) rfl hHeld ?_
                  simp only [Act.put, sA, sZ, sS]
                  refine tkY 17 172 (.agg OY) rfl (yields_loadFw (by rfl) _ rfl wo.heap.size 0 (by rfl) y (fun W hW => by obtain ⟨_, _, _, _, hz⟩ := hW; exact out_at hz.out) OY HOY.out) hHeld ?_
                  simp only [Act.put, sA, sZ, sS]
                  refine tk 18 173 (.slice (some ⟨gx, 0, none⟩) nw cw) rfl hHeld ?_
                  simp only [Act.put, sA, sZ, sS]
                  refine tk 19 174 (.int .i64 (k : Int)) rfl hHeld ?_
                  simp only [Act.put, sA, sZ, sS]
                  refine tk 20 175 (.pointer (some ⟨gx, k * 41, none⟩)) rfl hHeld ?_
                  simp only [Act.put, sA, sZ, sS]
                  refine tkY 21 176 (.agg OY) rfl (yields_loadFw (by rfl) _ rfl gx (k * 41) (by rfl) y (fun W hW => by obtain ⟨_, _, hl, _, _⟩ := hW; exact outs_at hl.out HYY.out) OY HOY.out) hHeld ?_
                  simp only [Act.put, sA, sZ, sS]
                  refine tkY 22 177 (.bool false) rfl (yields_cmpS (by rfl) .neq 28 _ _ _ rfl OY OY (by rfl) (by rfl) guard_fw false (fun W => by have h := ne_fws HOY.out HOY.out W; rwa [fwQ_self] at h)) hHeld ?_
                  simp only [Act.put, sA, sZ, sS]
                  refine tk 23 178 (.bool false) rfl hHeld ?_
                  simp only [Act.put, sA, sZ, sS]
                  refine tk 24 179 (.bool false) rfl hHeld ?_
                  simp only [Act.put, sA, sZ, sS]
                  refine tkN 25 180 rfl hHeld ?_
                  simp only [Act.put, sA, sZ, sS]
                  refine tkN 26 181 rfl hHeld ?_
                  simp only [Act.put, sA, sZ, sS]
                  refine tkN 27 182 rfl hHeld ?_
                  simp only [Act.put, sA, sZ, sS]
                  refine tkN 28 183 rfl hHeld ?_
                  simp only [Act.put, sA, sZ, sS]
                  refine tkN 29 184 rfl hHeld ?_
                  simp only [Act.put, sA, sZ, sS]
                  refine tkN 30 185 rfl hHeld ?_
                  simp only [Act.put, sA, sZ, sS]
                  refine tkN 31 186 rfl hHeld ?_
                  simp only [Act.put, sA, sZ, sS]
                  refine tkN 32 187 rfl hHeld ?_
                  simp only [Act.put, sA, sZ, sS]
                  refine tkN 33 188 rfl hHeld ?_
                  simp only [Act.put, sA, sZ, sS]
                  refine tkN 34 189 rfl hHeld ?_
                  simp only [Act.put, sA, sZ, sS]
                  refine tkN 35 190 rfl hHeld ?_
                  simp only [Act.put, sA, sZ, sS]
                  refine tkN 36 191 rfl hHeld ?_
                  simp only [Act.put, sA, sZ, sS]
                  refine tkN 37 192 rfl hHeld ?_
                  simp only [Act.put, sA, sZ, sS]
                  refine tkN 38 193 rfl hHeld ?_
                  simp only [Act.put, sA, sZ, sS]
                  refine tkN 39 194 rfl hHeld ?_
                  simp only [Act.put, sA, sZ, sS]
                  refine tk 40 195 (.bool false) rfl hHeld ?_
                  simp only [Act.put, sA, sZ, sS]
                  refine tk 41 196 (.bool false) rfl hHeld ?_
                  simp only [Act.put, sA, sZ, sS]
                  obtain ⟨fqx, a1, a2, a3, _⟩ := hHeld
                  refine wpAnyH_done (by kernel_rfl) ?_ _
                  go_wp2_with fail
                  go_roundw
                  case rel => exact ⟨k + 1, fqx, HLK.out, by have := HLK.out; go_num, a1, a2, a3⟩
                  case measure =>
                    have := HLK.out
                    simp [RowKit.intOf]
                    omega
              · obtain rfl : nw = k := by omega
                have h2 : ¬ (nw : Int) < (nw : Int) := by omega
                clear hlk hk
                go_wp2_with fail
                go_roundw
                case rel => exact ⟨i + 1, fq, mm, HLT.out, by have := HLT.out; go_num, TQ⟩
                case measure =>
                  have := HLT.out
                  simp [RowKit.intOf]
                  omega
        · have HV2 : Hid (getV mm f.k = .tuple #[.agg O, .bool true]) := Lib.hid (by rw [← HMM.out, getV_some (hasK_put_self HRT.out HQ3.out HRF.out), fw_c HO.out])
          cases th
          · obtain ⟨lf, hlf⟩ : ∃ b, lfB RR m f = b := ⟨_, rfl⟩
            have HLF := Lib.hid hlf
            have HPV : Hid (putV RR m f = .tuple #[.agg GO, .bool lf, .int .i64 0]) := Lib.hid (by rw [putV_form, HLF.out, HGO.out, fw_c HGG.out, HRF.out]; rfl)
            have HQE : Hid (∀ {nw : Nat}, nw = m.length → ((nw : Int) == (RR : Int)) = lf) := Lib.hid (fun e => by have h := lfB_new HRT.out HQ3.out HRF.out HTH.out; rw [HLF.out] at h; rw [h, e]; rfl)
            clear hlf
            cases lf
            · skip
              as_aux_lemma =>
                go_upto_region 10 with (((have hq := TT.out.list HS.out); (with_reducible refine hq.mono ?_); clear hq; rintro e wa ⟨Aw, nw, cw, rfl, hna, hca, hma, ho, fpa, hT, hkp, hs, hd⟩; have Ta := Lib.hid hT; have La : Hid (OutS wa fpa BW (.slice Aw nw cw) m) := Lib.hid ⟨by rw [← HBW.out]; exact ho, hd⟩; have HNW := Lib.hid hna; clear hT hkp hs ho hd hna hca hma TT))
                go_upto_region 11 with (first | ((with_reducible show wpList _ _ _ (⟨some 53, _, _, _, _, _⟩ :: _) _ _); refine wpList_loadKeyF (op := ⟨some 53, _, _, _, _, _⟩) _ rfl (by rfl) b (off + i * 41) (by rfl) f (RX.out _ Ta.out.bel) J HJ.out ?_) | ((have hq := Ta.out.get HS.out HIX.out.t); (rw [key_c HJ.out, HV1.out] at hq); (with_reducible refine hq.mono ?_); clear hq; rintro e wb ⟨rfl, fpb, hT, hkp, hs⟩; have Tc := Lib.hid hT; have Lc := Lib.hid (La.out.left hkp hs); clear hT hkp hs Ta La) | ((with_reducible show wpList _ _ _ (⟨none, .store _ (.tmp 11) _, _, _, _, _⟩ :: _) _ _); refine wpList_storeNewG rfl 28 _ _ rfl (by rfl) (fwL z0) (by rw [HZ0.out]; rfl) (by rw [fwL_len]; rfl) (sizeFwL _) (fwL_one _) ?_; intro wc hb9 hB9 _; have Td := Lib.hid (Tc.out.below HS.out hB9); have Ld := Lib.hid (Lc.out.below hB9); clear hb9 hB9 Tc Lc))
                go_upto_region 12 with (first | ((with_reducible show wpList _ _ _ (⟨some 62, _, _, _, _, _⟩ :: _) _ _); refine wpList_loadFw (op := ⟨some 62, _, _, _, _, _⟩) _ rfl (by rfl) b (off + i * 41) (by rfl) f (RX.out _ Td.out.bel) O HO.out ?_) | ((have hq := Td.out.put HS.out HIX.out); (rw [fw_c HO.out, HPV.out, HMM.out] at hq); (with_reducible refine hq.mono ?_); clear hq; rintro e wd ⟨rfl, fpd, hT, hkp, hs⟩; have Te := Lib.hid hT; have Le := Lib.hid (Ld.out.left hkp hs); clear hT hkp hs Td Ld) | ((with_reducible show wpList _ _ _ (⟨none, .store _ (.tmp 13) _, _, _, _, _⟩ :: _) _ _); refine wpList_storeNewG rfl 28 _ _ rfl (by rfl) (fwL go) (by rw [HGG.out]; rfl) (by rw [fwL_len]; rfl) (sizeFwL _) (fwL_one _) ?_; intro we hb9 hB9 _; have Tf := Lib.hid (Te.out.below HS.out hB9); have Lf := Lib.hid (Le.out.below hB9); have Gf : Hid (Out we fpd wd.heap.size go) := Lib.hid ⟨hb9, Te.out.new_off HS.out (Nat.le_refl _)⟩; clear hb9 hB9 Te Le))
                go_upto_region 13 with (first | ((with_reducible show wpList _ _ _ (⟨some 73, _, _, _, _, _⟩ :: _) _ _); refine wpList_loadKeyF (op := ⟨some 73, _, _, _, _, _⟩) _ rfl (by rfl) b (off + i * 41) (by rfl) f (RX.out _ Tf.out.bel) J HJ.out ?_) | ((have hq := Tf.out.get HS.out HIX.out.t); (rw [key_c HJ.out, HV2.out] at hq); (with_reducible refine hq.mono ?_); clear hq; rintro e wh ⟨rfl, fph, hT, hkp, hs⟩; have Tg := Lib.hid hT; have Lg := Lib.hid (Lf.out.left hkp hs); have Gg := Lib.hid (Gf.out.left hkp hs); clear hT hkp hs Tf Lf Gf) | ((with_reducible show wpList _ _ _ (⟨none, .store _ (.tmp 16) _, _, _, _, _⟩ :: _) _ _); refine wpList_storeNewG rfl 28 _ _ rfl (by rfl) (fwL f) (by rw [HO.out]; rfl) (by rw [fwL_len]; rfl) (sizeFwL _) (fwL_one _) ?_; intro wg hb9 hB9 _; have Th := Lib.hid (Tg.out.below HS.out hB9); have Lh := Lib.hid (Lg.out.below hB9); have Gh := Lib.hid (Gg.out.below hB9); have Hh : Hid (Out wg fph wh.heap.size f) := Lib.hid ⟨hb9, Tg.out.new_off HS.out (Nat.le_refl _)⟩; clear hb9 hB9 Tg Lg Gg))
                refine wp_region_held_drew (S := fun W => Below Y.heap.size Y W ∧ W.rangeAt wh.heap.size 0 (fwL f)) (by kernel_rfl) (⟨Th.out.bel.drew, out_at Hh.out⟩) (fun hHeld => ?_)
                have Ti := Lib.hid (Th.out.drew HS.out)
                have Li : Hid (OutS wg.drew fph BW (.slice Aw nw cw) m) := Lib.hid (show OutS wg.drew fph BW (.slice Aw nw cw) m from Lh.out)
                have Gi : Hid (Out wg.drew fph wd.heap.size go) := Lib.hid (show Out wg.drew fph wd.heap.size go from Gh.out)
                have Hi : Hid (Out wg.drew fph wh.heap.size f) := Lib.hid (show Out wg.drew fph wh.heap.size f from Hh.out)
                clear Th Lh Gh Hh
                generalize wg.drew = wi at *
                refine tk 0 77 (.int .i64 0) rfl hHeld ?_
                simp only [Act.put, sA, sZ, sS]
                refine tk 1 78 (.bool true) rfl hHeld ?_
                simp only [Act.put, sA, sZ, sS]
                refine tk 2 79 (.slice (some ⟨b, off, none⟩) len cap) rfl hHeld ?_
                simp only [Act.put, sA, sZ, sS]
                refine tk 3 80 (.int .i64 (i : Int)) rfl hHeld ?_
                simp only [Act.put, sA, sZ, sS]
                refine tk 4 81 (.pointer (some ⟨b, off + i * 41, none⟩)) rfl hHeld ?_
                simp only [Act.put, sA, sZ, sS]
                refine tkY 5 82 (.agg O) rfl (yields_loadFw (by rfl) _ rfl b (off + i * 41) (by rfl) f (fun W hW => RX.out W hW.1) O HO.out) hHeld ?_
                simp only [Act.put, sA, sZ, sS]
                refine wpAnyH_ready (rs := [6]) (by kernel_rfl) (by simp) (AllReadyH.cons (o := ⟨some 83, _, _, _, _, _⟩) rfl (fun K hK => ?_) AllReadyH.nil)
                go_simp
                refine (HRG.out _).mono ?_
                rintro e wj ⟨rfl, hq⟩
                have Tj := Lib.hid (Ti.out.below HS.out hq)
                have Lj := Lib.hid (Li.out.below hq)
                have Gj := Lib.hid (Gi.out.below hq)
                have Hj := Lib.hid (Hi.out.below hq)
                clear hq Ti Li Gi Hi
                refine hK.out _ _ (⟨Tj.out.bel, out_at Hj.out⟩) (fun hHeld => ?_)
                clear hK K 
                refine tk 7 84 (.bool false) rfl hHeld ?_
                simp only [Act.put, sA, sZ, sS]
                refine tk 8 85 (.bool false) rfl hHeld ?_
                simp only [Act.put, sA, sZ, sS]
                refine tk 9 86 (.int .i64 0) rfl hHeld ?_
                simp only [Act.put, sA, sZ, sS]
                refine tk 10 87 (.bool true) rfl hHeld ?_
                simp only [Act.put, sA, sZ, sS]
                refine tk 11 88 (.bool true) rfl hHeld ?_
                simp only [Act.put, sA, sZ, sS]
                refine tk 12 89 (.bool true) rfl hHeld ?_
                simp only [Act.put, sA, sZ, sS]
                refine tk 13 90 (.bool false) rfl hHeld ?_
                simp only [Act.put, sA, sZ, sS]
                refine tk 14 91 (.bool false) rfl hHeld ?_
                simp only [Act.put, sA, sZ, sS]
                refine tkY 15 92 (.agg O) rfl (yields_loadFw (by rfl) _ rfl _ 0 (by rfl) f (fun W hW => hW.2) O HO.out) hHeld ?_
                simp only [Act.put, sA, sZ, sS]
                refine tk 16 93 (.slice (some ⟨b, off, none⟩) len cap) rfl hHeld ?_
                simp only [Act.put, sA, sZ, sS]
                refine tk 17 94 (.int .i64 (i : Int)) rfl hHeld ?_
                simp only [Act.put, sA, sZ, sS]
                refine tk 18 95 (.pointer (some ⟨b, off + i * 41, none⟩)) rfl hHeld ?_
                simp only [Act.put, sA, sZ, sS]
                refine tkY 19 96 (.agg O) rfl (yields_loadFw (by rfl) _ rfl b (off + i * 41) (by rfl) f (fun W hW => RX.out W hW.1) O HO.out) hHeld ?_
                simp only [Act.put, sA, sZ, sS]
                refine tkY 20 97 (.bool false) rfl (yields_cmpS (by rfl) .neq 28 _ _ _ rfl O O (by rfl) (by rfl) guard_fw false (fun W => by have h := ne_fws HO.out HO.out W; rwa [fwQ_self] at h)) hHeld ?_
                simp only [Act.put, sA, sZ, sS]
                refine tk 21 98 (.bool false) rfl hHeld ?_
                simp only [Act.put, sA, sZ, sS]
                refine tk 22 99 (.bool false) rfl hHeld ?_
                simp only [Act.put, sA, sZ, sS]
                refine tk 23 100 (.bool false) rfl hHeld ?_
                simp only [Act.put, sA, sZ, sS]
                refine tk 24 101 (.bool false) rfl hHeld ?_
                simp only [Act.put, sA, sZ, sS]
                refine tk 25 102 (.bool true) rfl hHeld ?_
                simp only [Act.put, sA, sZ, sS]
                refine tk 26 103 (.bool true) rfl hHeld ?_
                simp only [Act.put, sA, sZ, sS]
                refine tk 27 104 (.slice Aw nw cw) rfl hHeld ?_
                simp only [Act.put, sA, sZ, sS]
                refine tk 28 105 (.int .i64 (nw : Int)) rfl hHeld ?_
                simp only [Act.put, sA, sZ, sS]
                refine tk 29 106 (.int .u8 (num : Int)) rfl hHeld ?_
                simp only [Act.put, sA, sZ, sS]
                refine wpAnyH_ready (rs := [30]) (by kernel_rfl) (by simp) (AllReadyH.cons (o := ⟨some 107, _, _, _, _, _⟩) rfl (fun K hK => ?_) AllReadyH.nil)
                go_simp
                refine (HRM.out _).mono ?_
                rintro e wq ⟨rfl, hq⟩
                subst hq
                refine hK.out _ _ (hHeld) (fun hHeld => ?_)
                clear hK K 
                have qe := HQE.out HNW.out
                have qf := nat_beq qe
                refine tk 31 108 (.bool false) rfl hHeld ?_
                simp only [Act.put, sA, sZ, sS]
                refine tk 32 109 (.bool false) rfl hHeld ?_
                simp only [Act.put, sA, sZ, sS]
                refine tk 33 110 (.bool false) rfl hHeld ?_
                simp only [Act.put, sA, sZ, sS]
                refine tk 34 111 (.bool false) rfl hHeld ?_
                simp only [Act.put, sA, sZ, sS]
                refine tk 35 112 (.bool false) rfl hHeld ?_
                simp only [Act.put, sA, sZ, sS]
                refine tk 36 113 (.bool false) rfl hHeld ?_
                simp only [Act.put, sA, sZ, sS]
                refine tk 37 114 (.bool false) rfl hHeld ?_
                simp only [Act.put, sA, sZ, sS]
                refine tk 38 115 (.int .i64 0) rfl hHeld ?_
                simp only [Act.put, sA, sZ, sS]
                refine tk 39 116 (.bool false) rfl hHeld ?_
                simp only [Act.put, sA, sZ, sS]
                refine tk 40 117 (.bool false) rfl hHeld ?_
                simp only [Act.put, sA, sZ, sS]
                refine tkN 41 118 rfl hHeld ?_
                simp only [Act.put, sA, sZ, sS]
                refine tk 42 119 (.bool false) rfl hHeld ?_
                simp only [Act.put, sA, sZ, sS]
                refine tk 43 120 (.bool false) rfl hHeld ?_
                simp only [Act.put, sA, sZ, sS]
                refine tk 44 121 (.bool false) rfl hHeld ?_
                simp only [Act.put, sA, sZ, sS]
                refine tk 45 122 (.pointer (some ⟨g, 0, none⟩)) rfl hHeld ?_
                simp only [Act.put, sA, sZ, sS]
                refine tk 47 124 (.int .u8 (num : Int)) rfl hHeld ?_
                simp only [Act.put, sA, sZ, sS]
                have hcl := Tj.out.len HS.out
                obtain ⟨ml, hml⟩ : ∃ n, mm.length = n := ⟨_, rfl⟩
                have hmr : ¬ RR < ml := by have h := HRU.out.fits; omega
                have hms : ¬ (RR : Int) < (ml : Int) := by omega
                rw [hml] at hcl
                have HCL := Lib.hid hcl
                clear hcl hml
                refine wpAnyH_ready (rs := [46]) (by kernel_rfl) (by simp) (AllReadyH.cons (o := ⟨some 123, _, _, _, _, _⟩) rfl (fun K hK => ?_) AllReadyH.nil)
                go_simp
                refine HCL.out.mono ?_
                rintro e wk ⟨rfl, fq, hT, hkp, hs⟩
                have TV := Lib.hid hT
                have LV := Lib.hid (Lj.out.left hkp hs)
                have GV := Lib.hid (Gj.out.left hkp hs)
                have Hk := Lib.hid (Hj.out.left hkp hs)
                clear hT hkp hs Tj Lj Gj Hj HCL
                refine hK.out _ _ (⟨TV.out.bel, out_at Hk.out⟩) (fun hHeld => ?_)
                clear hK K 
                refine wpAnyH_ready (rs := [48]) (by kernel_rfl) (by simp) (AllReadyH.cons (o := ⟨some 125, _, _, _, _, _⟩) rfl (fun K hK => ?_) AllReadyH.nil)
                go_simp
                refine (HRM.out _).mono ?_
                rintro e wq ⟨rfl, hq⟩
                subst hq
                refine hK.out _ _ (hHeld) (fun hHeld => ?_)
                clear hK K 
                refine tk 49 126 (.bool false) rfl hHeld ?_
                simp only [Act.put, sA, sZ, sS]
                refine tk 50 127 (.bool false) rfl hHeld ?_
                simp only [Act.put, sA, sZ, sS]
                clear hHeld hmr hms Hk
                refine wpAnyH_done (by kernel_rfl) ?_ _
                go_wp2_with fail
                go_loopw [18] (fun v18 wr => ∃ (k : Nat) (fq : Nat → Prop), k ≤ nw ∧ v18 = .int .i64 (k : Int) ∧ Hid (Tb Rep Y Y.heap.size (.pointer (some ⟨g, 0, none⟩)) RR mm wr fq) ∧ Hid (OutS wr fq BW (.slice Aw nw cw) m) ∧ Hid (Out wr fq wd.heap.size go)) (fun v18 _ => nw - (RowKit.intOf v18).toNat)
                case atStart => exact ⟨0, fq, Nat.zero_le _, rfl, TV, LV, GV⟩
                case round =>
                  clear TV LV GV
                  obtain ⟨k, fq, hk, rfl, TQ, LQ, GQ⟩ := hrel
                  by_cases hlk : k < nw
                  · skip
                    have h2 : (k : Int) < (nw : Int) := by omega
                    have h3 : (0 : Int) ≤ (k : Int) := by omega
                    have hk8 : k < 9223372036854775807 := by have := HNW.out; have := HRT.out.fits; have := HQ4.out; omega
                    obtain ⟨y, hy⟩ : ∃ y, m[k]? = some y := ⟨_, List.getElem?_eq_getElem (by rw [← HNW.out]; exact hlk)⟩
                    obtain ⟨gx, cx, eX, _⟩ := LQ.out.1.form (by rw [← HNW.out]; omega)
                    have eA : Aw = some ⟨gx, 0, none⟩ := by cases eX; rfl
                    subst eA
                    clear eX
                    have HYM := Lib.hid (List.mem_of_getElem? hy)
                    have HYY := Lib.hid hy
                    have HRY := Lib.hid (HRT.out.right y HYM.out)
                    obtain ⟨JY, hJY⟩ : ∃ J, (tuL y.k).toArray = J := ⟨_, rfl⟩
                    have HJY := Lib.hid hJY
                    obtain ⟨OY, hOY⟩ : ∃ O, (fwL y).toArray = O := ⟨_, rfl⟩
                    have HOY := Lib.hid hOY
                    have HLK := Lib.hid hlk
                    clear hy hJY hOY hlk hk
                    obtain ⟨z, hz, _, hzy⟩ := put_all HRT.out HQ3.out HLF.out HYM.out
                    obtain ⟨q, hq⟩ : ∃ q, fwQ z y = q := ⟨_, rfl⟩
                    have HQQ := Lib.hid hq
                    have HZZ9 := Lib.hid hz
                    have HZY := Lib.hid hzy
                    clear hz hzy hq
                    cases q
                    · have HPP : Hid (tuQ y.k f.k = true) := Lib.hid (HZY.out.elim (fun e => by have h := HQQ.out; rw [e, fwQ_self] at h; cases h) (fun h => h.1))
                      obtain ⟨OZ, hOZ⟩ : ∃ O, (fwL z).toArray = O := ⟨_, rfl⟩
                      have HOZ := Lib.hid hOZ
                      clear hOZ
                      have HGV : Hid (getV mm y.k = .tuple #[.agg OZ, .bool true]) := Lib.hid (by rw [← HMM.out, getV_some HZZ9.out, fw_c HOZ.out])
                      as_aux_lemma =>
                        go_upto_region 19 with (first | ((with_reducible show wpList _ _ _ (⟨some 140, _, _, _, _, _⟩ :: _) _ _); refine wpList_loadKeyF (op := ⟨some 140, _, _, _, _, _⟩) _ rfl (by rfl) gx (k * 41) (by rfl) y (outs_at LQ.out HYY.out) JY HJY.out ?_) | ((have hq := TQ.out.get HS.out (right_inT HRY.out)); (rw [key_c HJY.out, HGV.out] at hq); (with_reducible refine hq.mono ?_); clear hq; rintro e wo ⟨rfl, fqo, hT, hkp, hs⟩; have Tr := Lib.hid hT; have Lr := Lib.hid (LQ.out.left hkp hs); have Gr := Lib.hid (GQ.out.left hkp hs); clear hT hkp hs TQ LQ GQ) | ((with_reducible show wpList _ _ _ (⟨none, .store _ (.tmp 19) _, _, _, _, _⟩ :: _) _ _); refine wpList_storeNewG rfl 28 _ _ rfl (by rfl) (fwL z) (by rw [HOZ.out]; rfl) (by rw [fwL_len]; rfl) (sizeFwL _) (fwL_one _) ?_; intro wp hb9 hB9 _; have Ts := Lib.hid (Tr.out.below HS.out hB9); have Ls := Lib.hid (Lr.out.below hB9); have Gs := Lib.hid (Gr.out.below hB9); have Zs : Hid (Out wp fqo wo.heap.size z) := Lib.hid ⟨hb9, Tr.out.new_off HS.out (Nat.le_refl _)⟩; clear hb9 hB9 Tr Lr Gr))
                        refine wp_region_held_drew (S := fun W => Below wp.heap.size wp W) (by kernel_rfl) ((Below.refl _ _).drew) (fun hHeld => ?_)
                        refine tk 0 144 (.bool false) rfl hHeld ?_
                        simp only [Act.put, sA, sZ, sS]
                        refine tk 1 145 (.bool false) rfl hHeld ?_
                        simp only [Act.put, sA, sZ, sS]
                        refine tkN 2 146 rfl hHeld ?_
                        simp only [Act.put, sA, sZ, sS]
                        refine tkN 3 147 rfl hHeld ?_
                        simp only [Act.put, sA, sZ, sS]
                        refine tkN 4 148 rfl hHeld ?_
                        simp only [Act.put, sA, sZ, sS]
                        refine tkN 5 149 rfl hHeld ?_
                        simp only [Act.put, sA, sZ, sS]
                        refine tkN 6 150 rfl hHeld ?_
                        simp only [Act.put, sA, sZ, sS]
                        refine tkN 7 151 rfl hHeld ?_
                        simp only [Act.put, sA, sZ, sS]
                        refine tkN 8 152 rfl hHeld ?_
                        simp only [Act.put, sA, sZ, sS]
                        refine tkN 9 153 rfl hHeld ?_
                        simp only [Act.put, sA, sZ, sS]
                        refine tk 10 154 (.bool false) rfl hHeld ?_
                        simp only [Act.put, sA, sZ, sS]
                        refine tk 11 21 (.bool false) rfl hHeld ?_
                        simp only [Act.put, sA, sZ, sS]
                        have Tt := Lib.hid (Ts.out.below HS.out hHeld)
                        have Lt := Lib.hid (Ls.out.below hHeld)
                        have Gt := Lib.hid (Gs.out.below hHeld)
                        have Zt := Lib.hid (Zs.out.below hHeld)
                        clear hHeld Ts Ls Gs Zs
                        refine wpAnyH_done (by kernel_rfl) ?_ _
                        go_upto_region 20 with (fail)
                        refine wp_region_held_drew (S := fun W => (∃ fq, Hid (Tb Rep Y Y.heap.size (.pointer (some ⟨g, 0, none⟩)) RR mm W fq) ∧ Hid (OutS W fq BW (.slice (some ⟨gx, 0, none⟩) nw cw) m) ∧ Hid (Out W fq wd.heap.size go) ∧ Hid (Out W fq wo.heap.size z))) (by kernel_rfl) (⟨fqo, Lib.hid (Tt.out.drew HS.out), Lib.hid (show OutS _ fqo BW (.slice (some ⟨gx, 0, none⟩) nw cw) m from Lt.out), Lib.hid (show Out _ fqo wd.heap.size go from Gt.out), Lib.hid (show Out _ fqo wo.heap.size z from Zt.out)⟩) (fun hHeld => ?_)
                        clear Tt Lt Gt Zt
                        refine tk 0 155 (.bool false) rfl hHeld ?_
                        simp only [Act.put, sA, sZ, sS]
                        refine tk 1 156 (.bool true) rfl hHeld ?_
                        simp only [Act.put, sA, sZ, sS]
                        refine tk 2 157 (.bool false) rfl hHeld ?_
                        simp only [Act.put, sA, sZ, sS]
                        refine tk 3 158 (.bool false) rfl hHeld ?_
                        simp only [Act.put, sA, sZ, sS]
                        refine tk 4 159 (.bool false) rfl hHeld ?_
                        simp only [Act.put, sA, sZ, sS]
                        refine tk 5 160 (.bool false) rfl hHeld ?_
                        simp only [Act.put, sA, sZ, sS]
                        refine tkN 6 161 rfl hHeld ?_
                        simp only [Act.put, sA, sZ, sS]
                        refine tkN 7 162 rfl hHeld ?_
                        simp only [Act.put, sA, sZ, sS]
                        refine tkN 8 163 rfl hHeld ?_
                        simp only [Act.put, sA, sZ, sS]
                        refine tkN 9 164 rfl hHeld ?_
                        simp only [Act.put, sA, sZ, sS]
                        refine tkN 10 165 rfl hHeld ?_
                        simp only [Act.put, sA, sZ, sS]
                        refine tkN 11 166 rfl hHeld ?_
                        simp only [Act.put, sA, sZ, sS]
                        refine tk 12 167 (.bool false) rfl hHeld ?_
                        simp only [Act.put, sA, sZ, sS]
                        refine tk 13 168 (.bool false) rfl hHeld ?_
                        simp only [Act.put, sA, sZ, sS]
                        refine tk 14 169 (.bool false) rfl hHeld ?_
                        simp only [Act.put, sA, sZ, sS]
                        refine tk 15 170 (.bool true) rfl hHeld ?_
                        simp only [Act.put, sA, sZ, sS]
                        refine tk 16 171 (.bool true) rfl hHeld ?_
                        simp only [Act.put, sA, sZ, sS]
                        refine tkY 17 172 (.agg OZ) rfl (yields_loadFw (by rfl) _ rfl wo.heap.size 0 (by rfl) z (fun W hW => by obtain ⟨_, _, _, _, hz⟩ := hW; exact out_at hz.out) OZ HOZ.out) hHeld ?_
                        simp only [Act.put, sA, sZ, sS]
                        refine tk 18 173 (.slice (some ⟨gx, 0, none⟩) nw cw) rfl hHeld ?_
                        simp only [Act.put, sA, sZ, sS]
                        refine tk 19 174 (.int .i64 (k : Int)) rfl hHeld ?_
                        simp only [Act.put, sA, sZ, sS]
                        refine tk 20 175 (.pointer (some ⟨gx, k * 41, none⟩)) rfl hHeld ?_
                        simp only [Act.put, sA, sZ, sS]
                        refine tkY 21 176 (.agg OY) rfl (yields_loadFw (by rfl) _ rfl gx (k * 41) (by rfl) y (fun W hW => by obtain ⟨_, _, hl, _, _⟩ := hW; exact outs_at hl.out HYY.out) OY HOY.out) hHeld ?_
                        simp only [Act.put, sA, sZ, sS]
                        refine tkY 22 177 (.bool true) rfl (yields_cmpS (by rfl) .neq 28 _ _ _ rfl OZ OY (by rfl) (by rfl) guard_fw true (fun W => by have h := ne_fws HOZ.out HOY.out W; rwa [HQQ.out] at h)) hHeld ?_
                        simp only [Act.put, sA, sZ, sS]
                        refine tk 23 178 (.bool true) rfl hHeld ?_
                        simp only [Act.put, sA, sZ, sS]
                        refine tk 24 179 (.bool true) rfl hHeld ?_
                        simp only [Act.put, sA, sZ, sS]
                        refine tk 25 180 (.slice (some ⟨gx, 0, none⟩) nw cw) rfl hHeld ?_
                        simp only [Act.put, sA, sZ, sS]
                        refine tk 26 181 (.int .i64 (k : Int)) rfl hHeld ?_
                        simp only [Act.put, sA, sZ, sS]
                        refine tk 27 182 (.pointer (some ⟨gx, k * 41, none⟩)) rfl hHeld ?_
                        simp only [Act.put, sA, sZ, sS]
                        refine tk 28 183 (.pointer (some ⟨gx, k * 41, none⟩)) rfl hHeld ?_
                        simp only [Act.put, sA, sZ, sS]
                        refine tkY 29 184 (.agg JY) rfl (yields_loadTu (by rfl) _ rfl gx (k * 41) (by rfl) y (fun W hW => by obtain ⟨_, _, hl, _, _⟩ := hW; exact outs_at hl.out HYY.out) JY HJY.out) hHeld ?_
                        simp only [Act.put, sA, sZ, sS]
                        refine tk 30 185 (.slice (some ⟨b, off, none⟩) len cap) rfl hHeld ?_
                        simp only [Act.put, sA, sZ, sS]
                        refine tk 31 186 (.int .i64 (i : Int)) rfl hHeld ?_
                        simp only [Act.put, sA, sZ, sS]
                        refine tk 32 187 (.pointer (some ⟨b, off + i * 41, none⟩)) rfl hHeld ?_
                        simp only [Act.put, sA, sZ, sS]
                        refine tk 33 188 (.pointer (some ⟨b, off + i * 41, none⟩)) rfl hHeld ?_
                        simp only [Act.put, sA, sZ, sS]
                        refine tkY 34 189 (.agg J) rfl (yields_loadTu (by rfl) _ rfl b (off + i * 41) (by rfl) f (fun W hW => by obtain ⟨_, ht, _, _, _⟩ := hW; exact RX.out W ht.out.bel) J HJ.out) hHeld ?_
                        simp only [Act.put, sA, sZ, sS]
                        refine tkY 35 190 (.bool false) rfl (yields_cmpS (by rfl) .neq 26 _ _ _ rfl JY J (by rfl) (by rfl) guard_tu' false (fun W => by have h := ne_keys HJY.out HJ.out W; rwa [HPP.out] at h)) hHeld ?_
                        simp only [Act.put, sA, sZ, sS]
                        refine tk 36 191 (.bool false) rfl hHeld ?_
                        simp only [Act.put, sA, sZ, sS]
                        refine tk 37 192 (.int .i64 0) rfl hHeld ?_
                        simp only [Act.put, sA, sZ, sS]
                        refine tk 38 193 (.bool false) rfl hHeld ?_
                        simp only [Act.put, sA, sZ, sS]
                        refine tk 39 194 (.bool false) rfl hHeld ?_
                        simp only [Act.put, sA, sZ, sS]
                        refine tk 40 195 (.bool false) rfl hHeld ?_
                        simp only [Act.put, sA, sZ, sS]
                        refine tk 41 196 (.bool false) rfl hHeld ?_
                        simp only [Act.put, sA, sZ, sS]
                        obtain ⟨fqx, a1, a2, a3, _⟩ := hHeld
                        refine wpAnyH_done (by kernel_rfl) ?_ _
                        go_wp2_with fail
                        go_roundw
                        case rel => exact ⟨k + 1, fqx, HLK.out, by have := HLK.out; go_num, a1, a2, a3⟩
                        case measure =>
                          have := HLK.out
                          simp [RowKit.intOf]
                          omega
                    · have HGV : Hid (getV mm y.k = .tuple #[.agg OY, .bool true]) := Lib.hid (by rw [← HMM.out, getV_some HZZ9.out, fwQ_eq.1 HQQ.out, fw_c HOY.out])
                      as_aux_lemma =>
                        go_upto_region 19 with (first | ((with_reducible show wpList _ _ _ (⟨some 140, _, _, _, _, _⟩ :: _) _ _); refine wpList_loadKeyF (op := ⟨some 140, _, _, _, _, _⟩) _ rfl (by rfl) gx (k * 41) (by rfl) y (outs_at LQ.out HYY.out) JY HJY.out ?_) | ((have hq := TQ.out.get HS.out (right_inT HRY.out)); (rw [key_c HJY.out, HGV.out] at hq); (with_reducible refine hq.mono ?_); clear hq; rintro e wo ⟨rfl, fqo, hT, hkp, hs⟩; have Tr := Lib.hid hT; have Lr := Lib.hid (LQ.out.left hkp hs); have Gr := Lib.hid (GQ.out.left hkp hs); clear hT hkp hs TQ LQ GQ) | ((with_reducible show wpList _ _ _ (⟨none, .store _ (.tmp 19) _, _, _, _, _⟩ :: _) _ _); refine wpList_storeNewG rfl 28 _ _ rfl (by rfl) (fwL y) (by rw [HOY.out]; rfl) (by rw [fwL_len]; rfl) (sizeFwL _) (fwL_one _) ?_; intro wp hb9 hB9 _; have Ts := Lib.hid (Tr.out.below HS.out hB9); have Ls := Lib.hid (Lr.out.below hB9); have Gs := Lib.hid (Gr.out.below hB9); have Zs : Hid (Out wp fqo wo.heap.size y) := Lib.hid ⟨hb9, Tr.out.new_off HS.out (Nat.le_refl _)⟩; clear hb9 hB9 Tr Lr Gr))
                        refine wp_region_held_drew (S := fun W => Below wp.heap.size wp W) (by kernel_rfl) ((Below.refl _ _).drew) (fun hHeld => ?_)
                        refine tk 0 144 (.bool false) rfl hHeld ?_
                        simp only [Act.put, sA, sZ, sS]
                        refine tk 1 145 (.bool false) rfl hHeld ?_
                        simp only [Act.put, sA, sZ, sS]
                        refine tkN 2 146 rfl hHeld ?_
                        simp only [Act.put, sA, sZ, sS]
                        refine tkN 3 147 rfl hHeld ?_
                        simp only [Act.put, sA, sZ, sS]
                        refine tkN 4 148 rfl hHeld ?_
                        simp only [Act.put, sA, sZ, sS]
                        refine tkN 5 149 rfl hHeld ?_
                        simp only [Act.put, sA, sZ, sS]
                        refine tkN 6 150 rfl hHeld ?_
                        simp only [Act.put, sA, sZ, sS]
                        refine tkN 7 151 rfl hHeld ?_
                        simp only [Act.put, sA, sZ, sS]
                        refine tkN 8 152 rfl hHeld ?_
                        simp only [Act.put, sA, sZ, sS]
                        refine tkN 9 153 rfl hHeld ?_
                        simp only [Act.put, sA, sZ, sS]
                        refine tk 10 154 (.bool false) rfl hHeld ?_
                        simp only [Act.put, sA, sZ, sS]
                        refine tk 11 21 (.bool false) rfl hHeld ?_
                        simp only [Act.put, sA, sZ, sS]
                        have Tt := Lib.hid (Ts.out.below HS.out hHeld)
                        have Lt := Lib.hid (Ls.out.below hHeld)
                        have Gt := Lib.hid (Gs.out.below hHeld)
                        have Zt := Lib.hid (Zs.out.below hHeld)
                        clear hHeld Ts Ls Gs Zs
                        refine wpAnyH_done (by kernel_rfl) ?_ _
                        go_upto_region 20 with (fail)
                        refine wp_region_held_drew (S := fun W => (∃ fq, Hid (Tb Rep Y Y.heap.size (.pointer (some ⟨g, 0, none⟩)) RR mm W fq) ∧ Hid (OutS W fq BW (.slice (some ⟨gx, 0, none⟩) nw cw) m) ∧ Hid (Out W fq wd.heap.size go) ∧ Hid (Out W fq wo.heap.size y))) (by kernel_rfl) (⟨fqo, Lib.hid (Tt.out.drew HS.out), Lib.hid (show OutS _ fqo BW (.slice (some ⟨gx, 0, none⟩) nw cw) m from Lt.out), Lib.hid (show Out _ fqo wd.heap.size go from Gt.out), Lib.hid (show Out _ fqo wo.heap.size y from Zt.out)⟩) (fun hHeld => ?_)
                        clear Tt Lt Gt Zt
                        refine tk 0 155 (.bool false) rfl hHeld ?_
                        simp only [Act.put, sA, sZ, sS]
                        refine tk 1 156 (.bool true) rfl hHeld ?_
                        simp only [Act.put, sA, sZ, sS]
                        refine tk 2 157 (.bool false) rfl hHeld ?_
                        simp only [Act.put, sA, sZ, sS]
                        refine tk 3 158 (.bool false) rfl hHeld ?_
                        simp only [Act.put, sA, sZ, sS]
                        refine tk 4 159 (.bool false) rfl hHeld ?_
                        simp only [Act.put, sA, sZ, sS]
                        refine tk 5 160 (.bool false) rfl hHeld ?_
                        simp only [Act.put, sA, sZ, sS]
                        refine tkN 6 161 rfl hHeld ?_
                        simp only [Act.put, sA, sZ, sS]
                        refine tkN 7 162 rfl hHeld ?_
                        simp only [Act.put, sA, sZ, sS]
                        refine tkN 8 163 rfl hHeld ?_
                        simp only [Act.put, sA, sZ, sS]
                        refine tkN 9 164 rfl hHeld ?_
                        simp only [Act.put, sA, sZ, sS]
                        refine tkN 10 165 rfl hHeld ?_
                        simp only [Act.put, sA, sZ, sS]
                        refine tkN 11 166 rfl hHeld ?_
                        simp only [Act.put, sA, sZ, sS]
                        refine tk 12 167 (.bool false) rfl hHeld ?_
                        simp only [Act.put, sA, sZ, sS]
                        refine tk 13 168 (.bool false) rfl hHeld ?_
                        simp only [Act.put, sA, sZ, sS]
                        refine tk 14 169 (.bool false) rfl hHeld ?_
                        simp only [Act.put, sA, sZ, sS]
                        refine tk 15 170 (.bool true) rfl hHeld ?_
                        simp only [Act.put, sA, sZ, sS]
                        refine tk 16 171 (.bool true) rfl hHeld ?_
                        simp only [Act.put, sA, sZ, sS]
                        refine tkY 17 172 (.agg OY) rfl (yields_loadFw (by rfl) _ rfl wo.heap.size 0 (by rfl) y (fun W hW => by obtain ⟨_, _, _, _, hz⟩ := hW; exact out_at hz.out) OY HOY.out) hHeld ?_
                        simp only [Act.put, sA, sZ, sS]
                        refine tk 18 173 (.slice (some ⟨gx, 0, none⟩) nw cw) rfl hHeld ?_
                        simp only [Act.put, sA, sZ, sS]
                        refine tk 19 174 (.int .i64 (k : Int)) rfl hHeld ?_
                        simp only [Act.put, sA, sZ, sS]
                        refine tk 20 175 (.pointer (some ⟨gx, k * 41, none⟩)) rfl hHeld ?_
                        simp only [Act.put, sA, sZ, sS]
                        refine tkY 21 176 (.agg OY) rfl (yields_loadFw (by rfl) _ rfl gx (k * 41) (by rfl) y (fun W hW => by obtain ⟨_, _, hl, _, _⟩ := hW; exact outs_at hl.out HYY.out) OY HOY.out) hHeld ?_
                        simp only [Act.put, sA, sZ, sS]
                        refine tkY 22 177 (.bool false) rfl (yields_cmpS (by rfl) .neq 28 _ _ _ rfl OY OY (by rfl) (by rfl) guard_fw false (fun W => by have h := ne_fws HOY.out HOY.out W; rwa [fwQ_self] at h)) hHeld ?_
                        simp only [Act.put, sA, sZ, sS]
                        refine tk 23 178 (.bool false) rfl hHeld ?_
                        simp only [Act.put, sA, sZ, sS]
                        refine tk 24 179 (.bool false) rfl hHeld ?_
                        simp only [Act.put, sA, sZ, sS]
                        refine tkN 25 180 rfl hHeld ?_
                        simp only [Act.put, sA, sZ, sS]
                        refine tkN 26 181 rfl hHeld ?_
                        simp only [Act.put, sA, sZ, sS]
                        refine tkN 27 182 rfl hHeld ?_
                        simp only [Act.put, sA, sZ, sS]
                        refine tkN 28 183 rfl hHeld ?_
                        simp only [Act.put, sA, sZ, sS]
                        refine tkN 29 184 rfl hHeld ?_
                        simp only [Act.put, sA, sZ, sS]
                        refine tkN 30 185 rfl hHeld ?_
                        simp only [Act.put, sA, sZ, sS]
                        refine tkN 31 186 rfl hHeld ?_
                        simp only [Act.put, sA, sZ, sS]
                        refine tkN 32 187 rfl hHeld ?_
                        simp only [Act.put, sA, sZ, sS]
                        refine tkN 33 188 rfl hHeld ?_
                        simp only [Act.put, sA, sZ, sS]
                        refine tkN 34 189 rfl hHeld ?_
                        simp only [Act.put, sA, sZ, sS]
                        refine tkN 35 190 rfl hHeld ?_
                        simp only [Act.put, sA, sZ, sS]
                        refine tkN 36 191 rfl hHeld ?_
                        simp only [Act.put, sA, sZ, sS]
                        refine tkN 37 192 rfl hHeld ?_
                        simp only [Act.put, sA, sZ, sS]
                        refine tkN 38 193 rfl hHeld ?_
                        simp only [Act.put, sA, sZ, sS]
                        refine tkN 39 194 rfl hHeld ?_
                        simp only [Act.put, sA, sZ, sS]
                        refine tk 40 195 (.bool false) rfl hHeld ?_
                        simp only [Act.put, sA, sZ, sS]
                        refine tk 41 196 (.bool false) rfl hHeld ?_
                        simp only [Act.put, sA, sZ, sS]
                        obtain ⟨fqx, a1, a2, a3, _⟩ := hHeld
                        refine wpAnyH_done (by kernel_rfl) ?_ _
                        go_wp2_with fail
                        go_roundw
                        case rel => exact ⟨k + 1, fqx, HLK.out, by have := HLK.out; go_num, a1, a2, a3⟩
                        case measure =>
                          have := HLK.out
                          simp [RowKit.intOf]
                          omega
                  · obtain rfl : nw = k := by omega
                    have h2 : ¬ (nw : Int) < (nw : Int) := by omega
                    clear hlk hk
                    go_wp2_with fail
                    go_roundw
                    case rel => exact ⟨i + 1, fq, mm, HLT.out, by have := HLT.out; go_num, TQ⟩
                    case measure =>
                      have := HLT.out
                      simp [RowKit.intOf]
                      omega
            · have HGR : Hid (rightF go = true) := Lib.hid (by obtain ⟨_, _, t, e, _⟩ := lfB_yes HLF.out; have h := HRT.out.right (goF RR m f) (by generalize goF RR m f = z at e; subst e; exact List.mem_cons_self); rwa [HGO.out] at h)
              as_aux_lemma =>
                go_upto_region 10 with (((have hq := TT.out.list HS.out); (with_reducible refine hq.mono ?_); clear hq; rintro e wa ⟨Aw, nw, cw, rfl, hna, hca, hma, ho, fpa, hT, hkp, hs, hd⟩; have Ta := Lib.hid hT; have La : Hid (OutS wa fpa BW (.slice Aw nw cw) m) := Lib.hid ⟨by rw [← HBW.out]; exact ho, hd⟩; have HNW := Lib.hid hna; clear hT hkp hs ho hd hna hca hma TT))
                go_upto_region 11 with (first | ((with_reducible show wpList _ _ _ (⟨some 53, _, _, _, _, _⟩ :: _) _ _); refine wpList_loadKeyF (op := ⟨some 53, _, _, _, _, _⟩) _ rfl (by rfl) b (off + i * 41) (by rfl) f (RX.out _ Ta.out.bel) J HJ.out ?_) | ((have hq := Ta.out.get HS.out HIX.out.t); (rw [key_c HJ.out, HV1.out] at hq); (with_reducible refine hq.mono ?_); clear hq; rintro e wb ⟨rfl, fpb, hT, hkp, hs⟩; have Tc := Lib.hid hT; have Lc := Lib.hid (La.out.left hkp hs); clear hT hkp hs Ta La) | ((with_reducible show wpList _ _ _ (⟨none, .store _ (.tmp 11) _, _, _, _, _⟩ :: _) _ _); refine wpList_storeNewG rfl 28 _ _ rfl (by rfl) (fwL z0) (by rw [HZ0.out]; rfl) (by rw [fwL_len]; rfl) (sizeFwL _) (fwL_one _) ?_; intro wc hb9 hB9 _; have Td := Lib.hid (Tc.out.below HS.out hB9); have Ld := Lib.hid (Lc.out.below hB9); clear hb9 hB9 Tc Lc))
                go_upto_region 12 with (first | ((with_reducible show wpList _ _ _ (⟨some 62, _, _, _, _, _⟩ :: _) _ _); refine wpList_loadFw (op := ⟨some 62, _, _, _, _, _⟩) _ rfl (by rfl) b (off + i * 41) (by rfl) f (RX.out _ Td.out.bel) O HO.out ?_) | ((have hq := Td.out.put HS.out HIX.out); (rw [fw_c HO.out, HPV.out, HMM.out] at hq); (with_reducible refine hq.mono ?_); clear hq; rintro e wd ⟨rfl, fpd, hT, hkp, hs⟩; have Te := Lib.hid hT; have Le := Lib.hid (Ld.out.left hkp hs); clear hT hkp hs Td Ld) | ((with_reducible show wpList _ _ _ (⟨none, .store _ (.tmp 13) _, _, _, _, _⟩ :: _) _ _); refine wpList_storeNewG rfl 28 _ _ rfl (by rfl) (fwL go) (by rw [HGG.out]; rfl) (by rw [fwL_len]; rfl) (sizeFwL _) (fwL_one _) ?_; intro we hb9 hB9 _; have Tf := Lib.hid (Te.out.below HS.out hB9); have Lf := Lib.hid (Le.out.below hB9); have Gf : Hid (Out we fpd wd.heap.size go) := Lib.hid ⟨hb9, Te.out.new_off HS.out (Nat.le_refl _)⟩; clear hb9 hB9 Te Le))
                go_upto_region 13 with (first | ((with_reducible show wpList _ _ _ (⟨some 73, _, _, _, _, _⟩ :: _) _ _); refine wpList_loadKeyF (op := ⟨some 73, _, _, _, _, _⟩) _ rfl (by rfl) b (off + i * 41) (by rfl) f (RX.out _ Tf.out.bel) J HJ.out ?_) | ((have hq := Tf.out.get HS.out HIX.out.t); (rw [key_c HJ.out, HV2.out] at hq); (with_reducible refine hq.mono ?_); clear hq; rintro e wh ⟨rfl, fph, hT, hkp, hs⟩; have Tg := Lib.hid hT; have Lg := Lib.hid (Lf.out.left hkp hs); have Gg := Lib.hid (Gf.out.left hkp hs); clear hT hkp hs Tf Lf Gf) | ((with_reducible show wpList _ _ _ (⟨none, .store _ (.tmp 16) _, _, _, _, _⟩ :: _) _ _); refine wpList_storeNewG rfl 28 _ _ rfl (by rfl) (fwL f) (by rw [HO.out]; rfl) (by rw [fwL_len]; rfl) (sizeFwL _) (fwL_one _) ?_; intro wg hb9 hB9 _; have Th := Lib.hid (Tg.out.below HS.out hB9); have Lh := Lib.hid (Lg.out.below hB9); have Gh := Lib.hid (Gg.out.below hB9); have Hh : Hid (Out wg fph wh.heap.size f) := Lib.hid ⟨hb9, Tg.out.new_off HS.out (Nat.le_refl _)⟩; clear hb9 hB9 Tg Lg Gg))
                refine wp_region_held_drew (S := fun W => Below Y.heap.size Y W ∧ W.rangeAt wh.heap.size 0 (fwL f)) (by kernel_rfl) (⟨Th.out.bel.drew, out_at Hh.out⟩) (fun hHeld => ?_)
                have Ti := Lib.hid (Th.out.drew HS.out)
                have Li : Hid (OutS wg.drew fph BW (.slice Aw nw cw) m) := Lib.hid (show OutS wg.drew fph BW (.slice Aw nw cw) m from Lh.out)
                have Gi : Hid (Out wg.drew fph wd.heap.size go) := Lib.hid (show Out wg.drew fph wd.heap.size go from Gh.out)
                have Hi : Hid (Out wg.drew fph wh.heap.size f) := Lib.hid (show Out wg.drew fph wh.heap.size f from Hh.out)
                clear Th Lh Gh Hh
                generalize wg.drew = wi at *
                refine tk 0 77 (.int .i64 0) rfl hHeld ?_
                simp only [Act.put, sA, sZ, sS]
                refine tk 1 78 (.bool true) rfl hHeld ?_
                simp only [Act.put, sA, sZ, sS]
                refine tk 2 79 (.slice (some ⟨b, off, none⟩) len cap) rfl hHeld ?_
                simp only [Act.put, sA, sZ, sS]
                refine tk 3 80 (.int .i64 (i : Int)) rfl hHeld ?_
                simp only [Act.put, sA, sZ, sS]
                refine tk 4 81 (.pointer (some ⟨b, off + i * 41, none⟩)) rfl hHeld ?_
                simp only [Act.put, sA, sZ, sS]
                refine tkY 5 82 (.agg O) rfl (yields_loadFw (by rfl) _ rfl b (off + i * 41) (by rfl) f (fun W hW => RX.out W hW.1) O HO.out) hHeld ?_
                simp only [Act.put, sA, sZ, sS]
                refine wpAnyH_ready (rs := [6]) (by kernel_rfl) (by simp) (AllReadyH.cons (o := ⟨some 83, _, _, _, _, _⟩) rfl (fun K hK => ?_) AllReadyH.nil)
                go_simp
                refine (HRG.out _).mono ?_
                rintro e wj ⟨rfl, hq⟩
                have Tj := Lib.hid (Ti.out.below HS.out hq)
                have Lj := Lib.hid (Li.out.below hq)
                have Gj := Lib.hid (Gi.out.below hq)
                have Hj := Lib.hid (Hi.out.below hq)
                clear hq Ti Li Gi Hi
                refine hK.out _ _ (⟨Tj.out.bel, out_at Hj.out⟩) (fun hHeld => ?_)
                clear hK K 
                refine tk 7 84 (.bool false) rfl hHeld ?_
                simp only [Act.put, sA, sZ, sS]
                refine tk 8 85 (.bool false) rfl hHeld ?_
                simp only [Act.put, sA, sZ, sS]
                refine tk 9 86 (.int .i64 0) rfl hHeld ?_
                simp only [Act.put, sA, sZ, sS]
                refine tk 10 87 (.bool true) rfl hHeld ?_
                simp only [Act.put, sA, sZ, sS]
                refine tk 11 88 (.bool true) rfl hHeld ?_
                simp only [Act.put, sA, sZ, sS]
                refine tk 12 89 (.bool true) rfl hHeld ?_
                simp only [Act.put, sA, sZ, sS]
                refine tk 13 90 (.bool false) rfl hHeld ?_
                simp only [Act.put, sA, sZ, sS]
                refine tk 14 91 (.bool false) rfl hHeld ?_
                simp only [Act.put, sA, sZ, sS]
                refine tkY 15 92 (.agg O) rfl (yields_loadFw (by rfl) _ rfl _ 0 (by rfl) f (fun W hW => hW.2) O HO.out) hHeld ?_
                simp only [Act.put, sA, sZ, sS]
                refine tk 16 93 (.slice (some ⟨b, off, none⟩) len cap) rfl hHeld ?_
                simp only [Act.put, sA, sZ, sS]
                refine tk 17 94 (.int .i64 (i : Int)) rfl hHeld ?_
                simp only [Act.put, sA, sZ, sS]
                refine tk 18 95 (.pointer (some ⟨b, off + i * 41, none⟩)) rfl hHeld ?_
                simp only [Act.put, sA, sZ, sS]
                refine tkY 19 96 (.agg O) rfl (yields_loadFw (by rfl) _ rfl b (off + i * 41) (by rfl) f (fun W hW => RX.out W hW.1) O HO.out) hHeld ?_
                simp only [Act.put, sA, sZ, sS]
                refine tkY 20 97 (.bool false) rfl (yields_cmpS (by rfl) .neq 28 _ _ _ rfl O O (by rfl) (by rfl) guard_fw false (fun W => by have h := ne_fws HO.out HO.out W; rwa [fwQ_self] at h)) hHeld ?_
                simp only [Act.put, sA, sZ, sS]
                refine tk 21 98 (.bool false) rfl hHeld ?_
                simp only [Act.put, sA, sZ, sS]
                refine tk 22 99 (.bool false) rfl hHeld ?_
                simp only [Act.put, sA, sZ, sS]
                refine tk 23 100 (.bool true) rfl hHeld ?_
                simp only [Act.put, sA, sZ, sS]
                refine tk 24 101 (.bool false) rfl hHeld ?_
                simp only [Act.put, sA, sZ, sS]
                refine tk 25 102 (.bool true) rfl hHeld ?_
                simp only [Act.put, sA, sZ, sS]
                refine tk 26 103 (.bool true) rfl hHeld ?_
                simp only [Act.put, sA, sZ, sS]
                refine tk 27 104 (.slice Aw nw cw) rfl hHeld ?_
                simp only [Act.put, sA, sZ, sS]
                refine tk 28 105 (.int .i64 (nw : Int)) rfl hHeld ?_
                simp only [Act.put, sA, sZ, sS]
                refine tk 29 106 (.int .u8 (num : Int)) rfl hHeld ?_
                simp only [Act.put, sA, sZ, sS]
                refine wpAnyH_ready (rs := [30]) (by kernel_rfl) (by simp) (AllReadyH.cons (o := ⟨some 107, _, _, _, _, _⟩) rfl (fun K hK => ?_) AllReadyH.nil)
                go_simp
                refine (HRM.out _).mono ?_
                rintro e wq ⟨rfl, hq⟩
                subst hq
                refine hK.out _ _ (hHeld) (fun hHeld => ?_)
                clear hK K 
                have qe := HQE.out HNW.out
                have qf := nat_beq qe
                refine tk 31 108 (.bool true) rfl hHeld ?_
                simp only [Act.put, sA, sZ, sS]
                refine tk 32 109 (.bool true) rfl hHeld ?_
                simp only [Act.put, sA, sZ, sS]
                refine tk 33 110 (.bool false) rfl hHeld ?_
                simp only [Act.put, sA, sZ, sS]
                refine tk 34 111 (.bool false) rfl hHeld ?_
                simp only [Act.put, sA, sZ, sS]
                refine tk 35 112 (.bool false) rfl hHeld ?_
                simp only [Act.put, sA, sZ, sS]
                refine tk 36 113 (.bool false) rfl hHeld ?_
                simp only [Act.put, sA, sZ, sS]
                refine tk 37 114 (.bool false) rfl hHeld ?_
                simp only [Act.put, sA, sZ, sS]
                refine tk 38 115 (.int .i64 0) rfl hHeld ?_
                simp only [Act.put, sA, sZ, sS]
                refine tk 39 116 (.bool false) rfl hHeld ?_
                simp only [Act.put, sA, sZ, sS]
                refine tk 40 117 (.bool false) rfl hHeld ?_
                simp only [Act.put, sA, sZ, sS]
                refine tkN 41 118 rfl hHeld ?_
                simp only [Act.put, sA, sZ, sS]
                refine tk 42 119 (.bool false) rfl hHeld ?_
                simp only [Act.put, sA, sZ, sS]
                refine tk 43 120 (.bool false) rfl hHeld ?_
                simp only [Act.put, sA, sZ, sS]
                refine tk 44 121 (.bool false) rfl hHeld ?_
                simp only [Act.put, sA, sZ, sS]
                refine tk 45 122 (.pointer (some ⟨g, 0, none⟩)) rfl hHeld ?_
                simp only [Act.put, sA, sZ, sS]
                refine tk 47 124 (.int .u8 (num : Int)) rfl hHeld ?_
                simp only [Act.put, sA, sZ, sS]
                have hcl := Tj.out.len HS.out
                obtain ⟨ml, hml⟩ : ∃ n, mm.length = n := ⟨_, rfl⟩
                have hmr : ¬ RR < ml := by have h := HRU.out.fits; omega
                have hms : ¬ (RR : Int) < (ml : Int) := by omega
                rw [hml] at hcl
                have HCL := Lib.hid hcl
                clear hcl hml
                refine wpAnyH_ready (rs := [46]) (by kernel_rfl) (by simp) (AllReadyH.cons (o := ⟨some 123, _, _, _, _, _⟩) rfl (fun K hK => ?_) AllReadyH.nil)
                go_simp
                refine HCL.out.mono ?_
                rintro e wk ⟨rfl, fq, hT, hkp, hs⟩
                have TV := Lib.hid hT
                have LV := Lib.hid (Lj.out.left hkp hs)
                have GV := Lib.hid (Gj.out.left hkp hs)
                have Hk := Lib.hid (Hj.out.left hkp hs)
                clear hT hkp hs Tj Lj Gj Hj HCL
                refine hK.out _ _ (⟨TV.out.bel, out_at Hk.out⟩) (fun hHeld => ?_)
                clear hK K 
                refine wpAnyH_ready (rs := [48]) (by kernel_rfl) (by simp) (AllReadyH.cons (o := ⟨some 125, _, _, _, _, _⟩) rfl (fun K hK => ?_) AllReadyH.nil)
                go_simp
                refine (HRM.out _).mono ?_
                rintro e wq ⟨rfl, hq⟩
                subst hq
                refine hK.out _ _ (hHeld) (fun hHeld => ?_)
                clear hK K 
                refine tk 49 126 (.bool false) rfl hHeld ?_
                simp only [Act.put, sA, sZ, sS]
                refine tk 50 127 (.bool false) rfl hHeld ?_
                simp only [Act.put, sA, sZ, sS]
                clear hHeld hmr hms Hk
                refine wpAnyH_done (by kernel_rfl) ?_ _
                go_wp2_with fail
                go_loopw [18] (fun v18 wr => ∃ (k : Nat) (fq : Nat → Prop), k ≤ nw ∧ v18 = .int .i64 (k : Int) ∧ Hid (Tb Rep Y Y.heap.size (.pointer (some ⟨g, 0, none⟩)) RR mm wr fq) ∧ Hid (OutS wr fq BW (.slice Aw nw cw) m) ∧ Hid (Out wr fq wd.heap.size go)) (fun v18 _ => nw - (RowKit.intOf v18).toNat)
                case atStart => exact ⟨0, fq, Nat.zero_le _, rfl, TV, LV, GV⟩
                case round =>
                  clear TV LV GV
                  obtain ⟨k, fq, hk, rfl, TQ, LQ, GQ⟩ := hrel
                  by_cases hlk : k < nw
                  · skip
                    have h2 : (k : Int) < (nw : Int) := by omega
                    have h3 : (0 : Int) ≤ (k : Int) := by omega
                    have hk8 : k < 9223372036854775807 := by have := HNW.out; have := HRT.out.fits; have := HQ4.out; omega
                    obtain ⟨y, hy⟩ : ∃ y, m[k]? = some y := ⟨_, List.getElem?_eq_getElem (by rw [← HNW.out]; exact hlk)⟩
                    obtain ⟨gx, cx, eX, _⟩ := LQ.out.1.form (by rw [← HNW.out]; omega)
                    have eA : Aw = some ⟨gx, 0, none⟩ := by cases eX; rfl
                    subst eA
                    clear eX
                    have HYM := Lib.hid (List.mem_of_getElem? hy)
                    have HYY := Lib.hid hy
                    have HRY := Lib.hid (HRT.out.right y HYM.out)
                    obtain ⟨JY, hJY⟩ : ∃ J, (tuL y.k).toArray = J := ⟨_, rfl⟩
                    have HJY := Lib.hid hJY
                    obtain ⟨OY, hOY⟩ : ∃ O, (fwL y).toArray = O := ⟨_, rfl⟩
                    have HOY := Lib.hid hOY
                    have HLK := Lib.hid hlk
                    clear hy hJY hOY hlk hk
                    obtain ⟨JG, hJG⟩ : ∃ J, (tuL go.k).toArray = J := ⟨_, rfl⟩
                    have HJG := Lib.hid hJG
                    have HOL : Hid (∀ W, Calls Try.prog 16 #[.agg OY, .agg GO] W fun e w' => e = .returned (.bool false) ∧ Below W.heap.size W w') := Lib.hid (fun W => by have h := rolder21_any (right_fit HRY.out) (right_fit HGR.out) W; rwa [fw_c HOY.out, fw_c HGG.out, ← HGO.out, put_old HRT.out HLF.out HYM.out] at h)
                    obtain ⟨t, ht⟩ : ∃ t, tuQ y.k go.k = t := ⟨_, rfl⟩
                    have HTT := Lib.hid ht
                    clear ht hJG
                    cases t
                    · have HGV : Hid (getV mm y.k = .tuple #[.agg OY, .bool true]) := Lib.hid (by rw [← HMM.out, getV_some (put_stays HRT.out HQ3.out HLF.out HYM.out (fun e => by rw [HGO.out] at e; have h := HTT.out; rw [tuQ_eq.2 e] at h; cases h)), fw_c HOY.out])
                      as_aux_lemma =>
                        go_upto_region 19 with (first | ((with_reducible show wpList _ _ _ (⟨some 140, _, _, _, _, _⟩ :: _) _ _); refine wpList_loadKeyF (op := ⟨some 140, _, _, _, _, _⟩) _ rfl (by rfl) gx (k * 41) (by rfl) y (outs_at LQ.out HYY.out) JY HJY.out ?_) | ((have hq := TQ.out.get HS.out (right_inT HRY.out)); (rw [key_c HJY.out, HGV.out] at hq); (with_reducible refine hq.mono ?_); clear hq; rintro e wo ⟨rfl, fqo, hT, hkp, hs⟩; have Tr := Lib.hid hT; have Lr := Lib.hid (LQ.out.left hkp hs); have Gr := Lib.hid (GQ.out.left hkp hs); clear hT hkp hs TQ LQ GQ) | ((with_reducible show wpList _ _ _ (⟨none, .store _ (.tmp 19) _, _, _, _, _⟩ :: _) _ _); refine wpList_storeNewG rfl 28 _ _ rfl (by rfl) (fwL y) (by rw [HOY.out]; rfl) (by rw [fwL_len]; rfl) (sizeFwL _) (fwL_one _) ?_; intro wp hb9 hB9 _; have Ts := Lib.hid (Tr.out.below HS.out hB9); have Ls := Lib.hid (Lr.out.below hB9); have Gs := Lib.hid (Gr.out.below hB9); have Zs : Hid (Out wp fqo wo.heap.size y) := Lib.hid ⟨hb9, Tr.out.new_off HS.out (Nat.le_refl _)⟩; clear hb9 hB9 Tr Lr Gr))
                        refine wp_region_held_drew (S := fun W => Below wp.heap.size wp W) (by kernel_rfl) ((Below.refl _ _).drew) (fun hHeld => ?_)
                        refine tk 0 144 (.bool true) rfl hHeld ?_
                        simp only [Act.put, sA, sZ, sS]
                        refine tk 1 145 (.bool true) rfl hHeld ?_
                        simp only [Act.put, sA, sZ, sS]
                        refine tk 2 146 (.slice (some ⟨gx, 0, none⟩) nw cw) rfl hHeld ?_
                        simp only [Act.put, sA, sZ, sS]
                        refine tk 3 147 (.int .i64 (k : Int)) rfl hHeld ?_
                        simp only [Act.put, sA, sZ, sS]
                        refine tk 4 148 (.pointer (some ⟨gx, k * 41, none⟩)) rfl hHeld ?_
                        simp only [Act.put, sA, sZ, sS]
                        refine tk 5 149 (.pointer (some ⟨gx, k * 41, none⟩)) rfl hHeld ?_
                        simp only [Act.put, sA, sZ, sS]
                        refine tkY 6 150 (.agg JY) rfl (yields_loadTu (by rfl) _ rfl gx (k * 41) (by rfl) y (fun W hW => outs_at (Ls.out.below hW) HYY.out) JY HJY.out) hHeld ?_
                        simp only [Act.put, sA, sZ, sS]
                        refine tk 7 151 (.pointer (some ⟨wd.heap.size, 0, none⟩)) rfl hHeld ?_
                        simp only [Act.put, sA, sZ, sS]
                        refine tkY 8 152 (.agg JG) rfl (yields_loadTu (by rfl) _ rfl wd.heap.size 0 (by rfl) go (fun W hW => out_at (Gs.out.below hW)) JG HJG.out) hHeld ?_
                        simp only [Act.put, sA, sZ, sS]
                        refine tkY 9 153 (.bool false) rfl (yields_cmpS (by rfl) .eql 26 _ _ _ rfl JY JG (by rfl) (by rfl) guard_tu' false (fun W => by have h := eq_keys HJY.out HJG.out W; rwa [HTT.out] at h)) hHeld ?_
                        simp only [Act.put, sA, sZ, sS]
                        refine tk 10 154 (.bool false) rfl hHeld ?_
                        simp only [Act.put, sA, sZ, sS]
                        refine tk 11 21 (.bool false) rfl hHeld ?_
                        simp only [Act.put, sA, sZ, sS]
                        have Tt := Lib.hid (Ts.out.below HS.out hHeld)
                        have Lt := Lib.hid (Ls.out.below hHeld)
                        have Gt := Lib.hid (Gs.out.below hHeld)
                        have Zt := Lib.hid (Zs.out.below hHeld)
                        clear hHeld Ts Ls Gs Zs
                        refine wpAnyH_done (by kernel_rfl) ?_ _
                        go_upto_region 20 with (fail)
                        refine wp_region_held_drew (S := fun W => (∃ fq, Hid (Tb Rep Y Y.heap.size (.pointer (some ⟨g, 0, none⟩)) RR mm W fq) ∧ Hid (OutS W fq BW (.slice (some ⟨gx, 0, none⟩) nw cw) m) ∧ Hid (Out W fq wd.heap.size go) ∧ Hid (Out W fq wo.heap.size y))) (by kernel_rfl) (⟨fqo, Lib.hid (Tt.out.drew HS.out), Lib.hid (show OutS _ fqo BW (.slice (some ⟨gx, 0, none⟩) nw cw) m from Lt.out), Lib.hid (show Out _ fqo wd.heap.size go from Gt.out), Lib.hid (show Out _ fqo wo.heap.size y from Zt.out)⟩) (fun hHeld => ?_)
                        clear Tt Lt Gt Zt
                        refine tk 0 155 (.bool false) rfl hHeld ?_
                        simp only [Act.put, sA, sZ, sS]
                        refine tk 1 156 (.bool true) rfl hHeld ?_
                        simp only [Act.put, sA, sZ, sS]
                        refine tk 2 157 (.bool false) rfl hHeld ?_
                        simp only [Act.put, sA, sZ, sS]
                        refine tk 3 158 (.bool false) rfl hHeld ?_
                        simp only [Act.put, sA, sZ, sS]
                        refine tk 4 159 (.bool true) rfl hHeld ?_
                        simp only [Act.put, sA, sZ, sS]
                        refine tk 5 160 (.bool true) rfl hHeld ?_
                        simp only [Act.put, sA, sZ, sS]
                        refine tk 6 161 (.slice (some ⟨gx, 0, none⟩) nw cw) rfl hHeld ?_
                        simp only [Act.put, sA, sZ, sS]
                        refine tk 7 162 (.int .i64 (k : Int)) rfl hHeld ?_
                        simp only [Act.put, sA, sZ, sS]
                        refine tk 8 163 (.pointer (some ⟨gx, k * 41, none⟩)) rfl hHeld ?_
                        simp only [Act.put, sA, sZ, sS]
                        refine tkY 9 164 (.agg OY) rfl (yields_loadFw (by rfl) _ rfl gx (k * 41) (by rfl) y (fun W hW => by obtain ⟨_, _, hl, _, _⟩ := hW; exact outs_at hl.out HYY.out) OY HOY.out) hHeld ?_
                        simp only [Act.put, sA, sZ, sS]
                        refine tkY 10 165 (.agg GO) rfl (yields_loadFw (by rfl) _ rfl wd.heap.size 0 (by rfl) go (fun W hW => by obtain ⟨_, _, _, hg, _⟩ := hW; exact out_at hg.out) GO HGG.out) hHeld ?_
                        simp only [Act.put, sA, sZ, sS]
                        refine wpAnyH_ready (rs := [11]) (by kernel_rfl) (by simp) (AllReadyH.cons (o := ⟨some 166, _, _, _, _, _⟩) rfl (fun K hK => ?_) AllReadyH.nil)
                        go_simp
                        refine (HOL.out _).mono ?_
                        rintro e wq ⟨rfl, hq⟩
                        obtain ⟨fqx, a1, a2, a3, a4⟩ := hHeld
                        refine hK.out _ _ (⟨fqx, Lib.hid (a1.out.below HS.out hq), Lib.hid (a2.out.below hq), Lib.hid (a3.out.below hq), Lib.hid (a4.out.below hq)⟩) (fun hHeld => ?_)
                        clear hK K hq a1 a2 a3 a4
                        refine tk 12 167 (.bool false) rfl hHeld ?_
                        simp only [Act.put, sA, sZ, sS]
                        refine tk 13 168 (.bool false) rfl hHeld ?_
                        simp only [Act.put, sA, sZ, sS]
                        refine tk 14 169 (.bool false) rfl hHeld ?_
                        simp only [Act.put, sA, sZ, sS]
                        refine tk 15 170 (.bool true) rfl hHeld ?_
                        simp only [Act.put, sA, sZ, sS]
                        refine tk 16 171 (.bool true) rfl hHeld ?_
                        simp only [Act.put, sA, sZ, sS]
                        refine tkY 17 172 (.agg OY) rfl (yields_loadFw (by rfl) _ rfl wo.heap.size 0 (by rfl) y (fun W hW => by obtain ⟨_, _, _, _, hz⟩ := hW; exact out_at hz.out) OY HOY.out) hHeld ?_
                        simp only [Act.put, sA, sZ, sS]
                        refine tk 18 173 (.slice (some ⟨gx, 0, none⟩) nw cw) rfl hHeld ?_
                        simp only [Act.put, sA, sZ, sS]
                        refine tk 19 174 (.int .i64 (k : Int)) rfl hHeld ?_
                        simp only [Act.put, sA, sZ, sS]
                        refine tk 20 175 (.pointer (some ⟨gx, k * 41, none⟩)) rfl hHeld ?_
                        simp only [Act.put, sA, sZ, sS]
                        refine tkY 21 176 (.agg OY) rfl (yields_loadFw (by rfl) _ rfl gx (k * 41) (by rfl) y (fun W hW => by obtain ⟨_, _, hl, _, _⟩ := hW; exact outs_at hl.out HYY.out) OY HOY.out) hHeld ?_
                        simp only [Act.put, sA, sZ, sS]
                        refine tkY 22 177 (.bool false) rfl (yields_cmpS (by rfl) .neq 28 _ _ _ rfl OY OY (by rfl) (by rfl) guard_fw false (fun W => by have h := ne_fws HOY.out HOY.out W; rwa [fwQ_self] at h)) hHeld ?_
                        simp only [Act.put, sA, sZ, sS]
                        refine tk 23 178 (.bool false) rfl hHeld ?_
                        simp only [Act.put, sA, sZ, sS]
                        refine tk 24 179 (.bool false) rfl hHeld ?_
                        simp only [Act.put, sA, sZ, sS]
                        refine tkN 25 180 rfl hHeld ?_
                        simp only [Act.put, sA, sZ, sS]
                        refine tkN 26 181 rfl hHeld ?_
                        simp only [Act.put, sA, sZ, sS]
                        refine tkN 27 182 rfl hHeld ?_
                        simp only [Act.put, sA, sZ, sS]
                        refine tkN 28 183 rfl hHeld ?_
                        simp only [Act.put, sA, sZ, sS]
                        refine tkN 29 184 rfl hHeld ?_
                        simp only [Act.put, sA, sZ, sS]
                        refine tkN 30 185 rfl hHeld ?_
                        simp only [Act.put, sA, sZ, sS]
                        refine tkN 31 186 rfl hHeld ?_
                        simp only [Act.put, sA, sZ, sS]
                        refine tkN 32 187 rfl hHeld ?_
                        simp only [Act.put, sA, sZ, sS]
                        refine tkN 33 188 rfl hHeld ?_
                        simp only [Act.put, sA, sZ, sS]
                        refine tkN 34 189 rfl hHeld ?_
                        simp only [Act.put, sA, sZ, sS]
                        refine tkN 35 190 rfl hHeld ?_
                        simp only [Act.put, sA, sZ, sS]
                        refine tkN 36 191 rfl hHeld ?_
                        simp only [Act.put, sA, sZ, sS]
                        refine tkN 37 192 rfl hHeld ?_
                        simp only [Act.put, sA, sZ, sS]
                        refine tkN 38 193 rfl hHeld ?_
                        simp only [Act.put, sA, sZ, sS]
                        refine tkN 39 194 rfl hHeld ?_
                        simp only [Act.put, sA, sZ, sS]
                        refine tk 40 195 (.bool false) rfl hHeld ?_
                        simp only [Act.put, sA, sZ, sS]
                        refine tk 41 196 (.bool false) rfl hHeld ?_
                        simp only [Act.put, sA, sZ, sS]
                        obtain ⟨fqx, a1, a2, a3, _⟩ := hHeld
                        refine wpAnyH_done (by kernel_rfl) ?_ _
                        go_wp2_with fail
                        go_roundw
                        case rel => exact ⟨k + 1, fqx, HLK.out, by have := HLK.out; go_num, a1, a2, a3⟩
                        case measure =>
                          have := HLK.out
                          simp [RowKit.intOf]
                          omega
                    · have HGV : Hid (getV mm y.k = .tuple #[.agg ZZ, .bool false]) := Lib.hid (by rw [← HMM.out, getV_none (put_gone HRT.out HLF.out (by rw [HGO.out]; exact tuQ_eq.1 HTT.out)), fw_c HZZ.out])
                      as_aux_lemma =>
                        go_upto_region 19 with (first | ((with_reducible show wpList _ _ _ (⟨some 140, _, _, _, _, _⟩ :: _) _ _); refine wpList_loadKeyF (op := ⟨some 140, _, _, _, _, _⟩) _ rfl (by rfl) gx (k * 41) (by rfl) y (outs_at LQ.out HYY.out) JY HJY.out ?_) | ((have hq := TQ.out.get HS.out (right_inT HRY.out)); (rw [key_c HJY.out, HGV.out] at hq); (with_reducible refine hq.mono ?_); clear hq; rintro e wo ⟨rfl, fqo, hT, hkp, hs⟩; have Tr := Lib.hid hT; have Lr := Lib.hid (LQ.out.left hkp hs); have Gr := Lib.hid (GQ.out.left hkp hs); clear hT hkp hs TQ LQ GQ) | ((with_reducible show wpList _ _ _ (⟨none, .store _ (.tmp 19) _, _, _, _, _⟩ :: _) _ _); refine wpList_storeNewG rfl 28 _ _ rfl (by rfl) (fwL fw0) (by rw [HZZ.out]; rfl) (by rw [fwL_len]; rfl) (sizeFwL _) (fwL_one _) ?_; intro wp hb9 hB9 _; have Ts := Lib.hid (Tr.out.below HS.out hB9); have Ls := Lib.hid (Lr.out.below hB9); have Gs := Lib.hid (Gr.out.below hB9); have Zs : Hid (Out wp fqo wo.heap.size fw0) := Lib.hid ⟨hb9, Tr.out.new_off HS.out (Nat.le_refl _)⟩; clear hb9 hB9 Tr Lr Gr))
                        refine wp_region_held_drew (S := fun W => Below wp.heap.size wp W) (by kernel_rfl) ((Below.refl _ _).drew) (fun hHeld => ?_)
                        refine tk 0 144 (.bool true) rfl hHeld ?_
                        simp only [Act.put, sA, sZ, sS]
                        refine tk 1 145 (.bool true) rfl hHeld ?_
                        simp only [Act.put, sA, sZ, sS]
                        refine tk 2 146 (.slice (some ⟨gx, 0, none⟩) nw cw) rfl hHeld ?_
                        simp only [Act.put, sA, sZ, sS]
                        refine tk 3 147 (.int .i64 (k : Int)) rfl hHeld ?_
                        simp only [Act.put, sA, sZ, sS]
                        refine tk 4 148 (.pointer (some ⟨gx, k * 41, none⟩)) rfl hHeld ?_
                        simp only [Act.put, sA, sZ, sS]
                        refine tk 5 149 (.pointer (some ⟨gx, k * 41, none⟩)) rfl hHeld ?_
                        simp only [Act.put, sA, sZ, sS]
                        refine tkY 6 150 (.agg JY) rfl (yields_loadTu (by rfl) _ rfl gx (k * 41) (by rfl) y (fun W hW => outs_at (Ls.out.below hW) HYY.out) JY HJY.out) hHeld ?_
                        simp only [Act.put, sA, sZ, sS]
                        refine tk 7 151 (.pointer (some ⟨wd.heap.size, 0, none⟩)) rfl hHeld ?_
                        simp only [Act.put, sA, sZ, sS]
                        refine tkY 8 152 (.agg JG) rfl (yields_loadTu (by rfl) _ rfl wd.heap.size 0 (by rfl) go (fun W hW => out_at (Gs.out.below hW)) JG HJG.out) hHeld ?_
                        simp only [Act.put, sA, sZ, sS]
                        refine tkY 9 153 (.bool true) rfl (yields_cmpS (by rfl) .eql 26 _ _ _ rfl JY JG (by rfl) (by rfl) guard_tu' true (fun W => by have h := eq_keys HJY.out HJG.out W; rwa [HTT.out] at h)) hHeld ?_
                        simp only [Act.put, sA, sZ, sS]
                        refine tk 10 154 (.bool true) rfl hHeld ?_
                        simp only [Act.put, sA, sZ, sS]
                        refine tk 11 21 (.bool true) rfl hHeld ?_
                        simp only [Act.put, sA, sZ, sS]
                        have Tt := Lib.hid (Ts.out.below HS.out hHeld)
                        have Lt := Lib.hid (Ls.out.below hHeld)
                        have Gt := Lib.hid (Gs.out.below hHeld)
                        have Zt := Lib.hid (Zs.out.below hHeld)
                        clear hHeld Ts Ls Gs Zs
                        refine wpAnyH_done (by kernel_rfl) ?_ _
                        go_upto_region 20 with (fail)
                        refine wp_region_held_drew (S := fun W => (∃ fq, Hid (Tb Rep Y Y.heap.size (.pointer (some ⟨g, 0, none⟩)) RR mm W fq) ∧ Hid (OutS W fq BW (.slice (some ⟨gx, 0, none⟩) nw cw) m) ∧ Hid (Out W fq wd.heap.size go) ∧ Hid (Out W fq wo.heap.size fw0))) (by kernel_rfl) (⟨fqo, Lib.hid (Tt.out.drew HS.out), Lib.hid (show OutS _ fqo BW (.slice (some ⟨gx, 0, none⟩) nw cw) m from Lt.out), Lib.hid (show Out _ fqo wd.heap.size go from Gt.out), Lib.hid (show Out _ fqo wo.heap.size fw0 from Zt.out)⟩) (fun hHeld => ?_)
                        clear Tt Lt Gt Zt
                        refine tk 0 155 (.bool true) rfl hHeld ?_
                        simp only [Act.put, sA, sZ, sS]
                        refine tk 1 156 (.bool false) rfl hHeld ?_
                        simp only [Act.put, sA, sZ, sS]
                        refine tk 2 157 (.bool false) rfl hHeld ?_
                        simp only [Act.put, sA, sZ, sS]
                        refine tk 3 158 (.bool false) rfl hHeld ?_
                        simp only [Act.put, sA, sZ, sS]
                        refine tk 4 159 (.bool true) rfl hHeld ?_
                        simp only [Act.put, sA, sZ, sS]
                        refine tk 5 160 (.bool true) rfl hHeld ?_
                        simp only [Act.put, sA, sZ, sS]
                        refine tk 6 161 (.slice (some ⟨gx, 0, none⟩) nw cw) rfl hHeld ?_
                        simp only [Act.put, sA, sZ, sS]
                        refine tk 7 162 (.int .i64 (k : Int)) rfl hHeld ?_
                        simp only [Act.put, sA, sZ, sS]
                        refine tk 8 163 (.pointer (some ⟨gx, k * 41, none⟩)) rfl hHeld ?_
                        simp only [Act.put, sA, sZ, sS]
                        refine tkY 9 164 (.agg OY) rfl (yields_loadFw (by rfl) _ rfl gx (k * 41) (by rfl) y (fun W hW => by obtain ⟨_, _, hl, _, _⟩ := hW; exact outs_at hl.out HYY.out) OY HOY.out) hHeld ?_
                        simp only [Act.put, sA, sZ, sS]
                        refine tkY 10 165 (.agg GO) rfl (yields_loadFw (by rfl) _ rfl wd.heap.size 0 (by rfl) go (fun W hW => by obtain ⟨_, _, _, hg, _⟩ := hW; exact out_at hg.out) GO HGG.out) hHeld ?_
                        simp only [Act.put, sA, sZ, sS]
                        refine wpAnyH_ready (rs := [11]) (by kernel_rfl) (by simp) (AllReadyH.cons (o := ⟨some 166, _, _, _, _, _⟩) rfl (fun K hK => ?_) AllReadyH.nil)
                        go_simp
                        refine (HOL.out _).mono ?_
                        rintro e wq ⟨rfl, hq⟩
                        obtain ⟨fqx, a1, a2, a3, a4⟩ := hHeld
                        refine hK.out _ _ (⟨fqx, Lib.hid (a1.out.below HS.out hq), Lib.hid (a2.out.below hq), Lib.hid (a3.out.below hq), Lib.hid (a4.out.below hq)⟩) (fun hHeld => ?_)
                        clear hK K hq a1 a2 a3 a4
                        refine tk 12 167 (.bool false) rfl hHeld ?_
                        simp only [Act.put, sA, sZ, sS]
                        refine tk 13 168 (.bool false) rfl hHeld ?_
                        simp only [Act.put, sA, sZ, sS]
                        refine tk 14 169 (.bool false) rfl hHeld ?_
                        simp only [Act.put, sA, sZ, sS]
                        refine tk 15 170 (.bool false) rfl hHeld ?_
                        simp only [Act.put, sA, sZ, sS]
                        refine tk 16 171 (.bool false) rfl hHeld ?_
                        simp only [Act.put, sA, sZ, sS]
                        refine tkN 17 172 rfl hHeld ?_
                        simp only [Act.put, sA, sZ, sS]
                        refine tkN 18 173 rfl hHeld ?_
                        simp only [Act.put, sA, sZ, sS]
                        refine tkN 19 174 rfl hHeld ?_
                        simp only [Act.put, sA, sZ, sS]
                        refine tkN 20 175 rfl hHeld ?_
                        simp only [Act.put, sA, sZ, sS]
                        refine tkN 21 176 rfl hHeld ?_
                        simp only [Act.put, sA, sZ, sS]
                        refine tkN 22 177 rfl hHeld ?_
                        simp only [Act.put, sA, sZ, sS]
                        refine tk 23 178 (.bool false) rfl hHeld ?_
                        simp only [Act.put, sA, sZ, sS]
                        refine tk 24 179 (.bool false) rfl hHeld ?_
                        simp only [Act.put, sA, sZ, sS]
                        refine tkN 25 180 rfl hHeld ?_
                        simp only [Act.put, sA, sZ, sS]
                        refine tkN 26 181 rfl hHeld ?_
                        simp only [Act.put, sA, sZ, sS]
                        refine tkN 27 182 rfl hHeld ?_
                        simp only [Act.put, sA, sZ, sS]
                        refine tkN 28 183 rfl hHeld ?_
                        simp only [Act.put, sA, sZ, sS]
                        refine tkN 29 184 rfl hHeld ?_
                        simp only [Act.put, sA, sZ, sS]
                        refine tkN 30 185 rfl hHeld ?_
                        simp only [Act.put, sA, sZ, sS]
                        refine tkN 31 186 rfl hHeld ?_
                        simp only [Act.put, sA, sZ, sS]
                        refine tkN 32 187 rfl hHeld ?_
                        simp only [Act.put, sA, sZ, sS]
                        refine tkN 33 188 rfl hHeld ?_
                        simp only [Act.put, sA, sZ, sS]
                        refine tkN 34 189 rfl hHeld ?_
                        simp only [Act.put, sA, sZ, sS]
                        refine tkN 35 190 rfl hHeld ?_
                        simp only [Act.put, sA, sZ, sS]
                        refine tkN 36 191 rfl hHeld ?_
                        simp only [Act.put, sA, sZ, sS]
                        refine tkN 37 192 rfl hHeld ?_
                        simp only [Act.put, sA, sZ, sS]
                        refine tkN 38 193 rfl hHeld ?_
                        simp only [Act.put, sA, sZ, sS]
                        refine tkN 39 194 rfl hHeld ?_
                        simp only [Act.put, sA, sZ, sS]
                        refine tk 40 195 (.bool false) rfl hHeld ?_
                        simp only [Act.put, sA, sZ, sS]
                        refine tk 41 196 (.bool false) rfl hHeld ?_
                        simp only [Act.put, sA, sZ, sS]
                        obtain ⟨fqx, a1, a2, a3, _⟩ := hHeld
                        refine wpAnyH_done (by kernel_rfl) ?_ _
                        go_wp2_with fail
                        go_roundw
                        case rel => exact ⟨k + 1, fqx, HLK.out, by have := HLK.out; go_num, a1, a2, a3⟩
                        case measure =>
                          have := HLK.out
                          simp [RowKit.intOf]
                          omega
                  · obtain rfl : nw = k := by omega
                    have h2 : ¬ (nw : Int) < (nw : Int) := by omega
                    clear hlk hk
                    go_wp2_with fail
                    go_roundw
                    case rel => exact ⟨i + 1, fq, mm, HLT.out, by have := HLT.out; go_num, TQ⟩
                    case measure =>
                      have := HLT.out
                      simp [RowKit.intOf]
                      omega
          · have HLF : Hid (lfB RR m f = false) := Lib.hid (lfB_has HTH.out)
            have HPV : Hid (putV RR m f = .tuple #[.agg GO, .bool false, .int .i64 0]) := Lib.hid (by rw [putV_form, HLF.out, HGO.out, fw_c HGG.out, HRF.out]; rfl)
            as_aux_lemma =>
              go_upto_region 10 with (((have hq := TT.out.list HS.out); (with_reducible refine hq.mono ?_); clear hq; rintro e wa ⟨Aw, nw, cw, rfl, hna, hca, hma, ho, fpa, hT, hkp, hs, hd⟩; have Ta := Lib.hid hT; have La : Hid (OutS wa fpa BW (.slice Aw nw cw) m) := Lib.hid ⟨by rw [← HBW.out]; exact ho, hd⟩; have HNW := Lib.hid hna; clear hT hkp hs ho hd hna hca hma TT))
              go_upto_region 11 with (first | ((with_reducible show wpList _ _ _ (⟨some 53, _, _, _, _, _⟩ :: _) _ _); refine wpList_loadKeyF (op := ⟨some 53, _, _, _, _, _⟩) _ rfl (by rfl) b (off + i * 41) (by rfl) f (RX.out _ Ta.out.bel) J HJ.out ?_) | ((have hq := Ta.out.get HS.out HIX.out.t); (rw [key_c HJ.out, HV1.out] at hq); (with_reducible refine hq.mono ?_); clear hq; rintro e wb ⟨rfl, fpb, hT, hkp, hs⟩; have Tc := Lib.hid hT; have Lc := Lib.hid (La.out.left hkp hs); clear hT hkp hs Ta La) | ((with_reducible show wpList _ _ _ (⟨none, .store _ (.tmp 11) _, _, _, _, _⟩ :: _) _ _); refine wpList_storeNewG rfl 28 _ _ rfl (by rfl) (fwL z0) (by rw [HZ0.out]; rfl) (by rw [fwL_len]; rfl) (sizeFwL _) (fwL_one _) ?_; intro wc hb9 hB9 _; have Td := Lib.hid (Tc.out.below HS.out hB9); have Ld := Lib.hid (Lc.out.below hB9); clear hb9 hB9 Tc Lc))
              go_upto_region 12 with (first | ((with_reducible show wpList _ _ _ (⟨some 62, _, _, _, _, _⟩ :: _) _ _); refine wpList_loadFw (op := ⟨some 62, _, _, _, _, _⟩) _ rfl (by rfl) b (off + i * 41) (by rfl) f (RX.out _ Td.out.bel) O HO.out ?_) | ((have hq := Td.out.put HS.out HIX.out); (rw [fw_c HO.out, HPV.out, HMM.out] at hq); (with_reducible refine hq.mono ?_); clear hq; rintro e wd ⟨rfl, fpd, hT, hkp, hs⟩; have Te := Lib.hid hT; have Le := Lib.hid (Ld.out.left hkp hs); clear hT hkp hs Td Ld) | ((with_reducible show wpList _ _ _ (⟨none, .store _ (.tmp 13) _, _, _, _, _⟩ :: _) _ _); refine wpList_storeNewG rfl 28 _ _ rfl (by rfl) (fwL go) (by rw [HGG.out]; rfl) (by rw [fwL_len]; rfl) (sizeFwL _) (fwL_one _) ?_; intro we hb9 hB9 _; have Tf := Lib.hid (Te.out.below HS.out hB9); have Lf := Lib.hid (Le.out.below hB9); have Gf : Hid (Out we fpd wd.heap.size go) := Lib.hid ⟨hb9, Te.out.new_off HS.out (Nat.le_refl _)⟩; clear hb9 hB9 Te Le))
              go_upto_region 13 with (first | ((with_reducible show wpList _ _ _ (⟨some 73, _, _, _, _, _⟩ :: _) _ _); refine wpList_loadKeyF (op := ⟨some 73, _, _, _, _, _⟩) _ rfl (by rfl) b (off + i * 41) (by rfl) f (RX.out _ Tf.out.bel) J HJ.out ?_) | ((have hq := Tf.out.get HS.out HIX.out.t); (rw [key_c HJ.out, HV2.out] at hq); (with_reducible refine hq.mono ?_); clear hq; rintro e wh ⟨rfl, fph, hT, hkp, hs⟩; have Tg := Lib.hid hT; have Lg := Lib.hid (Lf.out.left hkp hs); have Gg := Lib.hid (Gf.out.left hkp hs); clear hT hkp hs Tf Lf Gf) | ((with_reducible show wpList _ _ _ (⟨none, .store _ (.tmp 16) _, _, _, _, _⟩ :: _) _ _); refine wpList_storeNewG rfl 28 _ _ rfl (by rfl) (fwL f) (by rw [HO.out]; rfl) (by rw [fwL_len]; rfl) (sizeFwL _) (fwL_one _) ?_; intro wg hb9 hB9 _; have Th := Lib.hid (Tg.out.below HS.out hB9); have Lh := Lib.hid (Lg.out.below hB9); have Gh := Lib.hid (Gg.out.below hB9); have Hh : Hid (Out wg fph wh.heap.size f) := Lib.hid ⟨hb9, Tg.out.new_off HS.out (Nat.le_refl _)⟩; clear hb9 hB9 Tg Lg Gg))
              refine wp_region_held_drew (S := fun W => Below Y.heap.size Y W ∧ W.rangeAt wh.heap.size 0 (fwL f)) (by kernel_rfl) (⟨Th.out.bel.drew, out_at Hh.out⟩) (fun hHeld => ?_)
              have Ti := Lib.hid (Th.out.drew HS.out)
              have Li : Hid (OutS wg.drew fph BW (.slice Aw nw cw) m) := Lib.hid (show OutS wg.drew fph BW (.slice Aw nw cw) m from Lh.out)
              have Gi : Hid (Out wg.drew fph wd.heap.size go) := Lib.hid (show Out wg.drew fph wd.heap.size go from Gh.out)
              have Hi : Hid (Out wg.drew fph wh.heap.size f) := Lib.hid (show Out wg.drew fph wh.heap.size f from Hh.out)
              clear Th Lh Gh Hh
              generalize wg.drew = wi at *
              refine tk 0 77 (.int .i64 0) rfl hHeld ?_
              simp only [Act.put, sA, sZ, sS]
              refine tk 1 78 (.bool true) rfl hHeld ?_
              simp only [Act.put, sA, sZ, sS]
              refine tk 2 79 (.slice (some ⟨b, off, none⟩) len cap) rfl hHeld ?_
              simp only [Act.put, sA, sZ, sS]
              refine tk 3 80 (.int .i64 (i : Int)) rfl hHeld ?_
              simp only [Act.put, sA, sZ, sS]
              refine tk 4 81 (.pointer (some ⟨b, off + i * 41, none⟩)) rfl hHeld ?_
              simp only [Act.put, sA, sZ, sS]
              refine tkY 5 82 (.agg O) rfl (yields_loadFw (by rfl) _ rfl b (off + i * 41) (by rfl) f (fun W hW => RX.out W hW.1) O HO.out) hHeld ?_
              simp only [Act.put, sA, sZ, sS]
              refine wpAnyH_ready (rs := [6]) (by kernel_rfl) (by simp) (AllReadyH.cons (o := ⟨some 83, _, _, _, _, _⟩) rfl (fun K hK => ?_) AllReadyH.nil)
              go_simp
              refine (HRG.out _).mono ?_
              rintro e wj ⟨rfl, hq⟩
              have Tj := Lib.hid (Ti.out.below HS.out hq)
              have Lj := Lib.hid (Li.out.below hq)
              have Gj := Lib.hid (Gi.out.below hq)
              have Hj := Lib.hid (Hi.out.below hq)
              clear hq Ti Li Gi Hi
              refine hK.out _ _ (⟨Tj.out.bel, out_at Hj.out⟩) (fun hHeld => ?_)
              clear hK K 
              refine tk 7 84 (.bool false) rfl hHeld ?_
              simp only [Act.put, sA, sZ, sS]
              refine tk 8 85 (.bool false) rfl hHeld ?_
              simp only [Act.put, sA, sZ, sS]
              refine tk 9 86 (.int .i64 0) rfl hHeld ?_
              simp only [Act.put, sA, sZ, sS]
              refine tk 10 87 (.bool true) rfl hHeld ?_
              simp only [Act.put, sA, sZ, sS]
              refine tk 11 88 (.bool true) rfl hHeld ?_
              simp only [Act.put, sA, sZ, sS]
              refine tk 12 89 (.bool true) rfl hHeld ?_
              simp only [Act.put, sA, sZ, sS]
              refine tk 13 90 (.bool false) rfl hHeld ?_
              simp only [Act.put, sA, sZ, sS]
              refine tk 14 91 (.bool false) rfl hHeld ?_
              simp only [Act.put, sA, sZ, sS]
              refine tkY 15 92 (.agg O) rfl (yields_loadFw (by rfl) _ rfl _ 0 (by rfl) f (fun W hW => hW.2) O HO.out) hHeld ?_
              simp only [Act.put, sA, sZ, sS]
              refine tk 16 93 (.slice (some ⟨b, off, none⟩) len cap) rfl hHeld ?_
              simp only [Act.put, sA, sZ, sS]
              refine tk 17 94 (.int .i64 (i : Int)) rfl hHeld ?_
              simp only [Act.put, sA, sZ, sS]
              refine tk 18 95 (.pointer (some ⟨b, off + i * 41, none⟩)) rfl hHeld ?_
              simp only [Act.put, sA, sZ, sS]
              refine tkY 19 96 (.agg O) rfl (yields_loadFw (by rfl) _ rfl b (off + i * 41) (by rfl) f (fun W hW => RX.out W hW.1) O HO.out) hHeld ?_
              simp only [Act.put, sA, sZ, sS]
              refine tkY 20 97 (.bool false) rfl (yields_cmpS (by rfl) .neq 28 _ _ _ rfl O O (by rfl) (by rfl) guard_fw false (fun W => by have h := ne_fws HO.out HO.out W; rwa [fwQ_self] at h)) hHeld ?_
              simp only [Act.put, sA, sZ, sS]
              refine tk 21 98 (.bool false) rfl hHeld ?_
              simp only [Act.put, sA, sZ, sS]
              refine tk 22 99 (.bool false) rfl hHeld ?_
              simp only [Act.put, sA, sZ, sS]
              refine tk 23 100 (.bool false) rfl hHeld ?_
              simp only [Act.put, sA, sZ, sS]
              refine tk 24 101 (.bool true) rfl hHeld ?_
              simp only [Act.put, sA, sZ, sS]
              refine tk 25 102 (.bool false) rfl hHeld ?_
              simp only [Act.put, sA, sZ, sS]
              refine tk 26 103 (.bool false) rfl hHeld ?_
              simp only [Act.put, sA, sZ, sS]
              refine tkN 27 104 rfl hHeld ?_
              simp only [Act.put, sA, sZ, sS]
              refine tkN 28 105 rfl hHeld ?_
              simp only [Act.put, sA, sZ, sS]
              refine tkN 29 106 rfl hHeld ?_
              simp only [Act.put, sA, sZ, sS]
              refine tkN 30 107 rfl hHeld ?_
              simp only [Act.put, sA, sZ, sS]
              refine tkN 31 108 rfl hHeld ?_
              simp only [Act.put, sA, sZ, sS]
              refine tk 32 109 (.bool false) rfl hHeld ?_
              simp only [Act.put, sA, sZ, sS]
              refine tk 33 110 (.bool false) rfl hHeld ?_
              simp only [Act.put, sA, sZ, sS]
              refine tk 34 111 (.bool false) rfl hHeld ?_
              simp only [Act.put, sA, sZ, sS]
              refine tk 35 112 (.bool false) rfl hHeld ?_
              simp only [Act.put, sA, sZ, sS]
              refine tk 36 113 (.bool false) rfl hHeld ?_
              simp only [Act.put, sA, sZ, sS]
              refine tk 37 114 (.bool false) rfl hHeld ?_
              simp only [Act.put, sA, sZ, sS]
              refine tk 38 115 (.int .i64 0) rfl hHeld ?_
              simp only [Act.put, sA, sZ, sS]
              refine tk 39 116 (.bool false) rfl hHeld ?_
              simp only [Act.put, sA, sZ, sS]
              refine tk 40 117 (.bool false) rfl hHeld ?_
              simp only [Act.put, sA, sZ, sS]
              refine tkN 41 118 rfl hHeld ?_
              simp only [Act.put, sA, sZ, sS]
              refine tk 42 119 (.bool false) rfl hHeld ?_
              simp only [Act.put, sA, sZ, sS]
              refine tk 43 120 (.bool false) rfl hHeld ?_
              simp only [Act.put, sA, sZ, sS]
              refine tk 44 121 (.bool false) rfl hHeld ?_
              simp only [Act.put, sA, sZ, sS]
              refine tk 45 122 (.pointer (some ⟨g, 0, none⟩)) rfl hHeld ?_
              simp only [Act.put, sA, sZ, sS]
              refine tk 47 124 (.int .u8 (num : Int)) rfl hHeld ?_
              simp only [Act.put, sA, sZ, sS]
              have hcl := Tj.out.len HS.out
              obtain ⟨ml, hml⟩ : ∃ n, mm.length = n := ⟨_, rfl⟩
              have hmr : ¬ RR < ml := by have h := HRU.out.fits; omega
              have hms : ¬ (RR : Int) < (ml : Int) := by omega
              rw [hml] at hcl
              have HCL := Lib.hid hcl
              clear hcl hml
              refine wpAnyH_ready (rs := [46]) (by kernel_rfl) (by simp) (AllReadyH.cons (o := ⟨some 123, _, _, _, _, _⟩) rfl (fun K hK => ?_) AllReadyH.nil)
              go_simp
              refine HCL.out.mono ?_
              rintro e wk ⟨rfl, fq, hT, hkp, hs⟩
              have TV := Lib.hid hT
              have LV := Lib.hid (Lj.out.left hkp hs)
              have GV := Lib.hid (Gj.out.left hkp hs)
              have Hk := Lib.hid (Hj.out.left hkp hs)
              clear hT hkp hs Tj Lj Gj Hj HCL
              refine hK.out _ _ (⟨TV.out.bel, out_at Hk.out⟩) (fun hHeld => ?_)
              clear hK K 
              refine wpAnyH_ready (rs := [48]) (by kernel_rfl) (by simp) (AllReadyH.cons (o := ⟨some 125, _, _, _, _, _⟩) rfl (fun K hK => ?_) AllReadyH.nil)
              go_simp
              refine (HRM.out _).mono ?_
              rintro e wq ⟨rfl, hq⟩
              subst hq
              refine hK.out _ _ (hHeld) (fun hHeld => ?_)
              clear hK K 
              refine tk 49 126 (.bool false) rfl hHeld ?_
              simp only [Act.put, sA, sZ, sS]
              refine tk 50 127 (.bool false) rfl hHeld ?_
              simp only [Act.put, sA, sZ, sS]
              clear hHeld hmr hms Hk
              refine wpAnyH_done (by kernel_rfl) ?_ _
              go_wp2_with fail
              go_loopw [18] (fun v18 wr => ∃ (k : Nat) (fq : Nat → Prop), k ≤ nw ∧ v18 = .int .i64 (k : Int) ∧ Hid (Tb Rep Y Y.heap.size (.pointer (some ⟨g, 0, none⟩)) RR mm wr fq) ∧ Hid (OutS wr fq BW (.slice Aw nw cw) m) ∧ Hid (Out wr fq wd.heap.size go)) (fun v18 _ => nw - (RowKit.intOf v18).toNat)
              case atStart => exact ⟨0, fq, Nat.zero_le _, rfl, TV, LV, GV⟩
              case round =>
                clear TV LV GV
                obtain ⟨k, fq, hk, rfl, TQ, LQ, GQ⟩ := hrel
                by_cases hlk : k < nw
                · skip
                  have h2 : (k : Int) < (nw : Int) := by omega
                  have h3 : (0 : Int) ≤ (k : Int) := by omega
                  have hk8 : k < 9223372036854775807 := by have := HNW.out; have := HRT.out.fits; have := HQ4.out; omega
                  obtain ⟨y, hy⟩ : ∃ y, m[k]? = some y := ⟨_, List.getElem?_eq_getElem (by rw [← HNW.out]; exact hlk)⟩
                  obtain ⟨gx, cx, eX, _⟩ := LQ.out.1.form (by rw [← HNW.out]; omega)
                  have eA : Aw = some ⟨gx, 0, none⟩ := by cases eX; rfl
                  subst eA
                  clear eX
                  have HYM := Lib.hid (List.mem_of_getElem? hy)
                  have HYY := Lib.hid hy
                  have HRY := Lib.hid (HRT.out.right y HYM.out)
                  obtain ⟨JY, hJY⟩ : ∃ J, (tuL y.k).toArray = J := ⟨_, rfl⟩
                  have HJY := Lib.hid hJY
                  obtain ⟨OY, hOY⟩ : ∃ O, (fwL y).toArray = O := ⟨_, rfl⟩
                  have HOY := Lib.hid hOY
                  have HLK := Lib.hid hlk
                  clear hy hJY hOY hlk hk
                  obtain ⟨z, hz, _, hzy⟩ := put_all HRT.out HQ3.out HLF.out HYM.out
                  obtain ⟨q, hq⟩ : ∃ q, fwQ z y = q := ⟨_, rfl⟩
                  have HQQ := Lib.hid hq
                  have HZZ9 := Lib.hid hz
                  have HZY := Lib.hid hzy
                  clear hz hzy hq
                  cases q
                  · have HPP : Hid (tuQ y.k f.k = true) := Lib.hid (HZY.out.elim (fun e => by have h := HQQ.out; rw [e, fwQ_self] at h; cases h) (fun h => h.1))
                    obtain ⟨OZ, hOZ⟩ : ∃ O, (fwL z).toArray = O := ⟨_, rfl⟩
                    have HOZ := Lib.hid hOZ
                    clear hOZ
                    have HGV : Hid (getV mm y.k = .tuple #[.agg OZ, .bool true]) := Lib.hid (by rw [← HMM.out, getV_some HZZ9.out, fw_c HOZ.out])
                    as_aux_lemma =>
                      go_upto_region 19 with (first | ((with_reducible show wpList _ _ _ (⟨some 140, _, _, _, _, _⟩ :: _) _ _); refine wpList_loadKeyF (op := ⟨some 140, _, _, _, _, _⟩) _ rfl (by rfl) gx (k * 41) (by rfl) y (outs_at LQ.out HYY.out) JY HJY.out ?_) | ((have hq := TQ.out.get HS.out (right_inT HRY.out)); (rw [key_c HJY.out, HGV.out] at hq); (with_reducible refine hq.mono ?_); clear hq; rintro e wo ⟨rfl, fqo, hT, hkp, hs⟩; have Tr := Lib.hid hT; have Lr := Lib.hid (LQ.out.left hkp hs); have Gr := Lib.hid (GQ.out.left hkp hs); clear hT hkp hs TQ LQ GQ) | ((with_reducible show wpList _ _ _ (⟨none, .store _ (.tmp 19) _, _, _, _, _⟩ :: _) _ _); refine wpList_storeNewG rfl 28 _ _ rfl (by rfl) (fwL z) (by rw [HOZ.out]; rfl) (by rw [fwL_len]; rfl) (sizeFwL _) (fwL_one _) ?_; intro wp hb9 hB9 _; have Ts := Lib.hid (Tr.out.below HS.out hB9); have Ls := Lib.hid (Lr.out.below hB9); have Gs := Lib.hid (Gr.out.below hB9); have Zs : Hid (Out wp fqo wo.heap.size z) := Lib.hid ⟨hb9, Tr.out.new_off HS.out (Nat.le_refl _)⟩; clear hb9 hB9 Tr Lr Gr))
                      refine wp_region_held_drew (S := fun W => Below wp.heap.size wp W) (by kernel_rfl) ((Below.refl _ _).drew) (fun hHeld => ?_)
                      refine tk 0 144 (.bool false) rfl hHeld ?_
                      simp only [Act.put, sA, sZ, sS]
                      refine tk 1 145 (.bool false) rfl hHeld ?_
                      simp only [Act.put, sA, sZ, sS]
                      refine tkN 2 146 rfl hHeld ?_
                      simp only [Act.put, sA, sZ, sS]
                      refine tkN 3 147 rfl hHeld ?_
                      simp only [Act.put, sA, sZ, sS]
                      refine tkN 4 148 rfl hHeld ?_
                      simp only [Act.put, sA, sZ, sS]
                      refine tkN 5 149 rfl hHeld ?_
                      simp only [Act.put, sA, sZ, sS]
                      refine tkN 6 150 rfl hHeld ?_
                      simp only [Act.put, sA, sZ, sS]
                      refine tkN 7 151 rfl hHeld ?_
                      simp only [Act.put, sA, sZ, sS]
                      refine tkN 8 152 rfl hHeld ?_
                      simp only [Act.put, sA, sZ, sS]
                      refine tkN 9 153 rfl hHeld ?_
                      simp only [Act.put, sA, sZ, sS]
                      refine tk 10 154 (.bool false) rfl hHeld ?_
                      simp only [Act.put, sA, sZ, sS]
                      refine tk 11 21 (.bool false) rfl hHeld ?_
                      simp only [Act.put, sA, sZ, sS]
                      have Tt := Lib.hid (Ts.out.below HS.out hHeld)
                      have Lt := Lib.hid (Ls.out.below hHeld)
                      have Gt := Lib.hid (Gs.out.below hHeld)
                      have Zt := Lib.hid (Zs.out.below hHeld)
                      clear hHeld Ts Ls Gs Zs
                      refine wpAnyH_done (by kernel_rfl) ?_ _
                      go_upto_region 20 with (fail)
                      refine wp_region_held_drew (S := fun W => (∃ fq, Hid (Tb Rep Y Y.heap.size (.pointer (some ⟨g, 0, none⟩)) RR mm W fq) ∧ Hid (OutS W fq BW (.slice (some ⟨gx, 0, none⟩) nw cw) m) ∧ Hid (Out W fq wd.heap.size go) ∧ Hid (Out W fq wo.heap.size z))) (by kernel_rfl) (⟨fqo, Lib.hid (Tt.out.drew HS.out), Lib.hid (show OutS _ fqo BW (.slice (some ⟨gx, 0, none⟩) nw cw) m from Lt.out), Lib.hid (show Out _ fqo wd.heap.size go from Gt.out), Lib.hid (show Out _ fqo wo.heap.size z from Zt.out)⟩) (fun hHeld => ?_)
                      clear Tt Lt Gt Zt
                      refine tk 0 155 (.bool false) rfl hHeld ?_
                      simp only [Act.put, sA, sZ, sS]
                      refine tk 1 156 (.bool true) rfl hHeld ?_
                      simp only [Act.put, sA, sZ, sS]
                      refine tk 2 157 (.bool false) rfl hHeld ?_
                      simp only [Act.put, sA, sZ, sS]
                      refine tk 3 158 (.bool false) rfl hHeld ?_
                      simp only [Act.put, sA, sZ, sS]
                      refine tk 4 159 (.bool false) rfl hHeld ?_
                      simp only [Act.put, sA, sZ, sS]
                      refine tk 5 160 (.bool false) rfl hHeld ?_
                      simp only [Act.put, sA, sZ, sS]
                      refine tkN 6 161 rfl hHeld ?_
                      simp only [Act.put, sA, sZ, sS]
                      refine tkN 7 162 rfl hHeld ?_
                      simp only [Act.put, sA, sZ, sS]
                      refine tkN 8 163 rfl hHeld ?_
                      simp only [Act.put, sA, sZ, sS]
                      refine tkN 9 164 rfl hHeld ?_
                      simp only [Act.put, sA, sZ, sS]
                      refine tkN 10 165 rfl hHeld ?_
                      simp only [Act.put, sA, sZ, sS]
                      refine tkN 11 166 rfl hHeld ?_
                      simp only [Act.put, sA, sZ, sS]
                      refine tk 12 167 (.bool false) rfl hHeld ?_
                      simp only [Act.put, sA, sZ, sS]
                      refine tk 13 168 (.bool false) rfl hHeld ?_
                      simp only [Act.put, sA, sZ, sS]
                      refine tk 14 169 (.bool false) rfl hHeld ?_
                      simp only [Act.put, sA, sZ, sS]
                      refine tk 15 170 (.bool true) rfl hHeld ?_
                      simp only [Act.put, sA, sZ, sS]
                      refine tk 16 171 (.bool true) rfl hHeld ?_
                      simp only [Act.put, sA, sZ, sS]
                      refine tkY 17 172 (.agg OZ) rfl (yields_loadFw (by rfl) _ rfl wo.heap.size 0 (by rfl) z (fun W hW => by obtain ⟨_, _, _, _, hz⟩ := hW; exact out_at hz.out) OZ HOZ.out) hHeld ?_
                      simp only [Act.put, sA, sZ, sS]
                      refine tk 18 173 (.slice (some ⟨gx, 0, none⟩) nw cw) rfl hHeld ?_
                      simp only [Act.put, sA, sZ, sS]
                      refine tk 19 174 (.int .i64 (k : Int)) rfl hHeld ?_
                      simp only [Act.put, sA, sZ, sS]
                      refine tk 20 175 (.pointer (some ⟨gx, k * 41, none⟩)) rfl hHeld ?_
                      simp only [Act.put, sA, sZ, sS]
                      refine tkY 21 176 (.agg OY) rfl (yields_loadFw (by rfl) _ rfl gx (k * 41) (by rfl) y (fun W hW => by obtain ⟨_, _, hl, _, _⟩ := hW; exact outs_at hl.out HYY.out) OY HOY.out) hHeld ?_
                      simp only [Act.put, sA, sZ, sS]
                      refine tkY 22 177 (.bool true) rfl (yields_cmpS (by rfl) .neq 28 _ _ _ rfl OZ OY (by rfl) (by rfl) guard_fw true (fun W => by have h := ne_fws HOZ.out HOY.out W; rwa [HQQ.out] at h)) hHeld ?_
                      simp only [Act.put, sA, sZ, sS]
                      refine tk 23 178 (.bool true) rfl hHeld ?_
                      simp only [Act.put, sA, sZ, sS]
                      refine tk 24 179 (.bool true) rfl hHeld ?_
                      simp only [Act.put, sA, sZ, sS]
                      refine tk 25 180 (.slice (some ⟨gx, 0, none⟩) nw cw) rfl hHeld ?_
                      simp only [Act.put, sA, sZ, sS]
                      refine tk 26 181 (.int .i64 (k : Int)) rfl hHeld ?_
                      simp only [Act.put, sA, sZ, sS]
                      refine tk 27 182 (.pointer (some ⟨gx, k * 41, none⟩)) rfl hHeld ?_
                      simp only [Act.put, sA, sZ, sS]
                      refine tk 28 183 (.pointer (some ⟨gx, k * 41, none⟩)) rfl hHeld ?_
                      simp only [Act.put, sA, sZ, sS]
                      refine tkY 29 184 (.agg JY) rfl (yields_loadTu (by rfl) _ rfl gx (k * 41) (by rfl) y (fun W hW => by obtain ⟨_, _, hl, _, _⟩ := hW; exact outs_at hl.out HYY.out) JY HJY.out) hHeld ?_
                      simp only [Act.put, sA, sZ, sS]
                      refine tk 30 185 (.slice (some ⟨b, off, none⟩) len cap) rfl hHeld ?_
                      simp only [Act.put, sA, sZ, sS]
                      refine tk 31 186 (.int .i64 (i : Int)) rfl hHeld ?_
                      simp only [Act.put, sA, sZ, sS]
                      refine tk 32 187 (.pointer (some ⟨b, off + i * 41, none⟩)) rfl hHeld ?_
                      simp only [Act.put, sA, sZ, sS]
                      refine tk 33 188 (.pointer (some ⟨b, off + i * 41, none⟩)) rfl hHeld ?_
                      simp only [Act.put, sA, sZ, sS]
                      refine tkY 34 189 (.agg J) rfl (yields_loadTu (by rfl) _ rfl b (off + i * 41) (by rfl) f (fun W hW => by obtain ⟨_, ht, _, _, _⟩ := hW; exact RX.out W ht.out.bel) J HJ.out) hHeld ?_
                      simp only [Act.put, sA, sZ, sS]
                      refine tkY 35 190 (.bool false) rfl (yields_cmpS (by rfl) .neq 26 _ _ _ rfl JY J (by rfl) (by rfl) guard_tu' false (fun W => by have h := ne_keys HJY.out HJ.out W; rwa [HPP.out] at h)) hHeld ?_
                      simp only [Act.put, sA, sZ, sS]
                      refine tk 36 191 (.bool false) rfl hHeld ?_
                      simp only [Act.put, sA, sZ, sS]
                      refine tk 37 192 (.int .i64 0) rfl hHeld ?_
                      simp only [Act.put, sA, sZ, sS]
                      refine tk 38 193 (.bool false) rfl hHeld ?_
                      simp only [Act.put, sA, sZ, sS]
                      refine tk 39 194 (.bool false) rfl hHeld ?_
                      simp only [Act.put, sA, sZ, sS]
                      refine tk 40 195 (.bool false) rfl hHeld ?_
                      simp only [Act.put, sA, sZ, sS]
                      refine tk 41 196 (.bool false) rfl hHeld ?_
                      simp only [Act.put, sA, sZ, sS]
                      obtain ⟨fqx, a1, a2, a3, _⟩ := hHeld
                      refine wpAnyH_done (by kernel_rfl) ?_ _
                      go_wp2_with fail
                      go_roundw
                      case rel => exact ⟨k + 1, fqx, HLK.out, by have := HLK.out; go_num, a1, a2, a3⟩
                      case measure =>
                        have := HLK.out
                        simp [RowKit.intOf]
                        omega
                  · have HGV : Hid (getV mm y.k = .tuple #[.agg OY, .bool true]) := Lib.hid (by rw [← HMM.out, getV_some HZZ9.out, fwQ_eq.1 HQQ.out, fw_c HOY.out])
                    as_aux_lemma =>
                      go_upto_region 19 with (first | ((with_reducible show wpList _ _ _ (⟨some 140, _, _, _, _, _⟩ :: _) _ _); refine wpList_loadKeyF (op := ⟨some 140, _, _, _, _, _⟩) _ rfl (by rfl) gx (k * 41) (by rfl) y (outs_at LQ.out HYY.out) JY HJY.out ?_) | ((have hq := TQ.out.get HS.out (right_inT HRY.out)); (rw [key_c HJY.out, HGV.out] at hq); (with_reducible refine hq.mono ?_); clear hq; rintro e wo ⟨rfl, fqo, hT, hkp, hs⟩; have Tr := Lib.hid hT; have Lr := Lib.hid (LQ.out.left hkp hs); have Gr := Lib.hid (GQ.out.left hkp hs); clear hT hkp hs TQ LQ GQ) | ((with_reducible show wpList _ _ _ (⟨none, .store _ (.tmp 19) _, _, _, _, _⟩ :: _) _ _); refine wpList_storeNewG rfl 28 _ _ rfl (by rfl) (fwL y) (by rw [HOY.out]; rfl) (by rw [fwL_len]; rfl) (sizeFwL _) (fwL_one _) ?_; intro wp hb9 hB9 _; have Ts := Lib.hid (Tr.out.below HS.out hB9); have Ls := Lib.hid (Lr.out.below hB9); have Gs := Lib.hid (Gr.out.below hB9); have Zs : Hid (Out wp fqo wo.heap.size y) := Lib.hid ⟨hb9, Tr.out.new_off HS.out (Nat.le_refl _)⟩; clear hb9 hB9 Tr Lr Gr))
                      refine wp_region_held_drew (S := fun W => Below wp.heap.size wp W) (by kernel_rfl) ((Below.refl _ _).drew) (fun hHeld => ?_)
                      refine tk 0 144 (.bool false) rfl hHeld ?_
                      simp only [Act.put, sA, sZ, sS]
                      refine tk 1 145 (.bool false) rfl hHeld ?_
                      simp only [Act.put, sA, sZ, sS]
                      refine tkN 2 146 rfl hHeld ?_
                      simp only [Act.put, sA, sZ, sS]
                      refine tkN 3 147 rfl hHeld ?_
                      simp only [Act.put, sA, sZ, sS]
                      refine tkN 4 148 rfl hHeld ?_
                      simp only [Act.put, sA, sZ, sS]
                      refine tkN 5 149 rfl hHeld ?_
                      simp only [Act.put, sA, sZ, sS]
                      refine tkN 6 150 rfl hHeld ?_
                      simp only [Act.put, sA, sZ, sS]
                      refine tkN 7 151 rfl hHeld ?_
                      simp only [Act.put, sA, sZ, sS]
                      refine tkN 8 152 rfl hHeld ?_
                      simp only [Act.put, sA, sZ, sS]
                      refine tkN 9 153 rfl hHeld ?_
                      simp only [Act.put, sA, sZ, sS]
                      refine tk 10 154 (.bool false) rfl hHeld ?_
                      simp only [Act.put, sA, sZ, sS]
                      refine tk 11 21 (.bool false) rfl hHeld ?_
                      simp only [Act.put, sA, sZ, sS]
                      have Tt := Lib.hid (Ts.out.below HS.out hHeld)
                      have Lt := Lib.hid (Ls.out.below hHeld)
                      have Gt := Lib.hid (Gs.out.below hHeld)
                      have Zt := Lib.hid (Zs.out.below hHeld)
                      clear hHeld Ts Ls Gs Zs
                      refine wpAnyH_done (by kernel_rfl) ?_ _
                      go_upto_region 20 with (fail)
                      refine wp_region_held_drew (S := fun W => (∃ fq, Hid (Tb Rep Y Y.heap.size (.pointer (some ⟨g, 0, none⟩)) RR mm W fq) ∧ Hid (OutS W fq BW (.slice (some ⟨gx, 0, none⟩) nw cw) m) ∧ Hid (Out W fq wd.heap.size go) ∧ Hid (Out W fq wo.heap.size y))) (by kernel_rfl) (⟨fqo, Lib.hid (Tt.out.drew HS.out), Lib.hid (show OutS _ fqo BW (.slice (some ⟨gx, 0, none⟩) nw cw) m from Lt.out), Lib.hid (show Out _ fqo wd.heap.size go from Gt.out), Lib.hid (show Out _ fqo wo.heap.size y from Zt.out)⟩) (fun hHeld => ?_)
                      clear Tt Lt Gt Zt
                      refine tk 0 155 (.bool false) rfl hHeld ?_
                      simp only [Act.put, sA, sZ, sS]
                      refine tk 1 156 (.bool true) rfl hHeld ?_
                      simp only [Act.put, sA, sZ, sS]
                      refine tk 2 157 (.bool false) rfl hHeld ?_
                      simp only [Act.put, sA, sZ, sS]
                      refine tk 3 158 (.bool false) rfl hHeld ?_
                      simp only [Act.put, sA, sZ, sS]
                      refine tk 4 159 (.bool false) rfl hHeld ?_
                      simp only [Act.put, sA, sZ, sS]
                      refine tk 5 160 (.bool false) rfl hHeld ?_
                      simp only [Act.put, sA, sZ, sS]
                      refine tkN 6 161 rfl hHeld ?_
                      simp only [Act.put, sA, sZ, sS]
                      refine tkN 7 162 rfl hHeld ?_
                      simp only [Act.put, sA, sZ, sS]
                      refine tkN 8 163 rfl hHeld ?_
                      simp only [Act.put, sA, sZ, sS]
                      refine tkN 9 164 rfl hHeld ?_
                      simp only [Act.put, sA, sZ, sS]
                      refine tkN 10 165 rfl hHeld ?_
                      simp only [Act.put, sA, sZ, sS]
                      refine tkN 11 166 rfl hHeld ?_
                      simp only [Act.put, sA, sZ, sS]
                      refine tk 12 167 (.bool false) rfl hHeld ?_
                      simp only [Act.put, sA, sZ, sS]
                      refine tk 13 168 (.bool false) rfl hHeld ?_
                      simp only [Act.put, sA, sZ, sS]
                      refine tk 14 169 (.bool false) rfl hHeld ?_
                      simp only [Act.put, sA, sZ, sS]
                      refine tk 15 170 (.bool true) rfl hHeld ?_
                      simp only [Act.put, sA, sZ, sS]
                      refine tk 16 171 (.bool true) rfl hHeld ?_
                      simp only [Act.put, sA, sZ, sS]
                      refine tkY 17 172 (.agg OY) rfl (yields_loadFw (by rfl) _ rfl wo.heap.size 0 (by rfl) y (fun W hW => by obtain ⟨_, _, _, _, hz⟩ := hW; exact out_at hz.out) OY HOY.out) hHeld ?_
                      simp only [Act.put, sA, sZ, sS]
                      refine tk 18 173 (.slice (some ⟨gx, 0, none⟩) nw cw) rfl hHeld ?_
                      simp only [Act.put, sA, sZ, sS]
                      refine tk 19 174 (.int .i64 (k : Int)) rfl hHeld ?_
                      simp only [Act.put, sA, sZ, sS]
                      refine tk 20 175 (.pointer (some ⟨gx, k * 41, none⟩)) rfl hHeld ?_
                      simp only [Act.put, sA, sZ, sS]
                      refine tkY 21 176 (.agg OY) rfl (yields_loadFw (by rfl) _ rfl gx (k * 41) (by rfl) y (fun W hW => by obtain ⟨_, _, hl, _, _⟩ := hW; exact outs_at hl.out HYY.out) OY HOY.out) hHeld ?_
                      simp only [Act.put, sA, sZ, sS]
                      refine tkY 22 177 (.bool false) rfl (yields_cmpS (by rfl) .neq 28 _ _ _ rfl OY OY (by rfl) (by rfl) guard_fw false (fun W => by have h := ne_fws HOY.out HOY.out W; rwa [fwQ_self] at h)) hHeld ?_
                      simp only [Act.put, sA, sZ, sS]
                      refine tk 23 178 (.bool false) rfl hHeld ?_
                      simp only [Act.put, sA, sZ, sS]
                      refine tk 24 179 (.bool false) rfl hHeld ?_
                      simp only [Act.put, sA, sZ, sS]
                      refine tkN 25 180 rfl hHeld ?_
                      simp only [Act.put, sA, sZ, sS]
                      refine tkN 26 181 rfl hHeld ?_
                      simp only [Act.put, sA, sZ, sS]
                      refine tkN 27 182 rfl hHeld ?_
                      simp only [Act.put, sA, sZ, sS]
                      refine tkN 28 183 rfl hHeld ?_
                      simp only [Act.put, sA, sZ, sS]
                      refine tkN 29 184 rfl hHeld ?_
                      simp only [Act.put, sA, sZ, sS]
                      refine tkN 30 185 rfl hHeld ?_
                      simp only [Act.put, sA, sZ, sS]
                      refine tkN 31 186 rfl hHeld ?_
                      simp only [Act.put, sA, sZ, sS]
                      refine tkN 32 187 rfl hHeld ?_
                      simp only [Act.put, sA, sZ, sS]
                      refine tkN 33 188 rfl hHeld ?_
                      simp only [Act.put, sA, sZ, sS]
                      refine tkN 34 189 rfl hHeld ?_
                      simp only [Act.put, sA, sZ, sS]
                      refine tkN 35 190 rfl hHeld ?_
                      simp only [Act.put, sA, sZ, sS]
                      refine tkN 36 191 rfl hHeld ?_
                      simp only [Act.put, sA, sZ, sS]
                      refine tkN 37 192 rfl hHeld ?_
                      simp only [Act.put, sA, sZ, sS]
                      refine tkN 38 193 rfl hHeld ?_
                      simp only [Act.put, sA, sZ, sS]
                      refine tkN 39 194 rfl hHeld ?_
                      simp only [Act.put, sA, sZ, sS]
                      refine tk 40 195 (.bool false) rfl hHeld ?_
                      simp only [Act.put, sA, sZ, sS]
                      refine tk 41 196 (.bool false) rfl hHeld ?_
                      simp only [Act.put, sA, sZ, sS]
                      obtain ⟨fqx, a1, a2, a3, _⟩ := hHeld
                      refine wpAnyH_done (by kernel_rfl) ?_ _
                      go_wp2_with fail
                      go_roundw
                      case rel => exact ⟨k + 1, fqx, HLK.out, by have := HLK.out; go_num, a1, a2, a3⟩
                      case measure =>
                        have := HLK.out
                        simp [RowKit.intOf]
                        omega
                · obtain rfl : nw = k := by omega
                  have h2 : ¬ (nw : Int) < (nw : Int) := by omega
                  clear hlk hk
                  go_wp2_with fail
                  go_roundw
                  case rel => exact ⟨i + 1, fq, mm, HLT.out, by have := HLT.out; go_num, TQ⟩
                  case measure =>
                    have := HLT.out
                    simp [RowKit.intOf]
                    omega
      · obtain rfl : len = i := by omega
        have h1 : ¬ (len : Int) < (len : Int) := by omega
        clear hli hi
        go_wp2_with fail
        go_ret
        exact ⟨rfl, HB.out.trans (TT.out.bel.mono HB.out.size)⟩
end Go.Proofs.Ytfbiinipiklkaaa
