/-
  FlowSweeps: its walk, the program's contracts a premise.
-/
import Derived.Test.YtfbiinipiklkaaaFLBld
import Derived.Test.YtfbiinipiklkaaaFLMath4
namespace Go.Proofs.Ytfbiinipiklkaaa
set_option maxRecDepth 100000
open Go.RowKit Go.Lib

set_option maxHeartbeats 64000000 in
theorem flowSweeps_walkW {Rep : RepF} (S : FlowC Rep) (key : List UInt8) (hk : key.length = 16) (num : Nat) (hnum : num < 256) (A : Option Addr) (len cap : Nat) (xs : List Fw) (hc : len ≤ cap) (hm : cap ≤ maxLen) (hX : ∀ x, x ∈ xs → FwOk x) (now : Int) (hnow : In64 now) (idle : List Int) (h6 : idle.length = 6) (hid : ∀ z, z ∈ idle → In64 z) (w : World) (hI : RdG eF w w.heap.size A len xs) :
    Calls Try.prog 7 #[.agg (key.map v8).toArray, .int .u8 (num : Int), .slice A len cap, .int .i64 now, zC idle] w fun e w' => e = .returned (.bool true) ∧ Below w.heap.size w w' := by
  have HS := Lib.hid S
  have HKL := Lib.hid hk
  have HLB := Lib.hid (show len ≤ 9223372036854775807 by unfold maxLen at hm; omega)
  have HL := Lib.hid hI.len
  obtain ⟨KK, hKK⟩ : ∃ O, (key.map v8).toArray = O := ⟨_, rfl⟩
  have HKK := Lib.hid hKK
  obtain ⟨ZI, hZI⟩ : ∃ O, (zL idle).toArray = O := ⟨_, rfl⟩
  have HZI := Lib.hid hZI
  have e0 : zC idle = .agg ZI := by unfold zC; rw [hZI]
  have HZC := Lib.hid e0
  have HH6 := Lib.hid h6
  have HID := Lib.hid hid
  have HNO := Lib.hid hnow
  obtain ⟨Y, hY⟩ : ∃ Y, (w.alloc (.cells KK 22)).alloc (.cells ZI 45) = Y := ⟨_, rfl⟩
  have hs1 := World.size_alloc w (.cells KK 22)
  have KY : Blk Y 22 w.heap.size (key.map v8) := by rw [← hY, ← hKK]; exact Blk_10.alloc (Blk_10.new w _ (key.map v8)) _
  have KI : Blk Y 45 (w.heap.size + 1) (zL idle) := by
    rw [← hY, ← hZI]
    have := Blk_10.new (w.alloc (.cells KK 22)) 45 (zL idle)
    rw [hs1] at this
    exact this
  have hB0 : Below w.heap.size w Y := by rw [← hY]; exact ((Below.refl w.heap.size w).alloc (Nat.le_refl _) _).alloc (by rw [hs1]; exact Nat.le_succ _) _
  have PI : Hid (∀ W, Below Y.heap.size Y W → W.rangeAt (w.heap.size + 1) 0 (zL idle)) := Lib.hid (fun W h => Blk_10.range (Blk_10.below KI (Blk_10.lt KI) h))
  have PK : Hid (∀ W, Below Y.heap.size Y W → W.rangeAt w.heap.size 0 (key.map v8)) := Lib.hid (fun W h => Blk_10.range (Blk_10.below KY (Blk_10.lt KY) h))
  have HR := Lib.hid (hI.below hB0)
  have HB := Lib.hid hB0
  have PR : Hid (∀ W, Below Y.heap.size Y W → RdG eF W w.heap.size A len xs) := Lib.hid (fun W h => HR.out.below (h.mono HB.out.size))
  have HY := Lib.hid hY
  have HAW := Lib.hid (fun W => awake_any S W)
  have HNEW := Lib.hid (fun (r : Nat) (h1 : 1 ≤ r) (h2 : r ≤ 4096) (w0 : World) (B : Nat) (W : World) (hB : B ≤ w0.heap.size) (h : Below B w0 W) => tb_new S (w0 := w0) (B := B) (r := r) hk h1 h2 hB h)
  rw [hKK] at HNEW
  obtain ⟨F, hF⟩ : ∃ F, fewN (nmsF xs) = F := ⟨_, rfl⟩
  have HFE := Lib.hid hF
  have HFW : Hid (∀ W, Below Y.heap.size Y W → Calls Try.prog 29 #[.slice A len cap] W fun e w' => e = .returned (.bool F) ∧ w' = W) := Lib.hid (fun W h => by rw [← hF]; exact rfew21_any cap HLB.out W (PR.out W h))
  have HXO := Lib.hid hX
  rw [hKK]
  rw [e0]
  clear hs1 KI hZI e0

  clear hY hF hI hX hk hm hB0 KY S hnow h6 hid
  cases F
  · skip
    go_enter Try.func7, Try.ntmps7
    go_upto_region 1 with (fail)
    rw [HY.out]
    go_wp2_with (first | ((with_reducible refine (HAW.out Y).mono ?_); rintro e w1 ⟨rfl, hb⟩; have D1 := Lib.hid hb; clear hb) | ((with_reducible refine (HFW.out w1 D1.out).mono ?_); rintro e wf ⟨rfl, hwf⟩; subst hwf))
    refine (HAW.out _).mono ?_
    rintro e wz ⟨rfl, hz⟩
    go_wp2_with fail
    go_ret
    exact ⟨rfl, HB.out.trans ((bel3 D1.out hz).mono HB.out.size)⟩
  · have hfw := (fewN_iff _).1 HFE.out
    have HN80 := Lib.hid (show len ≤ 80 by have h := hfw.1; rw [nmsF_len, HL.out] at h; exact h)
    have HIN := Lib.hid (fun x (h : x ∈ xs) => (HXO.out x h).inF (by have h9 := hfw.2 _ (List.mem_map_of_mem (f := Fw.nm) h); omega))
    clear hfw
    obtain ⟨RR, hRR⟩ : ∃ r, roomN num = r := ⟨_, rfl⟩
    have q3 : 1 ≤ RR := by rw [← hRR]; exact (room_in num).1
    have q4 : RR ≤ 40 := by rw [← hRR]; exact (room_in num).2
    have HRM : Hid (∀ W, Calls Try.prog 18 #[.int .u8 (num : Int)] W fun e w' => e = .returned (.int .i64 (RR : Int)) ∧ w' = W) := Lib.hid (fun W => by rw [← hRR]; exact rroom_any num hnum W)
    have NW : Hid (∀ W, Below Y.heap.size Y W → Calls Try.prog 11 #[.agg KK, .int .i64 (RR : Int)] W (NewGave Rep Y Y.heap.size RR W)) := Lib.hid (fun W h => HNEW.out RR q3 (by omega) Y Y.heap.size W (Nat.le_refl _) h)
    have HQ3 := Lib.hid q3
    have HQ4 := Lib.hid q4
    clear HNEW hRR hnum q3 q4
    go_enter Try.func7, Try.ntmps7
    go_upto_region 1 with (fail)
    rw [HY.out]
    go_upto_region 3 with (first | ((with_reducible refine (HAW.out Y).mono ?_); rintro e w1 ⟨rfl, hb⟩; have D1 := Lib.hid hb; clear hb) | ((with_reducible refine (HFW.out w1 D1.out).mono ?_); rintro e wf ⟨rfl, hwf⟩; subst hwf))
    refine wp_region_held_drew (S := fun W => Below Y.heap.size Y W) (by kernel_rfl) (D1.out.drew) (fun hHeld => ?_)
    refine tkY 0 29 (.agg KK) rfl (by rw [← HKK.out]; exact yieldsIf_load_mid (by rfl) 22 _ rfl w.heap.size 0 (by rfl) (key.map v8) _ PK.out Try.underlying22 rfl (sizeKey HKL.out)) hHeld ?_
    simp only [Act.put, sA, sZ, sS]
    refine tk 1 30 (.int .u8 (num : Int)) rfl hHeld ?_
    simp only [Act.put, sA, sZ, sS]
    refine wpAnyH_ready (rs := [2]) (by kernel_rfl) (by simp) (AllReadyH.cons (o := ⟨some 31, _, _, _, _, _⟩) rfl (fun K hK => ?_) AllReadyH.nil)
    go_simp
    refine (HRM.out _).mono ?_
    rintro e wq ⟨rfl, hq⟩
    subst hq
    refine hK.out _ _ (hHeld) (fun hHeld => ?_)
    clear hK K 
    refine wpAnyH_ready (rs := [3]) (by kernel_rfl) (by simp) (AllReadyH.cons (o := ⟨some 32, _, _, _, _, _⟩) rfl (fun K hK => ?_) AllReadyH.nil)
    go_simp
    refine (NW.out _ hHeld).mono ?_
    rintro e w2 ⟨g, fp2, rfl, hT, _, _⟩
    have T2 := Lib.hid hT
    refine hK.out _ _ (T2.out.bel) (fun hHeld => ?_)
    clear hK K hT
    refine tk 4 28 (.tuple #[.pointer (some ⟨g, 0, none⟩), .int .i64 0]) rfl hHeld ?_
    simp only [Act.put, sA, sZ, sS]
    refine tk 5 33 (.pointer (some ⟨g, 0, none⟩)) rfl hHeld ?_
    simp only [Act.put, sA, sZ, sS]
    refine tk 6 34 (.int .i64 0) rfl hHeld ?_
    simp only [Act.put, sA, sZ, sS]
    refine tk 7 11 (.pointer (some ⟨g, 0, none⟩)) rfl hHeld ?_
    simp only [Act.put, sA, sZ, sS]
    refine tk 8 12 (.int .i64 0) rfl hHeld ?_
    simp only [Act.put, sA, sZ, sS]
    clear hHeld
    refine wpAnyH_done (by kernel_rfl) ?_ _
    go_wp2_with fail
    go_loopw [13] (fun v9 wr => ∃ (i : Nat) (fp : Nat → Prop) (m : List Fw), i ≤ len ∧ v9 = .int .i64 (i : Int) ∧ Hid (Tb Rep Y Y.heap.size (.pointer (some ⟨g, 0, none⟩)) RR m wr fp)) (fun v9 _ => len - (RowKit.intOf v9).toNat)
    case atStart => exact ⟨0, fp2, [], Nat.zero_le _, rfl, T2⟩
    case round =>
      clear T2
      obtain ⟨i, fp, m, hi, rfl, TT⟩ := hrel
      by_cases hli : i < len
      · skip
        have h1 : (i : Int) < (len : Int) := by omega
        have h0 : (0 : Int) ≤ (i : Int) := by omega
        have hk9 : i < 9223372036854775807 := by have := HN80.out; omega
        obtain ⟨f, hx⟩ : ∃ x, xs[i]? = some x := ⟨_, List.getElem?_eq_getElem (by rw [HL.out]; exact hli)⟩
        obtain ⟨b, off, rfl, _⟩ := (PR.out wr TT.out.bel).addr (by omega)
        have RX : Hid (∀ W, Below Y.heap.size Y W → W.rangeAt b (off + i * 41) (fwL f)) := Lib.hid (fun W hW => (PR.out W hW).range hx)
        have HIX := Lib.hid (HIN.out f (List.mem_of_getElem? hx))
        obtain ⟨O, hO⟩ : ∃ O, (fwL f).toArray = O := ⟨_, rfl⟩
        have HO := Lib.hid hO
        have HLT := Lib.hid hli
        have HP : Hid (Calls Try.prog 19 #[(.pointer (some ⟨g, 0, none⟩)), .agg O] wr (MovGave Rep Y Y.heap.size (.pointer (some ⟨g, 0, none⟩)) RR (putT RR m f) wr fp (putV RR m f))) := Lib.hid (by have h := TT.out.put HS.out HIX.out; rwa [fw_c HO.out] at h)
        clear hx hO hli hi
        go_wp2_with (first | ((with_reducible show wpList _ _ _ (⟨some 47, _, _, _, _, _⟩ :: _) _ _); refine wpList_loadFw (op := ⟨some 47, _, _, _, _, _⟩) _ rfl (by rfl) b (off + i * 41) (by rfl) f (RX.out _ TT.out.bel) O HO.out ?_) | ((with_reducible refine HP.out.mono ?_); rintro e w8 ⟨rfl, fp8, hT, hkp, hs⟩; have T8 := Lib.hid hT; clear hT hkp hs))
        go_roundw
        case rel => exact ⟨i + 1, fp8, _, HLT.out, by have := HLT.out; go_num, T8⟩
        case measure =>
          have := HLT.out
          simp [RowKit.intOf]
          omega
      · obtain rfl : len = i := by omega
        have h1 : ¬ (len : Int) < (len : Int) := by omega
        clear hli hi
        obtain ⟨q, hq⟩ : ∃ q, staleF now idle = q := ⟨_, rfl⟩
        have HQ := Lib.hid hq
        have HRT : Hid (RightT RR m) := Lib.hid TT.out.right
        clear hq h1
        go_upto_region 11 with (((have hq := TT.out.list HS.out); (with_reducible refine hq.mono ?_); clear hq; rintro e wa ⟨Aw, nw, cw, rfl, hna, hca, hma, ho, fpa, hT, hkp, hs, hd⟩; have Ta := Lib.hid hT; have La : Hid (OutS wa fpa 0 (.slice Aw nw cw) m) := Lib.hid ⟨ho.base_le (Nat.zero_le _), hd⟩; have HNW := Lib.hid hna; clear hT hkp hs ho hd hna hca hma TT))
        go_upto_region 12 with (first | ((with_reducible refine (HRM.out _).mono ?_); rintro e wq ⟨rfl, hq⟩; subst hq) | ((with_reducible show wpList _ _ _ (⟨some 54, _, _, _, _, _⟩ :: _) _ _); refine wpList_buildw (op := ⟨some 54, _, _, _, _, _⟩) 44 _ rfl (by rfl) _ (by rfl) _ (builtRT _ _ _ _) ?_))
        obtain ⟨w11, h11⟩ : ∃ W, wq.alloc (.cells #[.int .i64 (RR : Int), .slice Aw nw cw] 44) = W := ⟨_, rfl⟩
        rw [h11]
        have hb11 : Below wq.heap.size wq w11 := by rw [← h11]; exact (Below.refl _ _).alloc (Nat.le_refl _) _
        have T1 := Lib.hid (Ta.out.below HS.out hb11)
        obtain ⟨gT, hgT⟩ : ∃ n, wq.heap.size = n := ⟨_, rfl⟩
        have hbk : Blk_10 w11 44 wq.heap.size [.int .i64 (RR : Int), .slice Aw nw cw] := by rw [← h11]; exact Blk_10.new wq _ [.int .i64 (RR : Int), .slice Aw nw cw]
        have RT : Hid (RefT w11 gT (RR : Int) (.slice Aw nw cw) m) := Lib.hid ⟨by rw [← hgT]; exact hbk, La.out.1.below hb11, fun e => by have h9 := La.out.1.ltS _ e; omega⟩
        have HGB : Hid (Y.heap.size ≤ gT) := Lib.hid (by rw [← hgT]; exact Ta.out.big)
        have HG1 : Hid (gT < w11.heap.size) := Lib.hid RT.out.lt
        have NF : Hid (¬ fpa gT ∧ ∀ b, (Value.slice Aw nw cw).ownBlock = some b → ¬ fpa b) := Lib.hid ⟨by rw [← hgT]; exact Ta.out.new_off HS.out (Nat.le_refl _), La.out.2⟩
        rw [hgT]
        clear hbk hb11 h11 hgT Ta La
        go_upto_region 13 with (first | ((with_reducible show wpList _ _ _ (⟨some 58, _, _, _, _, _⟩ :: _) _ _); refine wpList_loadId (op := ⟨some 58, _, _, _, _, _⟩) _ rfl (by rfl) (w.heap.size + 1) 0 (by rfl) HH6.out (PI.out _ T1.out.bel) ZI HZI.out ?_) | ((have hq := T1.out.sweep HS.out HNO.out HH6.out HID.out); (rw [HZC.out, HQ.out] at hq); (with_reducible refine hq.mono ?_); clear hq; rintro e wb ⟨Ag, ng, cg, rfl, hna, hca, hma, ho, fpb, hT, hkp, hs, hd⟩; have T2 := Lib.hid hT; have R2 := Lib.hid (RT.out.keep_fp hkp NF.out.1 NF.out.2); have N2 : Hid (¬ fpb gT) := Lib.hid (off_left hs NF.out.1 RT.out.lt); have L2 : Hid (OutS wb fpb w11.heap.size (.slice Ag ng cg) (m.filter q)) := Lib.hid ⟨ho, hd⟩; have HNG := Lib.hid hna; clear hT hkp hs ho hd hna hca hma T1 RT NF))
        refine wp_region_held_drew (S := fun W => Below Y.heap.size Y W) (by kernel_rfl) (T2.out.bel.drew) (fun hHeld => ?_)
        have T3 := Lib.hid (T2.out.drew HS.out)
        have R3 := Lib.hid R2.out.drew
        have L3 : Hid (OutS wb.drew fpb w11.heap.size (.slice Ag ng cg) (m.filter q)) := Lib.hid (show OutS wb.drew fpb w11.heap.size (.slice Ag ng cg) (m.filter q) from L2.out)
        clear T2 R2 L2
        generalize wb.drew = wc at *
        refine tk 0 60 (.slice Ag ng cg) rfl hHeld ?_
        simp only [Act.put, sA, sZ, sS]
        refine tk 1 61 (.pointer (some ⟨gT, 0, none⟩)) rfl hHeld ?_
        simp only [Act.put, sA, sZ, sS]
        refine tk 2 62 (.int .i64 now) rfl hHeld ?_
        simp only [Act.put, sA, sZ, sS]
        refine tkY 3 63 (.agg ZI) rfl (yields_loadId (by rfl) _ rfl (w.heap.size + 1) 0 (by rfl) HH6.out PI.out ZI HZI.out) hHeld ?_
        simp only [Act.put, sA, sZ, sS]
        refine wpAnyH_ready (rs := [4]) (by kernel_rfl) (by simp) (AllReadyH.cons (o := ⟨some 64, _, _, _, _, _⟩) rfl (fun K hK => ?_) AllReadyH.nil)
        go_simp
        have hq := rsweep_any R3.out (by have h := HRT.out.fits; have := HQ4.out; omega) now HH6.out
        rw [HZC.out, HQ.out] at hq
        refine hq.mono ?_
        clear hq
        rintro e wd ⟨v, lv, rfl, ho, hr, hg, hn, _⟩
        obtain ⟨Av, nv, cv, rfl, hnv, _, _, _, _⟩ := ho.sl
        obtain ⟨Al, nl, cl, rfl, hnl, _, _, _, _⟩ := hr.own.sl
        have T4 := Lib.hid (T3.out.grown HS.out hg HGB.out N2.out)
        have L4 : Hid (OutS wd fpb w11.heap.size (.slice Ag ng cg) (m.filter q)) := Lib.hid ⟨L3.out.1.kept hg (.inr (fun e => by have h8 := L3.out.1.lt _ e; have := HG1.out; omega)), L3.out.2⟩
        have V4 := Lib.hid ho
        have R4 := Lib.hid hr
        have N4 : Hid (∀ b, (Value.slice Al nl cl).ownBlock = some b → ¬ fpb b) := Lib.hid (fun b hb => T3.out.new_off HS.out (hn b hb))
        have HNL : Hid (nl = (m.filter fun x => !q x).length) := Lib.hid hnl
        clear ho hr hg hn hnv hnl T3 R3 L3
        refine hK.out _ _ (T4.out.bel) (fun hHeld => ?_)
        clear hK K 
        refine wpAnyH_ready (rs := [5]) (by kernel_rfl) (by simp) (AllReadyH.cons (o := ⟨some 65, _, _, _, _, _⟩) rfl (fun K hK => ?_) AllReadyH.nil)
        go_simp
        have hq := rsame21_any (w := wd) cg cv (by have h := HRT.out.fits; have := HQ4.out; have := HNG.out; have h2 := swept_len m q; omega) (Nat.le_refl _) (Nat.le_refl _) L4.out.1.rd V4.out.rd
        rw [sameF_iff.2 rfl] at hq
        refine hq.mono ?_
        clear hq
        rintro e we ⟨rfl, hb⟩
        have T5 := Lib.hid (T4.out.below HS.out hb)
        have R5 := Lib.hid (R4.out.below hb)
        have L5 : Hid (OutS we fpb 0 (.slice Ag ng cg) (m.filter q)) := Lib.hid ⟨(L4.out.1.below hb).base_le (Nat.zero_le _), L4.out.2⟩
        clear hb T4 R4 L4 V4
        refine hK.out _ _ (T5.out.bel) (fun hHeld => ?_)
        clear hK K 
        refine tk 6 66 (.bool false) rfl hHeld ?_
        simp only [Act.put, sA, sZ, sS]
        refine tk 7 67 (.bool false) rfl hHeld ?_
        simp only [Act.put, sA, sZ, sS]
        refine tk 8 68 (.pointer (some ⟨g, 0, none⟩)) rfl hHeld ?_
        simp only [Act.put, sA, sZ, sS]
        refine tk 10 70 (.pointer (some ⟨gT, 0, none⟩)) rfl hHeld ?_
        simp only [Act.put, sA, sZ, sS]
        refine tk 11 71 (.pointer (some ⟨gT, 0, none⟩)) rfl hHeld ?_
        simp only [Act.put, sA, sZ, sS]
        refine tk 12 72 (.pointer (some ⟨gT, 1, none⟩)) rfl hHeld ?_
        simp only [Act.put, sA, sZ, sS]
        apply cut_v (H := fun v W => ∃ fq, Hid (Tb Rep Y Y.heap.size (.pointer (some ⟨g, 0, none⟩)) RR (m.filter fun x => !q x) W fq) ∧ Hid (OwnG eF W 0 v (m.filter fun x => !q x)) ∧ Hid (OwnG eF W 0 (.slice Al nl cl) (m.filter fun x => !q x)) ∧ Hid (OutS W fq 0 (.slice Ag ng cg) (m.filter q)))
        case h1 =>
          intro hc0
          refine wpAnyH_ready (rs := [9, 13]) (by kernel_rfl) (by simp) (AllReadyH.cons (o := ⟨some 69, _, _, _, _, _⟩) rfl (fun K hK => ?_) (AllReadyH.cons (o := ⟨some 73, _, _, _, _, _⟩) rfl (fun K hK => ?_) AllReadyH.nil))
          · skip
            go_simp
            refine (HS.out.list T5.out.rep T5.out.right T5.out.room1 T5.out.room2).mono ?_
            rintro e wk ⟨s, fq, rfl, ho, hl, hd⟩
            have Tk := Lib.hid (T5.out.left hl T5.out.right)
            have Rk := Lib.hid (R5.out.keep_fp hl.2.1 N2.out N4.out)
            have Lk := Lib.hid (L5.out.left hl.2.1 hl.2.2)
            have Ok := Lib.hid (ho.base_le (Nat.zero_le _))
            clear ho hl hd
            refine hK.out _ _ (Tk.out.bel) (fun hHeld => ?_)
            clear hK K
            refine wpAnyH_ready (rs := [13]) (by kernel_rfl) (by simp) (AllReadyH.cons (o := ⟨some 73, _, _, _, _, _⟩) rfl (fun K hK => ?_) AllReadyH.nil)
            have hc := Rk.out.blk.cell (i := 1) rfl
            go_simp
            clear hc
            refine hK.out _ _ hHeld (fun hHeld => ?_)
            clear hK K
            exact hc0 s _ ⟨fq, Tk, Ok, Lib.hid Rk.out.own, Lk⟩
          · skip
            have hc := R5.out.blk.cell (i := 1) rfl
            go_simp
            clear hc
            refine hK.out _ _ hHeld (fun hHeld => ?_)
            clear hK K
            refine wpAnyH_ready (rs := [9]) (by kernel_rfl) (by simp) (AllReadyH.cons (o := ⟨some 69, _, _, _, _, _⟩) rfl (fun K hK => ?_) AllReadyH.nil)
            go_simp
            refine (HS.out.list T5.out.rep T5.out.right T5.out.room1 T5.out.room2).mono ?_
            rintro e wk ⟨s, fq, rfl, ho, hl, hd⟩
            have Tk := Lib.hid (T5.out.left hl T5.out.right)
            have Rk := Lib.hid (R5.out.keep_fp hl.2.1 N2.out N4.out)
            have Lk := Lib.hid (L5.out.left hl.2.1 hl.2.2)
            have Ok := Lib.hid (ho.base_le (Nat.zero_le _))
            clear ho hl hd
            refine hK.out _ _ (Tk.out.bel) (fun hHeld => ?_)
            clear hK K
            exact hc0 s _ ⟨fq, Tk, Ok, Lib.hid Rk.out.own, Lk⟩
        case h2 =>
          clear hHeld T5 R5 L5
          rintro s W ⟨fq, T6, V6, U6, L6⟩
          obtain ⟨Ax, nx, cx, rfl, hnx, _, _, _, _⟩ := V6.out.sl
          have hHeld := T6.out.bel
          have HNX : Hid (nx = (m.filter fun x => !q x).length) := Lib.hid hnx
          clear hnx
          refine wpAnyH_ready (rs := [14]) (by kernel_rfl) (by simp) (AllReadyH.cons (o := ⟨some 74, _, _, _, _, _⟩) rfl (fun K hK => ?_) AllReadyH.nil)
          go_simp
          have hq := rsame21_any (w := W) cx cl (by have h := HRT.out.fits; have := HQ4.out; have := HNX.out; have h2 := swept_len m q; omega) (Nat.le_refl _) (Nat.le_refl _) V6.out.rd U6.out.rd
          rw [sameF_iff.2 rfl] at hq
          refine hq.mono ?_
          clear hq
          rintro e wl ⟨rfl, hb⟩
          have T7 := Lib.hid (T6.out.below HS.out hb)
          have L7 := Lib.hid (L6.out.below hb)
          clear hb T6 L6 V6 U6
          refine hK.out _ _ (T7.out.bel) (fun hHeld => ?_)
          clear hK K 
          refine tk 15 75 (.bool false) rfl hHeld ?_
          simp only [Act.put, sA, sZ, sS]
          refine tk 16 76 (.bool false) rfl hHeld ?_
          simp only [Act.put, sA, sZ, sS]
          refine tk 17 77 (.bool false) rfl hHeld ?_
          simp only [Act.put, sA, sZ, sS]
          refine tk 18 78 (.pointer (some ⟨g, 0, none⟩)) rfl hHeld ?_
          simp only [Act.put, sA, sZ, sS]
          refine tk 19 79 (.int .i64 now) rfl hHeld ?_
          simp only [Act.put, sA, sZ, sS]
          refine tkY 20 80 (.agg ZI) rfl (yields_loadId (by rfl) _ rfl (w.heap.size + 1) 0 (by rfl) HH6.out PI.out ZI HZI.out) hHeld ?_
          simp only [Act.put, sA, sZ, sS]
          refine wpAnyH_ready (rs := [21]) (by kernel_rfl) (by simp) (AllReadyH.cons (o := ⟨some 81, _, _, _, _, _⟩) rfl (fun K hK => ?_) AllReadyH.nil)
          go_simp
          have hq := T7.out.sweep HS.out HNO.out HH6.out HID.out
          rw [HZC.out, HQ.out, swept_nil, swept_same] at hq
          refine hq.mono ?_
          clear hq
          rintro e wm ⟨A9, n9, c9, rfl, hn9, _, _, _, fq2, hT, hkp, hs, _⟩
          obtain rfl : n9 = 0 := hn9
          have T8 := Lib.hid hT
          have L8 := Lib.hid (L7.out.left hkp hs)
          clear hT hkp hs T7 L7
          refine hK.out _ _ (T8.out.bel) (fun hHeld => ?_)
          clear hK K 
          refine tk 22 82 (.int .i64 0) rfl hHeld ?_
          simp only [Act.put, sA, sZ, sS]
          refine tk 23 83 (.bool false) rfl hHeld ?_
          simp only [Act.put, sA, sZ, sS]
          refine tk 24 84 (.bool false) rfl hHeld ?_
          simp only [Act.put, sA, sZ, sS]
          clear hHeld
          refine wpAnyH_done (by kernel_rfl) ?_ _
          go_wp2_with fail
          go_loopw [17] (fun v17 wr => ∃ (k : Nat) (fq : Nat → Prop), k ≤ ng ∧ v17 = .int .i64 (k : Int) ∧ Hid (Tb Rep Y Y.heap.size (.pointer (some ⟨g, 0, none⟩)) RR (m.filter fun x => !q x) wr fq) ∧ Hid (OutS wr fq 0 (.slice Ag ng cg) (m.filter q))) (fun v17 _ => ng - (RowKit.intOf v17).toNat)
          case atStart => exact ⟨0, fq2, Nat.zero_le _, rfl, T8, L8⟩
          case round =>
            clear T8 L8
            obtain ⟨k, fq, hk, rfl, TQ, LQ⟩ := hrel
            by_cases hlk : k < ng
            · skip
              have h2 : (k : Int) < (ng : Int) := by omega
              have h3 : (0 : Int) ≤ (k : Int) := by omega
              have HNB : Hid (ng ≤ 40) := Lib.hid (by have h := HRT.out.fits; have := HQ4.out; have := HNG.out; have h9 := swept_len m q; omega)
              have hk8 : k < 9223372036854775807 := by have := HNB.out; omega
              obtain ⟨y, hy⟩ : ∃ y, (m.filter q)[k]? = some y := ⟨_, List.getElem?_eq_getElem (by rw [← HNG.out]; exact hlk)⟩
              obtain ⟨gx, cx, eX, _⟩ := LQ.out.1.form (by rw [← HNG.out]; omega)
              have eA : Ag = some ⟨gx, 0, none⟩ := by cases eX; rfl
              subst eA
              clear eX
              have HYM := Lib.hid (List.mem_of_getElem? hy)
              have HYY := Lib.hid hy
              have HRY := Lib.hid (HRT.out.right y (List.mem_filter.1 HYM.out).1)
              obtain ⟨JY, hJY⟩ : ∃ J, (tuL y.k).toArray = J := ⟨_, rfl⟩
              have HJY := Lib.hid hJY
              obtain ⟨OY, hOY⟩ : ∃ O, (fwL y).toArray = O := ⟨_, rfl⟩
              have HOY := Lib.hid hOY
              obtain ⟨ZZ, hZZ⟩ : ∃ O, (fwL fw0).toArray = O := ⟨_, rfl⟩
              have HZZ := Lib.hid hZZ
              have HGV : Hid (getV (m.filter fun x => !q x) y.k = .tuple #[.agg ZZ, .bool false]) := Lib.hid (by rw [getV_none (swept_none HRT.out HYM.out), fw_c hZZ])
              have HLK := Lib.hid hlk
              clear hJY hOY hZZ hlk hk
              rcases Nat.eq_zero_or_pos k with hk0 | hk0
              · have h7 : ¬ (0 : Int) < (k : Int) := by omega
                have h7n : ¬ 0 < k := by omega
                clear hk0 hy
                go_upto_region 19 with (first | ((with_reducible show wpList _ _ _ (⟨some 97, _, _, _, _, _⟩ :: _) _ _); refine wpList_loadKeyF (op := ⟨some 97, _, _, _, _, _⟩) _ rfl (by rfl) gx (k * 41) (by rfl) y (outs_at LQ.out HYY.out) JY HJY.out ?_) | ((have hq := TQ.out.get HS.out (right_inT HRY.out)); (rw [key_c HJY.out, HGV.out] at hq); (with_reducible refine hq.mono ?_); clear hq; rintro e wo ⟨rfl, fqo, hT, hkp, hs⟩; have Tr := Lib.hid hT; have Lr := Lib.hid (LQ.out.left hkp hs); clear hT hkp hs TQ LQ) | ((with_reducible show wpList _ _ _ (⟨none, .store _ (.tmp 18) _, _, _, _, _⟩ :: _) _ _); refine wpList_storeNewG rfl 28 _ _ rfl (by rfl) (fwL fw0) (by rw [HZZ.out]; rfl) (by rw [fwL_len]; rfl) (sizeFwL _) (fwL_one _) ?_; intro wp hb9 hB9 _; have Ts := Lib.hid (Tr.out.below HS.out hB9); have Ls := Lib.hid (Lr.out.below hB9); clear hb9 hB9 Tr Lr))
                refine wp_region_held_drew (S := fun W => (∃ fq, Hid (Tb Rep Y Y.heap.size (.pointer (some ⟨g, 0, none⟩)) RR (m.filter fun x => !q x) W fq) ∧ Hid (OutS W fq 0 (.slice (some ⟨gx, 0, none⟩) ng cg) (m.filter q)))) (by kernel_rfl) (⟨fqo, Lib.hid (Ts.out.drew HS.out), Lib.hid (show OutS _ fqo 0 (.slice (some ⟨gx, 0, none⟩) ng cg) (m.filter q) from Ls.out)⟩) (fun hHeld => ?_)
                clear Ts Ls
                refine tk 0 101 (.bool false) rfl hHeld ?_
                simp only [Act.put, sA, sZ, sS]
                refine tk 1 102 (.bool false) rfl hHeld ?_
                simp only [Act.put, sA, sZ, sS]
                refine tk 2 103 (.int .i64 (k : Int)) rfl hHeld ?_
                simp only [Act.put, sA, sZ, sS]
                refine tk 3 104 (.bool false) rfl hHeld ?_
                simp only [Act.put, sA, sZ, sS]
                refine tk 4 105 (.bool false) rfl hHeld ?_
                simp only [Act.put, sA, sZ, sS]
                refine tkN 5 106 rfl hHeld ?_
                simp only [Act.put, sA, sZ, sS]
                refine tkN 6 107 rfl hHeld ?_
                simp only [Act.put, sA, sZ, sS]
                refine tkN 7 108 rfl hHeld ?_
                simp only [Act.put, sA, sZ, sS]
                refine tkN 8 109 rfl hHeld ?_
                simp only [Act.put, sA, sZ, sS]
                refine tkN 9 110 rfl hHeld ?_
                simp only [Act.put, sA, sZ, sS]
                refine tkN 10 111 rfl hHeld ?_
                simp only [Act.put, sA, sZ, sS]
                refine tkN 11 112 rfl hHeld ?_
                simp only [Act.put, sA, sZ, sS]
                refine tkN 12 113 rfl hHeld ?_
                simp only [Act.put, sA, sZ, sS]
                refine tkN 13 114 rfl hHeld ?_
                simp only [Act.put, sA, sZ, sS]
                refine tkN 14 115 rfl hHeld ?_
                simp only [Act.put, sA, sZ, sS]
                refine tkN 15 116 rfl hHeld ?_
                simp only [Act.put, sA, sZ, sS]
                refine tk 16 117 (.bool false) rfl hHeld ?_
                simp only [Act.put, sA, sZ, sS]
                refine tk 17 118 (.bool false) rfl hHeld ?_
                simp only [Act.put, sA, sZ, sS]
                obtain ⟨fqx, a1, a2⟩ := hHeld
                refine wpAnyH_done (by kernel_rfl) ?_ _
                go_wp2_with fail
                go_roundw
                case rel => exact ⟨k + 1, fqx, HLK.out, by have := HLK.out; go_num, a1, a2⟩
                case measure =>
                  have := HLK.out
                  simp [RowKit.intOf]
                  omega
              · have h7 : (0 : Int) < (k : Int) := by omega
                have h7n : 0 < k := hk0
                obtain ⟨p, hp⟩ : ∃ p, k = p + 1 := ⟨k - 1, by omega⟩
                obtain ⟨x, hx⟩ : ∃ x, (m.filter q)[p]? = some x := ⟨_, List.getElem?_eq_getElem (by have := HNG.out; have := HLK.out; omega)⟩
                have HXX := Lib.hid hx
                have HRX := Lib.hid (HRT.out.right x (List.mem_filter.1 (List.mem_of_getElem? hx)).1)
                have hold : olderF x y = true := sort_next (filter_right HRT.out q) hx (by rw [← hp]; exact hy)
                obtain ⟨OP, hOP⟩ : ∃ O, (fwL x).toArray = O := ⟨_, rfl⟩
                have HOP := Lib.hid hOP
                have HOL : Hid (∀ W, Calls Try.prog 16 #[.agg OP, .agg OY] W fun e w' => e = .returned (.bool true) ∧ Below W.heap.size W w') := Lib.hid (fun W => by have h := rolder21_any (right_fit HRX.out) (right_fit HRY.out) W; rwa [fw_c hOP, fw_c HOY.out, hold] at h)
                have h5 : (0 : Int) ≤ (p : Int) := by omega
                have h6 : (p : Int) < (ng : Int) := by omega
                have hp8 : p < 9223372036854775807 := by omega
                have h8 : (k : Int) - 1 = (p : Int) := by omega
                have h8 : (k : Int) - 1 = (p : Int) := by omega
                have h5 : (0 : Int) ≤ (p : Int) := by omega
                have h6 : (p : Int) < (ng : Int) := by omega
                have hp8 : p < 9223372036854775807 := by omega
                have h9 : IntKind.i64.wrap (p : Int) = (p : Int) := by rw [IntKind.wrap_i64]; omega
                clear hk0 hy hx hold hOP hp
                go_upto_region 19 with (first | ((with_reducible show wpList _ _ _ (⟨some 97, _, _, _, _, _⟩ :: _) _ _); refine wpList_loadKeyF (op := ⟨some 97, _, _, _, _, _⟩) _ rfl (by rfl) gx (k * 41) (by rfl) y (outs_at LQ.out HYY.out) JY HJY.out ?_) | ((have hq := TQ.out.get HS.out (right_inT HRY.out)); (rw [key_c HJY.out, HGV.out] at hq); (with_reducible refine hq.mono ?_); clear hq; rintro e wo ⟨rfl, fqo, hT, hkp, hs⟩; have Tr := Lib.hid hT; have Lr := Lib.hid (LQ.out.left hkp hs); clear hT hkp hs TQ LQ) | ((with_reducible show wpList _ _ _ (⟨none, .store _ (.tmp 18) _, _, _, _, _⟩ :: _) _ _); refine wpList_storeNewG rfl 28 _ _ rfl (by rfl) (fwL fw0) (by rw [HZZ.out]; rfl) (by rw [fwL_len]; rfl) (sizeFwL _) (fwL_one _) ?_; intro wp hb9 hB9 _; have Ts := Lib.hid (Tr.out.below HS.out hB9); have Ls := Lib.hid (Lr.out.below hB9); clear hb9 hB9 Tr Lr))
                refine wp_region_held_drew (S := fun W => (∃ fq, Hid (Tb Rep Y Y.heap.size (.pointer (some ⟨g, 0, none⟩)) RR (m.filter fun x => !q x) W fq) ∧ Hid (OutS W fq 0 (.slice (some ⟨gx, 0, none⟩) ng cg) (m.filter q)))) (by kernel_rfl) (⟨fqo, Lib.hid (Ts.out.drew HS.out), Lib.hid (show OutS _ fqo 0 (.slice (some ⟨gx, 0, none⟩) ng cg) (m.filter q) from Ls.out)⟩) (fun hHeld => ?_)
                clear Ts Ls
                refine tk 0 101 (.bool false) rfl hHeld ?_
                simp only [Act.put, sA, sZ, sS]
                refine tk 1 102 (.bool false) rfl hHeld ?_
                simp only [Act.put, sA, sZ, sS]
                refine tk 2 103 (.int .i64 (k : Int)) rfl hHeld ?_
                simp only [Act.put, sA, sZ, sS]
                refine tk 3 104 (.bool true) rfl hHeld ?_
                simp only [Act.put, sA, sZ, sS]
                refine tk 4 105 (.bool true) rfl hHeld ?_
                simp only [Act.put, sA, sZ, sS]
                refine tk 5 106 (.slice (some ⟨gx, 0, none⟩) ng cg) rfl hHeld ?_
                simp only [Act.put, sA, sZ, sS]
                refine tk 6 107 (.int .i64 (k : Int)) rfl hHeld ?_
                simp only [Act.put, sA, sZ, sS]
                refine tk 7 108 (.int .i64 (p : Int)) rfl hHeld ?_
                simp only [Act.put, sA, sZ, sS]
                refine tk 8 109 (.pointer (some ⟨gx, p * 41, none⟩)) rfl hHeld ?_
                simp only [Act.put, sA, sZ, sS]
                refine tkY 9 110 (.agg OP) rfl (yields_loadFw (by rfl) _ rfl gx (p * 41) (by rfl) x (fun W hW => by obtain ⟨_, _, hl⟩ := hW; exact outs_at hl.out HXX.out) OP HOP.out) hHeld ?_
                simp only [Act.put, sA, sZ, sS]
                refine tk 10 111 (.slice (some ⟨gx, 0, none⟩) ng cg) rfl hHeld ?_
                simp only [Act.put, sA, sZ, sS]
                refine tk 11 112 (.int .i64 (k : Int)) rfl hHeld ?_
                simp only [Act.put, sA, sZ, sS]
                refine tk 12 113 (.pointer (some ⟨gx, k * 41, none⟩)) rfl hHeld ?_
                simp only [Act.put, sA, sZ, sS]
                refine tkY 13 114 (.agg OY) rfl (yields_loadFw (by rfl) _ rfl gx (k * 41) (by rfl) y (fun W hW => by obtain ⟨_, _, hl⟩ := hW; exact outs_at hl.out HYY.out) OY HOY.out) hHeld ?_
                simp only [Act.put, sA, sZ, sS]
                refine wpAnyH_ready (rs := [14]) (by kernel_rfl) (by simp) (AllReadyH.cons (o := ⟨some 115, _, _, _, _, _⟩) rfl (fun K hK => ?_) AllReadyH.nil)
                go_simp
                refine (HOL.out _).mono ?_
                rintro e wn ⟨rfl, hq⟩
                obtain ⟨fqx, a1, a2⟩ := hHeld
                refine hK.out _ _ (⟨fqx, Lib.hid (a1.out.below HS.out hq), Lib.hid (a2.out.below hq)⟩) (fun hHeld => ?_)
                clear hK K hq a1 a2
                refine tk 15 116 (.bool false) rfl hHeld ?_
                simp only [Act.put, sA, sZ, sS]
                refine tk 16 117 (.bool false) rfl hHeld ?_
                simp only [Act.put, sA, sZ, sS]
                refine tk 17 118 (.bool false) rfl hHeld ?_
                simp only [Act.put, sA, sZ, sS]
                obtain ⟨fqx, a1, a2⟩ := hHeld
                refine wpAnyH_done (by kernel_rfl) ?_ _
                go_wp2_with fail
                go_roundw
                case rel => exact ⟨k + 1, fqx, HLK.out, by have := HLK.out; go_num, a1, a2⟩
                case measure =>
                  have := HLK.out
                  simp [RowKit.intOf]
                  omega
            · obtain rfl : ng = k := by omega
              have h2 : ¬ (ng : Int) < (ng : Int) := by omega
              clear hlk hk
              obtain ⟨k2, hk2⟩ : ∃ n, (m.filter fun x => !q x).length = n := ⟨_, rfl⟩
              have HK2 := Lib.hid hk2
              have HSU : Hid ((ng : Int) + (k2 : Int) = (nw : Int)) := Lib.hid (by have := HNG.out; have := HNW.out; have h9 := swept_len m q; omega)
              have hs1 := HSU.out
              have hs2 : nw ≤ 40 := by have h := HRT.out.fits; have := HQ4.out; have := HNW.out; omega
              clear hk2
              go_wp2_with ((have hq := TQ.out.len HS.out); (rw [HK2.out] at hq); (with_reducible refine hq.mono ?_); clear hq; rintro e wn ⟨rfl, fqn, hT, hkp, hs⟩; have Tn := Lib.hid hT; clear hT hkp hs)
              go_ret
              exact ⟨rfl, HB.out.trans (Tn.out.bel.mono HB.out.size)⟩
end Go.Proofs.Ytfbiinipiklkaaa
