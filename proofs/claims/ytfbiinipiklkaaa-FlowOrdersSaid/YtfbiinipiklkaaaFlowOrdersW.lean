/-
  FlowOrders: its walk, the program's contracts a premise.
-/
import Derived.Test.YtfbiinipiklkaaaFLMath5
namespace Go.Proofs.Ytfbiinipiklkaaa
set_option maxRecDepth 100000
open Go.RowKit Go.Lib

set_option maxHeartbeats 64000000 in
theorem flowOrders_walkW {Rep : RepF} (S : FlowC Rep) (key : List UInt8) (hk : key.length = 16) (kez : List UInt8) (hkz : kez.length = 16) (num : Nat) (hnum : num < 256) (A : Option Addr) (len cap : Nat) (xs : List Fw) (hc : len ≤ cap) (hm : cap ≤ maxLen) (hX : ∀ x, x ∈ xs → FwOk x) (w : World) (hI : RdG eF w w.heap.size A len xs) :
    Calls Try.prog 8 #[.agg (key.map v8).toArray, .agg (kez.map v8).toArray, .int .u8 (num : Int), .slice A len cap] w fun e w' => e = .returned (.bool true) ∧ Below w.heap.size w w' := by
  have HS := Lib.hid S
  have HKL := Lib.hid hk
  have HLB := Lib.hid (show len ≤ 9223372036854775807 by unfold maxLen at hm; omega)
  have HL := Lib.hid hI.len
  obtain ⟨KK, hKK⟩ : ∃ O, (key.map v8).toArray = O := ⟨_, rfl⟩
  have HKK := Lib.hid hKK
  have HKZ := Lib.hid hkz
  obtain ⟨KZ, hKZ⟩ : ∃ O, (kez.map v8).toArray = O := ⟨_, rfl⟩
  have HKQ := Lib.hid hKZ
  obtain ⟨Y, hY⟩ : ∃ Y, (w.alloc (.cells KK 22)).alloc (.cells KZ 22) = Y := ⟨_, rfl⟩
  have hs1 := World.size_alloc w (.cells KK 22)
  have KY : Blk Y 22 w.heap.size (key.map v8) := by rw [← hY, ← hKK]; exact Blk_10.alloc (Blk_10.new w _ (key.map v8)) _
  have KI : Blk Y 22 (w.heap.size + 1) (kez.map v8) := by
    rw [← hY, ← hKZ]
    have := Blk_10.new (w.alloc (.cells KK 22)) 22 (kez.map v8)
    rw [hs1] at this
    exact this
  have hB0 : Below w.heap.size w Y := by rw [← hY]; exact ((Below.refl w.heap.size w).alloc (Nat.le_refl _) _).alloc (by rw [hs1]; exact Nat.le_succ _) _
  have PZ : Hid (∀ W, Below Y.heap.size Y W → W.rangeAt (w.heap.size + 1) 0 (kez.map v8)) := Lib.hid (fun W h => Blk_10.range (Blk_10.below KI (Blk_10.lt KI) h))
  have HNEZ := Lib.hid (fun (r : Nat) (h1 : 1 ≤ r) (h2 : r ≤ 4096) (w0 : World) (B : Nat) (W : World) (hB : B ≤ w0.heap.size) (h : Below B w0 W) => tb_new S (w0 := w0) (B := B) (r := r) hkz h1 h2 hB h)
  rw [hKZ] at HNEZ
  have PK : Hid (∀ W, Below Y.heap.size Y W → W.rangeAt w.heap.size 0 (key.map v8)) := Lib.hid (fun W h => Blk_10.range (Blk_10.below KY (Blk_10.lt KY) h))
  have HR := Lib.hid (hI.below hB0)
  have HB := Lib.hid hB0
  have PR : Hid (∀ W, Below Y.heap.size Y W → RdG eF W w.heap.size A len xs) := Lib.hid (fun W h => HR.out.below (h.mono HB.out.size))
  have HY := Lib.hid hY
  have HAW := Lib.hid (fun W => awake_any S W)
  have HNEW := Lib.hid (fun (r : Nat) (h1 : 1 ≤ r) (h2 : r ≤ 4096) (w0 : World) (B : Nat) (W : World) (hB : B ≤ w0.heap.size) (h : Below B w0 W) => tb_new S (w0 := w0) (B := B) (r := r) hk h1 h2 hB h)
  rw [hKK] at HNEW
  obtain ⟨F, hF⟩ : ∃ F, fewN (nmsF xs) = F := ⟨_, rfl⟩
  have HFE := Lib.hid hF
  have HFW : Hid (∀ W, Below Y.heap.size Y W → Calls Try.prog 29 #[.slice A len cap] W fun e w' => e = .returned (.bool F) ∧ w' = W) := Lib.hid (fun W h => by rw [← hF]; exact rfew21_any cap HLB.out W (PR.out W h))
  have HXO := Lib.hid hX
  rw [hKK]
  rw [hKZ]
  clear hs1 KI hKZ

  clear hY hF hI hX hk hm hB0 KY S hkz
  cases F
  · skip
    go_enter Try.func8, Try.ntmps8
    go_upto_region 1 with (fail)
    rw [HY.out]
    go_wp2_with (first | ((with_reducible refine (HAW.out Y).mono ?_); rintro e w1 ⟨rfl, hb⟩; have D1 := Lib.hid hb; clear hb) | ((with_reducible refine (HFW.out w1 D1.out).mono ?_); rintro e wf ⟨rfl, hwf⟩; subst hwf))
    refine (HAW.out _).mono ?_
    rintro e wz ⟨rfl, hz⟩
    go_wp2_with fail
    go_ret
    exact ⟨rfl, HB.out.trans ((bel3 D1.out hz).mono HB.out.size)⟩
  · have hfw := (fewN_iff _).1 HFE.out
    have HN80 := Lib.hid (show len ≤ 80 by have h := hfw.1; rw [nmsF_len, HL.out] at h; exact h)
    have HIN := Lib.hid (fun x (h : x ∈ xs) => (HXO.out x h).inF (by have h9 := hfw.2 _ (List.mem_map_of_mem (f := Fw.nm) h); omega))
    clear hfw
    have N2 : Hid (∀ W, Below Y.heap.size Y W → Calls Try.prog 11 #[.agg KK, .int .i64 200] W (NewGave Rep Y Y.heap.size 200 W)) := Lib.hid (fun W h => HNEW.out 200 (by decide) (by decide) Y Y.heap.size W (Nat.le_refl _) h)
    have N8 : Hid (∀ W, Below Y.heap.size Y W → Calls Try.prog 11 #[.agg KK, .int .i64 80] W (NewGave Rep Y Y.heap.size 80 W)) := Lib.hid (fun W h => HNEW.out 80 (by decide) (by decide) Y Y.heap.size W (Nat.le_refl _) h)
    have NZ0 : Hid (∀ r : Nat, 1 ≤ r → r ≤ 4096 → ∀ W, Below Y.heap.size Y W → Calls Try.prog 11 #[.agg KZ, .int .i64 (r : Int)] W (NewGave Rep Y Y.heap.size r W)) := Lib.hid (fun r h1 h2 W h => HNEZ.out r h1 h2 Y Y.heap.size W (Nat.le_refl _) h)
    clear HNEZ
    obtain ⟨RR, hRR⟩ : ∃ r, roomN num = r := ⟨_, rfl⟩
    have q3 : 1 ≤ RR := by rw [← hRR]; exact (room_in num).1
    have q4 : RR ≤ 40 := by rw [← hRR]; exact (room_in num).2
    have HRM : Hid (∀ W, Calls Try.prog 18 #[.int .u8 (num : Int)] W fun e w' => e = .returned (.int .i64 (RR : Int)) ∧ w' = W) := Lib.hid (fun W => by rw [← hRR]; exact rroom_any num hnum W)
    have NW : Hid (∀ W, Below Y.heap.size Y W → Calls Try.prog 11 #[.agg KK, .int .i64 (RR : Int)] W (NewGave Rep Y Y.heap.size RR W)) := Lib.hid (fun W h => HNEW.out RR q3 (by omega) Y Y.heap.size W (Nat.le_refl _) h)
    have HQ3 := Lib.hid q3
    have HQ4 := Lib.hid q4
    clear HNEW hRR hnum q3 q4
    have NZ := Lib.hid (NZ0.out RR HQ3.out (by have := HQ4.out; omega))
    clear NZ0
    go_enter Try.func8, Try.ntmps8
    go_upto_region 1 with (fail)
    rw [HY.out]
    go_upto_region 3 with (first | ((with_reducible refine (HAW.out Y).mono ?_); rintro e w1 ⟨rfl, hb⟩; have D1 := Lib.hid hb; clear hb) | ((with_reducible refine (HFW.out w1 D1.out).mono ?_); rintro e wf ⟨rfl, hwf⟩; subst hwf))
    refine wp_region_held_drew (S := fun W => Below wf.heap.size wf W) (by kernel_rfl) ((Below.refl _ _).drew) (fun hHeld => ?_)
    refine tkY 0 38 (.agg KK) rfl (by rw [← HKK.out]; exact yieldsIf_load_mid (by rfl) 22 _ rfl w.heap.size 0 (by rfl) (key.map v8) _ (fun W hW => PK.out W (D1.out.trans (hW.mono D1.out.size))) Try.underlying22 rfl (sizeKey HKL.out)) hHeld ?_
    simp only [Act.put, sA, sZ, sS]
    refine tk 1 39 (.int .u8 (num : Int)) rfl hHeld ?_
    simp only [Act.put, sA, sZ, sS]
    refine wpAnyH_ready (rs := [2]) (by kernel_rfl) (by simp) (AllReadyH.cons (o := ⟨some 40, _, _, _, _, _⟩) rfl (fun K hK => ?_) AllReadyH.nil)
    go_simp
    refine (HRM.out _).mono ?_
    rintro e wq ⟨rfl, hq⟩
    subst hq
    refine hK.out _ _ (hHeld) (fun hHeld => ?_)
    clear hK K 
    refine wpAnyH_ready (rs := [3]) (by kernel_rfl) (by simp) (AllReadyH.cons (o := ⟨some 41, _, _, _, _, _⟩) rfl (fun K hK => ?_) AllReadyH.nil)
    go_simp
    refine (NW.out _ (D1.out.trans (hHeld.mono D1.out.size))).mono ?_
    rintro e wg1 ⟨g1, f1, rfl, hT, hb, hl⟩
    have T1 := Lib.hid hT
    have B1 := Lib.hid (hHeld.trans (hb.mono hHeld.size))
    have L1 : Hid (∀ k, f1 k → wf.heap.size ≤ k) := Lib.hid (fun k hk => Nat.le_trans hHeld.size (hl k hk))
    refine hK.out _ _ (B1.out) (fun hHeld => ?_)
    clear hK K hT hb hl
    refine tk 4 37 (.tuple #[.pointer (some ⟨g1, 0, none⟩), .int .i64 0]) rfl hHeld ?_
    simp only [Act.put, sA, sZ, sS]
    refine tk 5 42 (.pointer (some ⟨g1, 0, none⟩)) rfl hHeld ?_
    simp only [Act.put, sA, sZ, sS]
    refine tk 6 43 (.int .i64 0) rfl hHeld ?_
    simp only [Act.put, sA, sZ, sS]
    refine tk 7 9 (.pointer (some ⟨g1, 0, none⟩)) rfl hHeld ?_
    simp only [Act.put, sA, sZ, sS]
    refine tk 8 10 (.int .i64 0) rfl hHeld ?_
    simp only [Act.put, sA, sZ, sS]
    clear hHeld
    refine wpAnyH_done (by kernel_rfl) ?_ _
    go_upto_region 4 with (fail)
    refine wp_region_held_drew (S := fun W => Below wg1.heap.size wg1 W) (by kernel_rfl) ((Below.refl _ _).drew) (fun hHeld => ?_)
    refine tkY 0 45 (.agg KZ) rfl (by rw [← HKQ.out]; exact yieldsIf_load_mid (by rfl) 22 _ rfl (w.heap.size + 1) 0 (by rfl) (kez.map v8) _ (fun W hW => PZ.out W (T1.out.bel.trans (hW.mono T1.out.big))) Try.underlying22 rfl (sizeKey HKZ.out)) hHeld ?_
    simp only [Act.put, sA, sZ, sS]
    refine tk 1 46 (.int .u8 (num : Int)) rfl hHeld ?_
    simp only [Act.put, sA, sZ, sS]
    refine wpAnyH_ready (rs := [2]) (by kernel_rfl) (by simp) (AllReadyH.cons (o := ⟨some 47, _, _, _, _, _⟩) rfl (fun K hK => ?_) AllReadyH.nil)
    go_simp
    refine (HRM.out _).mono ?_
    rintro e wq ⟨rfl, hq⟩
    subst hq
    refine hK.out _ _ (hHeld) (fun hHeld => ?_)
    clear hK K 
    refine wpAnyH_ready (rs := [3]) (by kernel_rfl) (by simp) (AllReadyH.cons (o := ⟨some 48, _, _, _, _, _⟩) rfl (fun K hK => ?_) AllReadyH.nil)
    go_simp
    refine (NZ.out _ (T1.out.bel.trans (hHeld.mono T1.out.big))).mono ?_
    rintro e wg2 ⟨g2, f2, rfl, hT, hb, hl⟩
    have T2 := Lib.hid hT
    have B2 := Lib.hid (hHeld.trans (hb.mono hHeld.size))
    have L2 : Hid (∀ k, f2 k → wg1.heap.size ≤ k) := Lib.hid (fun k hk => Nat.le_trans hHeld.size (hl k hk))
    refine hK.out _ _ (B2.out) (fun hHeld => ?_)
    clear hK K hT hb hl
    refine tk 4 44 (.tuple #[.pointer (some ⟨g2, 0, none⟩), .int .i64 0]) rfl hHeld ?_
    simp only [Act.put, sA, sZ, sS]
    refine tk 5 49 (.pointer (some ⟨g2, 0, none⟩)) rfl hHeld ?_
    simp only [Act.put, sA, sZ, sS]
    refine tk 6 50 (.int .i64 0) rfl hHeld ?_
    simp only [Act.put, sA, sZ, sS]
    refine tk 7 11 (.pointer (some ⟨g2, 0, none⟩)) rfl hHeld ?_
    simp only [Act.put, sA, sZ, sS]
    refine tk 8 12 (.int .i64 0) rfl hHeld ?_
    simp only [Act.put, sA, sZ, sS]
    clear hHeld
    refine wpAnyH_done (by kernel_rfl) ?_ _
    go_upto_region 6 with (first | ((with_reducible show wpList _ _ _ (⟨some 52, _, _, _, _, _⟩ :: _) _ _); refine wpList_loadKey (op := ⟨some 52, _, _, _, _, _⟩) _ rfl (by rfl) w.heap.size 0 (by rfl) key HKL.out (PK.out _ T2.out.bel) KK HKK.out ?_) | ((with_reducible refine (N2.out _ T2.out.bel).mono ?_); rintro e wg3 ⟨g3, f3, rfl, hT, hb, hl⟩; have T3 := Lib.hid hT; have B3 := Lib.hid hb; have L3 := Lib.hid hl; clear hT hb hl))
    go_upto_region 7 with (first | ((with_reducible show wpList _ _ _ (⟨some 57, _, _, _, _, _⟩ :: _) _ _); refine wpList_loadKey (op := ⟨some 57, _, _, _, _, _⟩) _ rfl (by rfl) w.heap.size 0 (by rfl) key HKL.out (PK.out _ T3.out.bel) KK HKK.out ?_) | ((with_reducible refine (N8.out _ T3.out.bel).mono ?_); rintro e wg4 ⟨g4, f4, rfl, hT, hb, hl⟩; have T4 := Lib.hid hT; have B4 := Lib.hid hb; have L4 := Lib.hid hl; clear hT hb hl))
    have QN := Lib.hid (quad_new HS.out T1.out T2.out B2.out L2.out T3.out B3.out L3.out T4.out B4.out L4.out)
    clear T1 T2 T3 T4 B1 B2 B3 B4 L1 L2 L3 L4 N2 N8 NZ NW HRM
    go_wp2_with fail
    go_loopw [17] (fun v17 wr => ∃ (i : Nat) (f1 f2 f3 f4 : Nat → Prop) (m mv : List Fw), i ≤ len ∧ v17 = .int .i64 (i : Int) ∧ Hid (Quad Rep Y Y.heap.size RR (.pointer (some ⟨g1, 0, none⟩)) (.pointer (some ⟨g2, 0, none⟩)) (.pointer (some ⟨g3, 0, none⟩)) (.pointer (some ⟨g4, 0, none⟩)) m m mv [] wr f1 f2 f3 f4) ∧ Hid (OrdV xs i mv)) (fun v17 _ => len - (RowKit.intOf v17).toNat)
    case atStart => exact ⟨0, f1, f2, f3, f4, [], [], Nat.zero_le _, rfl, QN, Lib.hid (OrdV.zero xs)⟩
    case round =>
      clear QN
      obtain ⟨i, f1, f2, f3, f4, m, mv, hi, rfl, QQ, OV⟩ := hrel
      by_cases hli : i < len
      · skip
        have h1 : (i : Int) < (len : Int) := by omega
        have h0 : (0 : Int) ≤ (i : Int) := by omega
        have hk9 : i < 9223372036854775807 := by have := HN80.out; omega
        obtain ⟨f, hx⟩ : ∃ x, xs[i]? = some x := ⟨_, List.getElem?_eq_getElem (by rw [HL.out]; exact hli)⟩
        obtain ⟨b, off, rfl, _⟩ := (PR.out wr QQ.out.t.bel).addr (by omega)
        have RX : Hid (∀ W, Below Y.heap.size Y W → W.rangeAt b (off + i * 41) (fwL f)) := Lib.hid (fun W hW => (PR.out W hW).range hx)
        have HIX := Lib.hid (HIN.out f (List.mem_of_getElem? hx))
        obtain ⟨J, hJ⟩ : ∃ J, (tuL f.k).toArray = J := ⟨_, rfl⟩
        have HJ := Lib.hid hJ
        obtain ⟨O, hO⟩ : ∃ O, (fwL f).toArray = O := ⟨_, rfl⟩
        have HO := Lib.hid hO
        have HLT := Lib.hid hli
        have HXI := Lib.hid hx
        obtain ⟨mm, hmm⟩ : ∃ n, putT RR m f = n := ⟨_, rfl⟩
        have HMM := Lib.hid hmm
        obtain ⟨go, hgo⟩ : ∃ n, goF RR m f = n := ⟨_, rfl⟩
        obtain ⟨GO, hGO⟩ : ∃ n, (fwL go).toArray = n := ⟨_, rfl⟩
        have HGG := Lib.hid hGO
        obtain ⟨lf, hlf⟩ : ∃ z, lfB RR m f = z := ⟨_, rfl⟩
        obtain ⟨ec, hec⟩ : ∃ z : Int, (if rightF f = true then 0 else 1) = z := ⟨_, rfl⟩
        have HPV : Hid (putV RR m f = .tuple #[.agg GO, .bool lf, .int .i64 ec]) := Lib.hid (by rw [putV_form, hgo, fw_c hGO, hlf, hec])
        have n1 : (lf != lf) = false := by cases lf <;> rfl
        have n2 : (ec != ec) = false := by simp
        obtain ⟨zv, hzv⟩ : ∃ z, (hasK mv f.k).getD fw0 = z := ⟨_, rfl⟩
        obtain ⟨th, hth⟩ : ∃ z, (hasK mv f.k).isSome = z := ⟨_, rfl⟩
        have HTH := Lib.hid hth
        obtain ⟨ZV, hZV⟩ : ∃ z, (fwL zv).toArray = z := ⟨_, rfl⟩
        have HZV := Lib.hid hZV
        have HGV : Hid (getV mv f.k = .tuple #[.agg ZV, .bool th]) := Lib.hid (by unfold getV; rw [hzv, hth, fw_c hZV])
        obtain ⟨pv, hpv⟩ : ∃ z, putV 200 mv f = z := ⟨_, rfl⟩
        have HPW := Lib.hid hpv
        have HIM := Lib.hid (show i < 200 by have := HN80.out; omega)
        clear hx hJ hO hmm hgo hGO hlf hec hzv hth hZV hpv hli hi
        go_upto_region 13 with (first | ((with_reducible show wpList _ _ _ (⟨some 86, _, _, _, _, _⟩ :: _) _ _); refine wpList_loadFw (op := ⟨some 86, _, _, _, _, _⟩) _ rfl (by rfl) b (off + i * 41) (by rfl) f (RX.out _ QQ.out.t.bel) O HO.out ?_) | ((have hq := QQ.out.t.put HS.out HIX.out); (rw [fw_c HO.out, HPV.out, HMM.out] at hq); (with_reducible refine hq.mono ?_); clear hq; rintro e wa ⟨rfl, fa, hT, hkp, hs⟩; have Qa := Lib.hid (QQ.out.at1 HS.out hT hkp hs); clear hT hkp hs QQ) | ((with_reducible show wpList _ _ _ (⟨none, .store _ (.tmp 18) _, _, _, _, _⟩ :: _) _ _); refine wpList_storeNewG rfl 28 _ _ rfl (by rfl) (fwL go) (by rw [HGG.out]; rfl) (by rw [fwL_len]; rfl) (sizeFwL _) (fwL_one _) ?_; intro wb hb9 hB9 _; have Qb := Lib.hid (Qa.out.below HS.out hB9); have Xb : Hid (Out wb f2 wa.heap.size go) := Lib.hid ⟨hb9, Qa.out.u.new_off HS.out (Nat.le_refl _)⟩; clear hb9 hB9 Qa))
        go_upto_region 14 with (first | ((with_reducible show wpList _ _ _ (⟨some 96, _, _, _, _, _⟩ :: _) _ _); refine wpList_loadFw (op := ⟨some 96, _, _, _, _, _⟩) _ rfl (by rfl) b (off + i * 41) (by rfl) f (RX.out _ Qb.out.t.bel) O HO.out ?_) | ((have hq := Qb.out.u.put HS.out HIX.out); (rw [fw_c HO.out, HPV.out, HMM.out] at hq); (with_reducible refine hq.mono ?_); clear hq; rintro e wc ⟨rfl, fc, hT, hkp, hs⟩; have Qc := Lib.hid (Qb.out.at2 HS.out hT hkp hs); have Xc := Lib.hid (Xb.out.left hkp hs); clear hT hkp hs Qb) | ((with_reducible show wpList _ _ _ (⟨none, .store _ (.tmp 21) _, _, _, _, _⟩ :: _) _ _); refine wpList_storeNewG rfl 28 _ _ rfl (by rfl) (fwL go) (by rw [HGG.out]; rfl) (by rw [fwL_len]; rfl) (sizeFwL _) (fwL_one _) ?_; intro wd hb9 hB9 _; have Qd := Lib.hid (Qc.out.below HS.out hB9); have Xd := Lib.hid (Xc.out.below hB9); have Ud : Hid (Out wd fc wc.heap.size go) := Lib.hid ⟨hb9, Qc.out.u.new_off HS.out (Nat.le_refl _)⟩; clear hb9 hB9 Qc))
        go_upto_region 16 with (first | ((with_reducible show wpList _ _ _ (⟨some 101, _, _, _, _, _⟩ :: _) _ _); refine wpList_loadFw (op := ⟨some 101, _, _, _, _, _⟩) _ rfl (by rfl) wa.heap.size (0) (by rfl) go (out_at Xd.out) GO HGG.out ?_) | ((with_reducible show wpList _ _ _ (⟨some 102, _, _, _, _, _⟩ :: _) _ _); refine wpList_loadFw (op := ⟨some 102, _, _, _, _, _⟩) _ rfl (by rfl) wc.heap.size (0) (by rfl) go (out_at Ud.out) GO HGG.out ?_) | ((with_reducible show wpList _ _ _ (⟨some 103, _, _, _, _, _⟩ :: _) _ _); refine wpList_cmpS (op := ⟨some 103, _, _, _, _, _⟩) .neq 28 _ _ _ rfl (by rfl) GO GO (by rfl) (by rfl) guard_fw false (fun W => by have h := ne_fws HGG.out HGG.out W; rwa [fwQ_self] at h) ?_))
        clear Xd Ud n1 n2
        cases th
        · go_wp2_with (first | ((with_reducible show wpList _ _ _ (⟨some 120, _, _, _, _, _⟩ :: _) _ _); refine wpList_loadKeyF (op := ⟨some 120, _, _, _, _, _⟩) _ rfl (by rfl) b (off + i * 41) (by rfl) f (RX.out _ Qd.out.t.bel) J HJ.out ?_) | ((have hq := Qd.out.v.get HS.out HIX.out.t); (rw [key_c HJ.out, HGV.out] at hq); (with_reducible refine hq.mono ?_); clear hq; rintro e we ⟨rfl, fe, hT, hkp, hs⟩; have Qe := Lib.hid (Qd.out.at3 HS.out hT hkp hs); clear hT hkp hs Qd) | ((with_reducible show wpList _ _ _ (⟨none, .store _ (.tmp 24) _, _, _, _, _⟩ :: _) _ _); refine wpList_storeNewG rfl 28 _ _ rfl (by rfl) (fwL zv) (by rw [HZV.out]; rfl) (by rw [fwL_len]; rfl) (sizeFwL _) (fwL_one _) ?_; intro wf hb9 hB9 _; have Qf := Lib.hid (Qe.out.below HS.out hB9); clear hb9 hB9 Qe) | ((with_reducible show wpList _ _ _ (⟨some 130, _, _, _, _, _⟩ :: _) _ _); refine wpList_loadFw (op := ⟨some 130, _, _, _, _, _⟩) _ rfl (by rfl) b (off + i * 41) (by rfl) f (RX.out _ Qf.out.t.bel) O HO.out ?_) | ((have hq := Qf.out.v.put HS.out HIX.out); (rw [fw_c HO.out, HPW.out] at hq); (with_reducible refine hq.mono ?_); clear hq; rintro e wg ⟨rfl, fg, hT, hkp, hs⟩; have Qg := Lib.hid (Qf.out.at3 HS.out hT hkp hs); clear hT hkp hs Qf))
          go_roundw
          case rel => exact ⟨i + 1, fa, fc, fg, f4, mm, stepV mv f, HLT.out, by have := HLT.out; go_num, by rw [stepV_no HTH.out]; exact Qg, Lib.hid (OV.out.next HXI.out HIM.out)⟩
          case measure =>
            have := HLT.out
            simp [RowKit.intOf]
            omega
        · go_wp2_with (first | ((with_reducible show wpList _ _ _ (⟨some 120, _, _, _, _, _⟩ :: _) _ _); refine wpList_loadKeyF (op := ⟨some 120, _, _, _, _, _⟩) _ rfl (by rfl) b (off + i * 41) (by rfl) f (RX.out _ Qd.out.t.bel) J HJ.out ?_) | ((have hq := Qd.out.v.get HS.out HIX.out.t); (rw [key_c HJ.out, HGV.out] at hq); (with_reducible refine hq.mono ?_); clear hq; rintro e we ⟨rfl, fe, hT, hkp, hs⟩; have Qe := Lib.hid (Qd.out.at3 HS.out hT hkp hs); clear hT hkp hs Qd) | ((with_reducible show wpList _ _ _ (⟨none, .store _ (.tmp 24) _, _, _, _, _⟩ :: _) _ _); refine wpList_storeNewG rfl 28 _ _ rfl (by rfl) (fwL zv) (by rw [HZV.out]; rfl) (by rw [fwL_len]; rfl) (sizeFwL _) (fwL_one _) ?_; intro wf hb9 hB9 _; have Qf := Lib.hid (Qe.out.below HS.out hB9); clear hb9 hB9 Qe))
          go_roundw
          case rel => exact ⟨i + 1, fa, fc, fe, f4, mm, stepV mv f, HLT.out, by have := HLT.out; go_num, by rw [stepV_yes HTH.out]; exact Qf, Lib.hid (OV.out.next HXI.out HIM.out)⟩
          case measure =>
            have := HLT.out
            simp [RowKit.intOf]
            omega
      · obtain rfl : len = i := by omega
        have h1 : ¬ (len : Int) < (len : Int) := by omega
        have wl : IntKind.i64.wrap ((len : Int) - 1) = (len : Int) - 1 := by rw [IntKind.wrap_i64]; have := HN80.out; omega
        clear hli hi
        go_wp2_with fail
        clear h1 wl
        go_loopw [26] (fun v26 wr => ∃ (k : Nat) (f1 f2 f3 f4 : Nat → Prop) (mw : List Fw), k ≤ len ∧ v26 = .int .i64 ((k : Int) - 1) ∧ Hid (Quad Rep Y Y.heap.size RR (.pointer (some ⟨g1, 0, none⟩)) (.pointer (some ⟨g2, 0, none⟩)) (.pointer (some ⟨g3, 0, none⟩)) (.pointer (some ⟨g4, 0, none⟩)) m m mv mw wr f1 f2 f3 f4) ∧ Hid (OrdW xs k mw)) (fun v26 _ => (RowKit.intOf v26 + 1).toNat)
        case atStart => exact ⟨len, f1, f2, f3, f4, [], Nat.le_refl _, rfl, QQ, Lib.hid (by rw [← HL.out]; exact OrdW.zero xs)⟩
        case round =>
          clear QQ
          obtain ⟨k, f1, f2, f3, f4, mw, hk, rfl, QQ, OW⟩ := hrel
          rcases k with _ | k
          · have e0 : ((0 : Nat) : Int) - 1 = -1 := rfl
            rw [e0]
            clear e0 hk
            go_upto_region 24 with (((have hq := QQ.out.v.list HS.out); (with_reducible refine hq.mono ?_); clear hq; rintro e wz ⟨Az, nz, cz, rfl, hna, _, _, ho, fz, hT, hkp, hs, hd⟩; have Qz := Lib.hid (QQ.out.at3 HS.out hT hkp hs); have Oz := Lib.hid ho; have HNZ := Lib.hid hna; have z1 : Hid (∀ b, (Value.slice Az nz cz).ownBlock = some b → ¬ f1 b) := Lib.hid (fun b hb e => by have h8 := ho.lt b hb; have h9 := HS.out.lt QQ.out.t.rep b e; omega); have z4 : Hid (∀ b, (Value.slice Az nz cz).ownBlock = some b → ¬ f4 b) := Lib.hid (fun b hb e => by have h8 := ho.lt b hb; have h9 := HS.out.lt QQ.out.s.rep b e; omega); have z2 : Hid (∀ b, (Value.slice Az nz cz).ownBlock = some b → ¬ f2 b) := Lib.hid (fun b hb e => by have h8 := ho.lt b hb; have h9 := HS.out.lt QQ.out.u.rep b e; omega); clear hna hT hkp hs hd ho QQ))
            obtain ⟨BZ, hBZ⟩ : ∃ n, wr.heap.size = n := ⟨_, rfl⟩
            rw [hBZ] at Oz
            clear hBZ
            have HRV : Hid (RightT 200 mv) := Lib.hid OV.out.right
            have HNB : Hid (nz ≤ 80) := Lib.hid (by rw [HNZ.out]; have := OV.out.len; have := HN80.out; omega)
            go_wp2_with fail
            go_loopw [28] (fun v28 wr => ∃ (j : Nat), v28 = .int .i64 ((j : Int) + 1) ∧ Hid (Quad Rep Y Y.heap.size RR (.pointer (some ⟨g1, 0, none⟩)) (.pointer (some ⟨g2, 0, none⟩)) (.pointer (some ⟨g3, 0, none⟩)) (.pointer (some ⟨g4, 0, none⟩)) m m mv mw wr f1 f2 fz f4) ∧ Hid (OwnG eF wr BZ (.slice Az nz cz) mv)) (fun v28 _ => nz - (RowKit.intOf v28).toNat)
            case atStart => exact ⟨0, rfl, Qz, Oz⟩
            case round =>
              clear Qz Oz
              obtain ⟨j, rfl, Qz, Oz⟩ := hrel
              by_cases hjn : j + 1 < nz
              · skip
                have h1 : (j : Int) + 1 < (nz : Int) := by omega
                have j0 : (0 : Int) ≤ (j : Int) := by omega
                have j1 : (0 : Int) ≤ (j : Int) + 1 := by omega
                have j3 : (j : Int) < (nz : Int) := by omega
                have w1 : IntKind.i64.wrap (j : Int) = (j : Int) := by rw [IntKind.wrap_i64]; have := HNB.out; omega
                have w2 : IntKind.i64.wrap ((j : Int) + 1 + 1) = (j : Int) + 1 + 1 := by rw [IntKind.wrap_i64]; have := HNB.out; omega
                obtain ⟨x, hx⟩ : ∃ x, mv[j]? = some x := ⟨_, List.getElem?_eq_getElem (by rw [← HNZ.out]; omega)⟩
                obtain ⟨y, hy⟩ : ∃ x, mv[j + 1]? = some x := ⟨_, List.getElem?_eq_getElem (by rw [← HNZ.out]; omega)⟩
                obtain ⟨gz, cx, eX, _⟩ := Oz.out.form (by rw [← HNZ.out]; omega)
                have eA : Az = some ⟨gz, 0, none⟩ := by cases eX; rfl
                subst eA
                clear eX
                obtain ⟨OX, hOX⟩ : ∃ O, (fwL x).toArray = O := ⟨_, rfl⟩
                have HOX := Lib.hid hOX
                obtain ⟨OY, hOY⟩ : ∃ O, (fwL y).toArray = O := ⟨_, rfl⟩
                have HOY := Lib.hid hOY
                have HX := Lib.hid hx
                have HY2 := Lib.hid hy
                have HJN := Lib.hid hjn
                have HOL : Hid (∀ W, Calls Try.prog 16 #[.agg OX, .agg OY] W fun e w' => e = .returned (.bool true) ∧ Below W.heap.size W w') := Lib.hid (fun W => by have h := rolder21_any (right_fit (HRV.out.right x (List.mem_of_getElem? hx))) (right_fit (HRV.out.right y (List.mem_of_getElem? hy))) W; rwa [fw_c hOX, fw_c hOY, sort_next HRV.out hx hy] at h)
                clear hx hy hOX hOY hjn
                go_upto_region 27 with (fail)
                refine wp_region_held_drew (S := fun W => Below wr.heap.size wr W) (by kernel_rfl) ((Below.refl _ _).drew) (fun hHeld => ?_)
                refine tk 0 153 (.slice (some ⟨gz, 0, none⟩) nz cz) rfl hHeld ?_
                simp only [Act.put, sA, sZ, sS]
                refine tk 1 154 (.int .i64 ((j : Int) + 1)) rfl hHeld ?_
                simp only [Act.put, sA, sZ, sS]
                refine tk 2 155 (.int .i64 (j : Int)) rfl hHeld ?_
                simp only [Act.put, sA, sZ, sS]
                refine tk 3 156 (.pointer (some ⟨gz, j * 41, none⟩)) rfl hHeld ?_
                simp only [Act.put, sA, sZ, sS]
                refine tkY 4 157 (.agg OX) rfl (yields_loadFw (by rfl) _ rfl gz (j * 41) (by rfl) x (fun W hW => by have h9 := (Oz.out.below hW).rd.range HX.out; rw [Nat.zero_add] at h9; exact h9) OX HOX.out) hHeld ?_
                simp only [Act.put, sA, sZ, sS]
                refine tk 5 158 (.slice (some ⟨gz, 0, none⟩) nz cz) rfl hHeld ?_
                simp only [Act.put, sA, sZ, sS]
                refine tk 6 159 (.int .i64 ((j : Int) + 1)) rfl hHeld ?_
                simp only [Act.put, sA, sZ, sS]
                refine tk 7 160 (.pointer (some ⟨gz, (j + 1) * 41, none⟩)) rfl hHeld ?_
                simp only [Act.put, sA, sZ, sS]
                refine tkY 8 161 (.agg OY) rfl (yields_loadFw (by rfl) _ rfl gz ((j + 1) * 41) (by rfl) y (fun W hW => by have h9 := (Oz.out.below hW).rd.range HY2.out; rw [Nat.zero_add] at h9; exact h9) OY HOY.out) hHeld ?_
                simp only [Act.put, sA, sZ, sS]
                refine wpAnyH_ready (rs := [9]) (by kernel_rfl) (by simp) (AllReadyH.cons (o := ⟨some 162, _, _, _, _, _⟩) rfl (fun K hK => ?_) AllReadyH.nil)
                go_simp
                refine (HOL.out _).mono ?_
                rintro e wo ⟨rfl, hq⟩
                have HB9 := Lib.hid (hHeld.trans (hq.mono hHeld.size))
                refine hK.out _ _ (HB9.out) (fun hHeld => ?_)
                clear hK K hq
                refine tk 10 163 (.bool false) rfl hHeld ?_
                simp only [Act.put, sA, sZ, sS]
                clear hHeld
                refine wpAnyH_done (by kernel_rfl) ?_ _
                have Q9 := Lib.hid (Qz.out.below HS.out HB9.out)
                have O9 := Lib.hid (Oz.out.below HB9.out)
                clear Qz Oz HB9
                go_wp2_with fail
                go_roundw
                case rel => exact ⟨j + 1, by have := w2; go_num, Q9, O9⟩
                case measure =>
                  have := HJN.out
                  simp [RowKit.intOf]
                  omega
              · have h1 : ¬ (j : Int) + 1 < (nz : Int) := by omega
                clear hjn
                have HRM9 : Hid (RightT RR m) := Lib.hid Qz.out.t.right
                obtain ⟨al, hal⟩ : ∃ z, aloneB xs = z := ⟨_, rfl⟩
                have HAL := Lib.hid hal
                clear hal
                cases al
                · go_wp2_with (first | ((have hq := Qz.out.t.list HS.out); (with_reducible refine hq.mono ?_); clear hq; rintro e wa ⟨Aa, na, ca, rfl, hna, _, _, ho, fa, hT, hkp, hs, hd⟩; have Qa := Lib.hid (Qz.out.at1 HS.out hT hkp hs); have Oa := Lib.hid ho; have HNA := Lib.hid hna; have Ob := Lib.hid (Oz.out.keep_fp hkp z1.out); have a2 : Hid (∀ b, (Value.slice Aa na ca).ownBlock = some b → ¬ f2 b) := Lib.hid (fun b hb e => by have h8 := ho.lt b hb; have h9 := HS.out.lt Qz.out.u.rep b e; omega); clear Oz; clear hna hT hkp hs hd ho Qz) | ((have hq := Qa.out.u.list HS.out); (with_reducible refine hq.mono ?_); clear hq; rintro e wb ⟨Ab, nb, cb, rfl, hna, _, _, ho, fb, hT, hkp, hs, hd⟩; have Qb := Lib.hid (Qa.out.at2 HS.out hT hkp hs); have Oc := Lib.hid ho; have HNB2 := Lib.hid hna; have Od := Lib.hid (Ob.out.keep_fp hkp z2.out); have Oe := Lib.hid (Oa.out.keep_fp hkp a2.out); clear Ob Oa; clear hna hT hkp hs hd ho Qa) | ((have hq := rsame21_any (w := wb) ca cb (by have := HNA.out; have h := HRM9.out.fits; have := HQ4.out; omega) (Nat.le_refl _) (Nat.le_refl _) Oe.out.rd Oc.out.rd); (rw [sameF_iff.2 rfl] at hq); (with_reducible refine hq.mono ?_); clear hq; rintro e wc ⟨rfl, hb⟩; have Qc := Lib.hid (Qb.out.below HS.out hb); have Of := Lib.hid (Od.out.below hb); clear hb Qb Oe Oc Od) | ((have hq := ralone_any cap (by have := HN80.out; omega) wc (Nat.le_trans HB.out.size Qc.out.t.bel.size) (PR.out wc Qc.out.t.bel)); (rw [HAL.out] at hq); (with_reducible refine hq.mono ?_); clear hq; rintro e wd ⟨rfl, hb⟩; have Qd := Lib.hid (Qc.out.below HS.out hb); have Og := Lib.hid (Of.out.below hb); clear hb Qc Of))
                  skip
                  go_ret
                  exact ⟨rfl, HB.out.trans (Qd.out.t.bel.mono HB.out.size)⟩
                · have HSE : Hid (mv = mw) := Lib.hid (ord_same HL.out OV.out OW.out ((alone_iff xs).1 HAL.out))
                  go_wp2_with (first | ((have hq := Qz.out.t.list HS.out); (with_reducible refine hq.mono ?_); clear hq; rintro e wa ⟨Aa, na, ca, rfl, hna, _, _, ho, fa, hT, hkp, hs, hd⟩; have Qa := Lib.hid (Qz.out.at1 HS.out hT hkp hs); have Oa := Lib.hid ho; have HNA := Lib.hid hna; have Ob := Lib.hid (Oz.out.keep_fp hkp z1.out); have a2 : Hid (∀ b, (Value.slice Aa na ca).ownBlock = some b → ¬ f2 b) := Lib.hid (fun b hb e => by have h8 := ho.lt b hb; have h9 := HS.out.lt Qz.out.u.rep b e; omega); clear Oz; clear hna hT hkp hs hd ho Qz) | ((have hq := Qa.out.u.list HS.out); (with_reducible refine hq.mono ?_); clear hq; rintro e wb ⟨Ab, nb, cb, rfl, hna, _, _, ho, fb, hT, hkp, hs, hd⟩; have Qb := Lib.hid (Qa.out.at2 HS.out hT hkp hs); have Oc := Lib.hid ho; have HNB2 := Lib.hid hna; have Od := Lib.hid (Ob.out.keep_fp hkp z2.out); have Oe := Lib.hid (Oa.out.keep_fp hkp a2.out); clear Ob Oa; clear hna hT hkp hs hd ho Qa) | ((have hq := rsame21_any (w := wb) ca cb (by have := HNA.out; have h := HRM9.out.fits; have := HQ4.out; omega) (Nat.le_refl _) (Nat.le_refl _) Oe.out.rd Oc.out.rd); (rw [sameF_iff.2 rfl] at hq); (with_reducible refine hq.mono ?_); clear hq; rintro e wc ⟨rfl, hb⟩; have Qc := Lib.hid (Qb.out.below HS.out hb); have Of := Lib.hid (Od.out.below hb); clear hb Qb Oe Oc Od) | ((have hq := ralone_any cap (by have := HN80.out; omega) wc (Nat.le_trans HB.out.size Qc.out.t.bel.size) (PR.out wc Qc.out.t.bel)); (rw [HAL.out] at hq); (with_reducible refine hq.mono ?_); clear hq; rintro e wd ⟨rfl, hb⟩; have Qd := Lib.hid (Qc.out.below HS.out hb); have Og := Lib.hid (Of.out.below hb); clear hb Qc Of) | ((have hq := Qd.out.s.list HS.out); (with_reducible refine hq.mono ?_); clear hq; rintro e we ⟨Ae, ne, ce, rfl, hna, _, _, ho, fe, hT, hkp, hs, hd⟩; have Qe := Lib.hid (Qd.out.at4 HS.out hT hkp hs); have Oh := Lib.hid ho; have Oi := Lib.hid (Og.out.keep_fp hkp z4.out); clear Og; clear hna hT hkp hs hd ho Qd) | ((have hq := rsame21_any (w := we) cz ce (by have := HNB.out; omega) (Nat.le_refl _) (Nat.le_refl _) Oi.out.rd Oh.out.rd); (rw [sameF_iff.2 HSE.out] at hq); (with_reducible refine hq.mono ?_); clear hq; rintro e wf ⟨rfl, hb⟩; have Qf := Lib.hid (Qe.out.below HS.out hb); clear hb Qe Oi Oh))
                  go_ret
                  exact ⟨rfl, HB.out.trans (Qf.out.t.bel.mono HB.out.size)⟩
          · have e0 : ((k + 1 : Nat) : Int) - 1 = (k : Int) := by omega
            rw [e0]
            clear e0
            have h1 : (0 : Int) ≤ (k : Int) := by omega
            have h2 : (k : Int) < (len : Int) := by omega
            have hk9 : k < 9223372036854775807 := by have := HN80.out; omega
            have wl : IntKind.i64.wrap ((k : Int) - 1) = (k : Int) - 1 := by rw [IntKind.wrap_i64]; have := HN80.out; omega
            obtain ⟨f, hx⟩ : ∃ x, xs[k]? = some x := ⟨_, List.getElem?_eq_getElem (by rw [HL.out]; exact hk)⟩
            obtain ⟨b, off, rfl, _⟩ := (PR.out wr QQ.out.t.bel).addr (by omega)
            have RX : Hid (∀ W, Below Y.heap.size Y W → W.rangeAt b (off + k * 41) (fwL f)) := Lib.hid (fun W hW => (PR.out W hW).range hx)
            have HIX := Lib.hid (HIN.out f (List.mem_of_getElem? hx))
            obtain ⟨O, hO⟩ : ∃ O, (fwL f).toArray = O := ⟨_, rfl⟩
            have HO := Lib.hid hO
            obtain ⟨pv, hpv⟩ : ∃ z, putV 80 mw f = z := ⟨_, rfl⟩
            have HPW := Lib.hid hpv
            have HXI := Lib.hid hx
            have HKL9 := Lib.hid hk
            clear hx hO hpv hk
            go_wp2_with (first | ((with_reducible show wpList _ _ _ (⟨some 143, _, _, _, _, _⟩ :: _) _ _); refine wpList_loadFw (op := ⟨some 143, _, _, _, _, _⟩) _ rfl (by rfl) b (off + k * 41) (by rfl) f (RX.out _ QQ.out.t.bel) O HO.out ?_) | ((have hq := QQ.out.s.put HS.out HIX.out); (rw [fw_c HO.out, HPW.out] at hq); (with_reducible refine hq.mono ?_); clear hq; rintro e wg ⟨rfl, fg, hT, hkp, hs⟩; have Qg := Lib.hid (QQ.out.at4 HS.out hT hkp hs); clear hT hkp hs QQ))
            go_roundw
            case rel => exact ⟨k, f1, f2, f3, fg, putT 80 mw f, by have := HKL9.out; omega, rfl, Qg, Lib.hid (OW.out.next HXI.out (by rw [HL.out]; exact HN80.out))⟩
            case measure =>
              simp [RowKit.intOf]
end Go.Proofs.Ytfbiinipiklkaaa
