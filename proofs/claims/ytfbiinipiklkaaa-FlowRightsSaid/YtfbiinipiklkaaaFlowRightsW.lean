/-
  FlowRights: its walk, the program's contracts a premise.
-/
import Derived.Test.YtfbiinipiklkaaaFLLaw
namespace Go.Proofs.Ytfbiinipiklkaaa
set_option maxRecDepth 100000
open Go.RowKit Go.Lib

set_option maxHeartbeats 32000000 in
theorem flowRights_walkW {Rep : RepF} (S : FlowC Rep) (a : Fw) (ha : FwOk a) (b : Fw) (hb : FwOk b) (key : List UInt8) (hk : key.length = 16) (n : Int) (hn1 : -9223372036854775808 ≤ n) (hn2 : n ≤ 9223372036854775807) (w : World) :
    Calls Try.prog 3 #[fwC a, fwC b, .agg (key.map v8).toArray, .int .i64 n] w fun e w' => e = .returned (.bool true) ∧ Below w.heap.size w w' := by
  have HS := Lib.hid S
  have HIN := Lib.hid (show In64 n from by unfold In64; omega)
  have HKL := Lib.hid hk
  obtain ⟨OA, hOA⟩ : ∃ O, (fwL a).toArray = O := ⟨_, rfl⟩
  obtain ⟨OB, hOB⟩ : ∃ O, (fwL b).toArray = O := ⟨_, rfl⟩
  obtain ⟨KK, hKK⟩ : ∃ O, (key.map v8).toArray = O := ⟨_, rfl⟩
  have HOA := Lib.hid hOA
  have HOB := Lib.hid hOB
  have HKK := Lib.hid hKK
  have HCA := Lib.hid (show fwC a = .agg OA by rw [← hOA]; rfl)
  have HCB := Lib.hid (show fwC b = .agg OB by rw [← hOB]; rfl)
  obtain ⟨Y, hY⟩ : ∃ Y, ((w.alloc (.cells OA 28)).alloc (.cells OB 28)).alloc (.cells KK 22) = Y := ⟨_, rfl⟩
  have hs1 := World.size_alloc w (.cells OA 28)
  have hs2 := World.size_alloc (w.alloc (.cells OA 28)) (.cells OB 28)
  have KA : Blk Y 28 w.heap.size (fwL a) := by rw [← hY, ← hOA]; exact Blk_10.alloc (Blk_10.alloc (Blk_10.new w _ (fwL a)) _) _
  have KB : Blk Y 28 (w.heap.size + 1) (fwL b) := by
    rw [← hY, ← hOB]
    have := Blk_10.new (w.alloc (.cells OA 28)) 28 (fwL b)
    rw [hs1] at this
    exact Blk_10.alloc this _
  have KY : Blk Y 22 (w.heap.size + 2) (key.map v8) := by
    rw [← hY, ← hKK]
    have := Blk_10.new ((w.alloc (.cells OA 28)).alloc (.cells OB 28)) 22 (key.map v8)
    rw [hs2, hs1] at this
    exact this
  have hB0 : Below w.heap.size w Y := by rw [← hY]; exact (((Below.refl w.heap.size w).alloc (Nat.le_refl _) _).alloc (by rw [hs1]; exact Nat.le_succ _) _).alloc (by rw [hs2, hs1]; omega) _
  have PA : Hid (∀ W, Below Y.heap.size Y W → W.rangeAt w.heap.size 0 (fwL a)) := Lib.hid (fun W h => Blk_10.range (Blk_10.below KA (Blk_10.lt KA) h))
  have PB : Hid (∀ W, Below Y.heap.size Y W → W.rangeAt (w.heap.size + 1) 0 (fwL b)) := Lib.hid (fun W h => Blk_10.range (Blk_10.below KB (Blk_10.lt KB) h))
  have PK : Hid (∀ W, Below Y.heap.size Y W → W.rangeAt (w.heap.size + 2) 0 (key.map v8)) := Lib.hid (fun W h => Blk_10.range (Blk_10.below KY (Blk_10.lt KY) h))
  have NA : Hid (∀ W, Below Y.heap.size Y W → W.cell? ⟨w.heap.size, 37, none⟩ = some (.string ⟨a.nm.toArray⟩)) := Lib.hid (fun W h => Blk_10.cell (Blk_10.below KA (Blk_10.lt KA) h) (fw_nm a))
  have NB : Hid (∀ W, Below Y.heap.size Y W → W.cell? ⟨w.heap.size + 1, 37, none⟩ = some (.string ⟨b.nm.toArray⟩)) := Lib.hid (fun W h => Blk_10.cell (Blk_10.below KB (Blk_10.lt KB) h) (fw_nm b))
  have HB := Lib.hid hB0
  have HY := Lib.hid hY
  have HAW := Lib.hid (fun W => awake_any S W)
  have HNEW := Lib.hid (fun (r : Nat) (h1 : 1 ≤ r) (h2 : r ≤ 4096) (W : World) (h : Below Y.heap.size Y W) => tb_new S (w0 := Y) (B := Y.heap.size) (r := r) hk h1 h2 (Nat.le_refl _) h)
  have HNON := Lib.hid (fun (h : n < 1 ∨ 4096 < n) (W : World) => S.none_ key n W hk HIN.out h)
  rw [hKK] at HNEW HNON
  have sa : (ByteArray.mk a.nm.toArray).size = a.nm.length := by simp [ByteArray.size]
  have sb : (ByteArray.mk b.nm.toArray).size = b.nm.length := by simp [ByteArray.size]
  have HLA := Lib.hid (fun (h : a.nm.length ≤ 200) (W : World) => S.right a W (ha.inF h))
  have HLB := Lib.hid (fun (h : b.nm.length ≤ 200) (W : World) => S.right b W (hb.inF h))
  have HRA := Lib.hid (fun (h : a.nm.length ≤ 200) (W : World) => rright21_any a (by omega) W)
  have HRB := Lib.hid (fun (h : b.nm.length ≤ 200) (W : World) => rright21_any b (by omega) W)
  rw [HCA.out] at HLA HRA
  rw [HCB.out] at HLB HRB
  have HOL := Lib.hid (fun (h1 : rightF a = true) (h2 : rightF b = true) (W : World) => S.older a b W h1 h2)
  have HOR := Lib.hid (fun (h1 : rightF a = true) (h2 : rightF b = true) (W : World) => S.older b a W h2 h1)
  have HRL := Lib.hid (fun (h1 : rightF a = true) (h2 : rightF b = true) (W : World) => rolder21_any (right_fit h1) (right_fit h2) W)
  have HRR := Lib.hid (fun (h1 : rightF a = true) (h2 : rightF b = true) (W : World) => rolder21_any (right_fit h2) (right_fit h1) W)
  rw [HCA.out, HCB.out] at HOL HOR HRL HRR
  obtain ⟨ra, hra⟩ : ∃ r, rightF a = r := ⟨_, rfl⟩
  obtain ⟨rb, hrb⟩ : ∃ r, rightF b = r := ⟨_, rfl⟩
  obtain ⟨oa, hoa⟩ : ∃ r, olderF a b = r := ⟨_, rfl⟩
  obtain ⟨ob, hob⟩ : ∃ r, olderF b a = r := ⟨_, rfl⟩
  rw [hra] at HLA HRA HOL HOR HRL HRR
  rw [hrb] at HLB HRB HOL HOR HRL HRR
  rw [hoa] at HOL HRL
  rw [hob] at HOR HRR
  obtain ⟨la, hla⟩ : ∃ k, a.nm.length = k := ⟨_, rfl⟩
  obtain ⟨lb, hlb⟩ : ∃ k, b.nm.length = k := ⟨_, rfl⟩
  rw [hla] at sa HLA HRA
  rw [hlb] at sb HLB HRB
  unfold fwC
  rw [hOA, hOB, hKK]
  clear KA KB KY hB0 hs1 hs2 hY hOA hOB hKK hra hrb hoa hob hla hlb ha hb hk hn1 hn2 S

  by_cases ga : 200 < la
  · have gi : (200 : Int) < (la : Int) := by omega
    go_enter Try.func3, Try.ntmps3
    go_upto_region 1 with (fail)
    rw [HY.out]
    go_wp2_with ((with_reducible refine (HAW.out Y).mono ?_); rintro e w1 ⟨rfl, hb⟩; have D1 := Lib.hid hb; have p0 := NA.out w1 hb; have p1 := NB.out w1 hb; clear hb)
    refine (HAW.out _).mono ?_
    rintro e wz ⟨rfl, hz⟩
    go_wp2_with fail
    go_ret
    exact ⟨rfl, HB.out.trans ((bel3 D1.out hz).mono HB.out.size)⟩
  · have gi : ¬ (200 : Int) < (la : Int) := by omega
    by_cases gb : 200 < lb
    · have gj : (200 : Int) < (lb : Int) := by omega
      go_enter Try.func3, Try.ntmps3
      go_upto_region 1 with (fail)
      rw [HY.out]
      go_wp2_with ((with_reducible refine (HAW.out Y).mono ?_); rintro e w1 ⟨rfl, hb⟩; have D1 := Lib.hid hb; have p0 := NA.out w1 hb; have p1 := NB.out w1 hb; clear hb)
      refine (HAW.out _).mono ?_
      rintro e wz ⟨rfl, hz⟩
      go_wp2_with fail
      go_ret
      exact ⟨rfl, HB.out.trans ((bel3 D1.out hz).mono HB.out.size)⟩
    · have gj : ¬ (200 : Int) < (lb : Int) := by omega
      by_cases hn : 1 ≤ n ∧ n ≤ 4096
      · obtain ⟨r, rfl⟩ : ∃ r : Nat, n = (r : Int) := ⟨n.toNat, by omega⟩
        have q1 : (1 : Int) ≤ (r : Int) := hn.1
        have q2 : (r : Int) ≤ 4096 := hn.2
        have q3 : 1 ≤ r := by omega
        have q4 : r ≤ 4096 := by omega
        have NW := Lib.hid (fun W h => HNEW.out r q3 q4 W h)
        clear hn HNEW HNON
        go_enter Try.func3, Try.ntmps3
        go_upto_region 1 with (fail)
        rw [HY.out]
        go_wp2_with (first | ((with_reducible refine (HAW.out Y).mono ?_); rintro e w1 ⟨rfl, hb⟩; have D1 := Lib.hid hb; have p0 := NA.out w1 hb; have p1 := NB.out w1 hb; clear hb) | ((with_reducible show wpList _ _ _ (⟨some 27, _, _, _, _, _⟩ :: _) _ _); refine wpList_loadKey (op := ⟨some 27, _, _, _, _, _⟩) _ rfl (by rfl) (w.heap.size + 2) 0 (by rfl) key HKL.out (PK.out _ D1.out) KK HKK.out ?_) | ((with_reducible refine (NW.out w1 D1.out).mono ?_); rintro e w2 ⟨g, fp, rfl, hT, _, _⟩; have T2 := Lib.hid hT; clear hT p0 p1) | ((with_reducible refine (T2.out.len HS.out).mono ?_); rintro e w3 ⟨rfl, fp3, hT, _, _⟩; have DZ := Lib.hid hT.bel; clear hT T2))
        refine wp_region_held_drew (S := fun W => Below Y.heap.size Y W) (by kernel_rfl) (DZ.out.drew) (fun hHeld => ?_)
        refine tkY 0 66 (.agg OA) rfl (yields_loadFw (by rfl) _ rfl w.heap.size 0 (by rfl) a PA.out OA HOA.out) hHeld ?_
        simp only [Act.put, sA, sZ, sS]
        refine tkY 2 68 (.agg OA) rfl (yields_loadFw (by rfl) _ rfl w.heap.size 0 (by rfl) a PA.out OA HOA.out) hHeld ?_
        simp only [Act.put, sA, sZ, sS]
        refine wpAnyH_ready (rs := [1]) (by kernel_rfl) (by simp) (AllReadyH.cons (o := ⟨some 67, _, _, _, _, _⟩) rfl (fun K hK => ?_) AllReadyH.nil)
        go_simp
        refine (HLA.out (by omega) _).mono ?_
        rintro e wq ⟨rfl, hq⟩
        have DQ := Lib.hid (hHeld.trans (hq.mono hHeld.size))
        refine hK.out _ _ (DQ.out) (fun hHeld => ?_)
        clear hK K hq DQ
        refine wpAnyH_ready (rs := [3]) (by kernel_rfl) (by simp) (AllReadyH.cons (o := ⟨some 69, _, _, _, _, _⟩) rfl (fun K hK => ?_) AllReadyH.nil)
        go_simp
        refine (HRA.out (by omega) _).mono ?_
        rintro e wq ⟨rfl, hq⟩
        have DQ := Lib.hid (hHeld.trans (hq.mono hHeld.size))
        refine hK.out _ _ (DQ.out) (fun hHeld => ?_)
        clear hK K hq DQ
        refine tk 4 70 (.bool false) rfl hHeld ?_
        simp only [Act.put, sA, sZ, sS]
        refine tk 5 71 (.bool false) rfl hHeld ?_
        simp only [Act.put, sA, sZ, sS]
        refine tkY 6 72 (.agg OB) rfl (yields_loadFw (by rfl) _ rfl (w.heap.size + 1) 0 (by rfl) b PB.out OB HOB.out) hHeld ?_
        simp only [Act.put, sA, sZ, sS]
        refine tkY 8 74 (.agg OB) rfl (yields_loadFw (by rfl) _ rfl (w.heap.size + 1) 0 (by rfl) b PB.out OB HOB.out) hHeld ?_
        simp only [Act.put, sA, sZ, sS]
        refine wpAnyH_ready (rs := [7]) (by kernel_rfl) (by simp) (AllReadyH.cons (o := ⟨some 73, _, _, _, _, _⟩) rfl (fun K hK => ?_) AllReadyH.nil)
        go_simp
        refine (HLB.out (by omega) _).mono ?_
        rintro e wq ⟨rfl, hq⟩
        have DQ := Lib.hid (hHeld.trans (hq.mono hHeld.size))
        refine hK.out _ _ (DQ.out) (fun hHeld => ?_)
        clear hK K hq DQ
        refine wpAnyH_ready (rs := [9]) (by kernel_rfl) (by simp) (AllReadyH.cons (o := ⟨some 75, _, _, _, _, _⟩) rfl (fun K hK => ?_) AllReadyH.nil)
        go_simp
        refine (HRB.out (by omega) _).mono ?_
        rintro e wq ⟨rfl, hq⟩
        have DQ := Lib.hid (hHeld.trans (hq.mono hHeld.size))
        refine hK.out _ _ (DQ.out) (fun hHeld => ?_)
        clear hK K hq DQ
        refine tk 10 76 (.bool false) rfl hHeld ?_
        simp only [Act.put, sA, sZ, sS]
        refine tk 11 77 (.bool false) rfl hHeld ?_
        simp only [Act.put, sA, sZ, sS]
        have DY2 := Lib.hid hHeld
        clear hHeld
        refine wpAnyH_done (by kernel_rfl) ?_ _
        go_wp2_with fail
        cases ra
        · skip
          refine wp_region_held_drew (S := fun W => Below Y.heap.size Y W) (by kernel_rfl) (DY2.out.drew) (fun hHeld => ?_)
          refine tkY 0 78 (.agg OA) rfl (yields_loadFw (by rfl) _ rfl w.heap.size 0 (by rfl) a PA.out OA HOA.out) hHeld ?_
          simp only [Act.put, sA, sZ, sS]
          refine wpAnyH_ready (rs := [1]) (by kernel_rfl) (by simp) (AllReadyH.cons (o := ⟨some 79, _, _, _, _, _⟩) rfl (fun K hK => ?_) AllReadyH.nil)
          go_simp
          refine (HRA.out (by omega) _).mono ?_
          rintro e wq ⟨rfl, hq⟩
          have DQ := Lib.hid (hHeld.trans (hq.mono hHeld.size))
          refine hK.out _ _ (DQ.out) (fun hHeld => ?_)
          clear hK K hq DQ
          refine tk 2 80 (.bool true) rfl hHeld ?_
          simp only [Act.put, sA, sZ, sS]
          refine tk 3 81 (.bool true) rfl hHeld ?_
          simp only [Act.put, sA, sZ, sS]
          refine tkN 4 82 rfl hHeld ?_
          simp only [Act.put, sA, sZ, sS]
          refine tkN 5 83 rfl hHeld ?_
          simp only [Act.put, sA, sZ, sS]
          refine tkN 6 84 rfl hHeld ?_
          simp only [Act.put, sA, sZ, sS]
          refine tk 7 85 (.bool true) rfl hHeld ?_
          simp only [Act.put, sA, sZ, sS]
          refine tk 8 86 (.bool true) rfl hHeld ?_
          simp only [Act.put, sA, sZ, sS]
          refine tkN 9 87 rfl hHeld ?_
          simp only [Act.put, sA, sZ, sS]
          refine tkN 10 88 rfl hHeld ?_
          simp only [Act.put, sA, sZ, sS]
          refine tkN 11 89 rfl hHeld ?_
          simp only [Act.put, sA, sZ, sS]
          refine tkN 12 90 rfl hHeld ?_
          simp only [Act.put, sA, sZ, sS]
          refine tkN 13 91 rfl hHeld ?_
          simp only [Act.put, sA, sZ, sS]
          refine tkN 14 92 rfl hHeld ?_
          simp only [Act.put, sA, sZ, sS]
          refine tkN 15 93 rfl hHeld ?_
          simp only [Act.put, sA, sZ, sS]
          refine tkN 16 94 rfl hHeld ?_
          simp only [Act.put, sA, sZ, sS]
          refine tkN 17 95 rfl hHeld ?_
          simp only [Act.put, sA, sZ, sS]
          refine tkN 18 96 rfl hHeld ?_
          simp only [Act.put, sA, sZ, sS]
          refine tkN 19 97 rfl hHeld ?_
          simp only [Act.put, sA, sZ, sS]
          refine tkN 20 98 rfl hHeld ?_
          simp only [Act.put, sA, sZ, sS]
          refine tkN 21 99 rfl hHeld ?_
          simp only [Act.put, sA, sZ, sS]
          refine tkN 22 100 rfl hHeld ?_
          simp only [Act.put, sA, sZ, sS]
          refine tkN 23 101 rfl hHeld ?_
          simp only [Act.put, sA, sZ, sS]
          refine tkN 24 102 rfl hHeld ?_
          simp only [Act.put, sA, sZ, sS]
          refine tk 25 103 (.bool true) rfl hHeld ?_
          simp only [Act.put, sA, sZ, sS]
          refine tk 26 8 (.bool true) rfl hHeld ?_
          simp only [Act.put, sA, sZ, sS]
          have DE := Lib.hid hHeld
          clear hHeld
          refine wpAnyH_done (by kernel_rfl) ?_ _
          go_wp2_with fail
          go_ret
          exact ⟨rfl, HB.out.trans (DE.out.mono HB.out.size)⟩
        · cases rb
          · skip
            refine wp_region_held_drew (S := fun W => Below Y.heap.size Y W) (by kernel_rfl) (DY2.out.drew) (fun hHeld => ?_)
            refine tkY 0 78 (.agg OA) rfl (yields_loadFw (by rfl) _ rfl w.heap.size 0 (by rfl) a PA.out OA HOA.out) hHeld ?_
            simp only [Act.put, sA, sZ, sS]
            refine wpAnyH_ready (rs := [1]) (by kernel_rfl) (by simp) (AllReadyH.cons (o := ⟨some 79, _, _, _, _, _⟩) rfl (fun K hK => ?_) AllReadyH.nil)
            go_simp
            refine (HRA.out (by omega) _).mono ?_
            rintro e wq ⟨rfl, hq⟩
            have DQ := Lib.hid (hHeld.trans (hq.mono hHeld.size))
            refine hK.out _ _ (DQ.out) (fun hHeld => ?_)
            clear hK K hq DQ
            refine tk 2 80 (.bool false) rfl hHeld ?_
            simp only [Act.put, sA, sZ, sS]
            refine tk 3 81 (.bool false) rfl hHeld ?_
            simp only [Act.put, sA, sZ, sS]
            refine tkY 4 82 (.agg OB) rfl (yields_loadFw (by rfl) _ rfl (w.heap.size + 1) 0 (by rfl) b PB.out OB HOB.out) hHeld ?_
            simp only [Act.put, sA, sZ, sS]
            refine wpAnyH_ready (rs := [5]) (by kernel_rfl) (by simp) (AllReadyH.cons (o := ⟨some 83, _, _, _, _, _⟩) rfl (fun K hK => ?_) AllReadyH.nil)
            go_simp
            refine (HRB.out (by omega) _).mono ?_
            rintro e wq ⟨rfl, hq⟩
            have DQ := Lib.hid (hHeld.trans (hq.mono hHeld.size))
            refine hK.out _ _ (DQ.out) (fun hHeld => ?_)
            clear hK K hq DQ
            refine tk 6 84 (.bool true) rfl hHeld ?_
            simp only [Act.put, sA, sZ, sS]
            refine tk 7 85 (.bool true) rfl hHeld ?_
            simp only [Act.put, sA, sZ, sS]
            refine tk 8 86 (.bool true) rfl hHeld ?_
            simp only [Act.put, sA, sZ, sS]
            refine tkN 9 87 rfl hHeld ?_
            simp only [Act.put, sA, sZ, sS]
            refine tkN 10 88 rfl hHeld ?_
            simp only [Act.put, sA, sZ, sS]
            refine tkN 11 89 rfl hHeld ?_
            simp only [Act.put, sA, sZ, sS]
            refine tkN 12 90 rfl hHeld ?_
            simp only [Act.put, sA, sZ, sS]
            refine tkN 13 91 rfl hHeld ?_
            simp only [Act.put, sA, sZ, sS]
            refine tkN 14 92 rfl hHeld ?_
            simp only [Act.put, sA, sZ, sS]
            refine tkN 15 93 rfl hHeld ?_
            simp only [Act.put, sA, sZ, sS]
            refine tkN 16 94 rfl hHeld ?_
            simp only [Act.put, sA, sZ, sS]
            refine tkN 17 95 rfl hHeld ?_
            simp only [Act.put, sA, sZ, sS]
            refine tkN 18 96 rfl hHeld ?_
            simp only [Act.put, sA, sZ, sS]
            refine tkN 19 97 rfl hHeld ?_
            simp only [Act.put, sA, sZ, sS]
            refine tkN 20 98 rfl hHeld ?_
            simp only [Act.put, sA, sZ, sS]
            refine tkN 21 99 rfl hHeld ?_
            simp only [Act.put, sA, sZ, sS]
            refine tkN 22 100 rfl hHeld ?_
            simp only [Act.put, sA, sZ, sS]
            refine tkN 23 101 rfl hHeld ?_
            simp only [Act.put, sA, sZ, sS]
            refine tkN 24 102 rfl hHeld ?_
            simp only [Act.put, sA, sZ, sS]
            refine tk 25 103 (.bool true) rfl hHeld ?_
            simp only [Act.put, sA, sZ, sS]
            refine tk 26 8 (.bool true) rfl hHeld ?_
            simp only [Act.put, sA, sZ, sS]
            have DE := Lib.hid hHeld
            clear hHeld
            refine wpAnyH_done (by kernel_rfl) ?_ _
            go_wp2_with fail
            go_ret
            exact ⟨rfl, HB.out.trans (DE.out.mono HB.out.size)⟩
          · skip
            refine wp_region_held_drew (S := fun W => Below Y.heap.size Y W) (by kernel_rfl) (DY2.out.drew) (fun hHeld => ?_)
            refine tkY 0 78 (.agg OA) rfl (yields_loadFw (by rfl) _ rfl w.heap.size 0 (by rfl) a PA.out OA HOA.out) hHeld ?_
            simp only [Act.put, sA, sZ, sS]
            refine wpAnyH_ready (rs := [1]) (by kernel_rfl) (by simp) (AllReadyH.cons (o := ⟨some 79, _, _, _, _, _⟩) rfl (fun K hK => ?_) AllReadyH.nil)
            go_simp
            refine (HRA.out (by omega) _).mono ?_
            rintro e wq ⟨rfl, hq⟩
            have DQ := Lib.hid (hHeld.trans (hq.mono hHeld.size))
            refine hK.out _ _ (DQ.out) (fun hHeld => ?_)
            clear hK K hq DQ
            refine tk 2 80 (.bool false) rfl hHeld ?_
            simp only [Act.put, sA, sZ, sS]
            refine tk 3 81 (.bool false) rfl hHeld ?_
            simp only [Act.put, sA, sZ, sS]
            refine tkY 4 82 (.agg OB) rfl (yields_loadFw (by rfl) _ rfl (w.heap.size + 1) 0 (by rfl) b PB.out OB HOB.out) hHeld ?_
            simp only [Act.put, sA, sZ, sS]
            refine wpAnyH_ready (rs := [5]) (by kernel_rfl) (by simp) (AllReadyH.cons (o := ⟨some 83, _, _, _, _, _⟩) rfl (fun K hK => ?_) AllReadyH.nil)
            go_simp
            refine (HRB.out (by omega) _).mono ?_
            rintro e wq ⟨rfl, hq⟩
            have DQ := Lib.hid (hHeld.trans (hq.mono hHeld.size))
            refine hK.out _ _ (DQ.out) (fun hHeld => ?_)
            clear hK K hq DQ
            refine tk 6 84 (.bool false) rfl hHeld ?_
            simp only [Act.put, sA, sZ, sS]
            refine tk 7 85 (.bool false) rfl hHeld ?_
            simp only [Act.put, sA, sZ, sS]
            refine tk 8 86 (.bool false) rfl hHeld ?_
            simp only [Act.put, sA, sZ, sS]
            refine tkY 9 87 (.agg OA) rfl (yields_loadFw (by rfl) _ rfl w.heap.size 0 (by rfl) a PA.out OA HOA.out) hHeld ?_
            simp only [Act.put, sA, sZ, sS]
            refine tkY 10 88 (.agg OB) rfl (yields_loadFw (by rfl) _ rfl (w.heap.size + 1) 0 (by rfl) b PB.out OB HOB.out) hHeld ?_
            simp only [Act.put, sA, sZ, sS]
            refine tkY 12 90 (.agg OA) rfl (yields_loadFw (by rfl) _ rfl w.heap.size 0 (by rfl) a PA.out OA HOA.out) hHeld ?_
            simp only [Act.put, sA, sZ, sS]
            refine tkY 13 91 (.agg OB) rfl (yields_loadFw (by rfl) _ rfl (w.heap.size + 1) 0 (by rfl) b PB.out OB HOB.out) hHeld ?_
            simp only [Act.put, sA, sZ, sS]
            refine wpAnyH_ready (rs := [11]) (by kernel_rfl) (by simp) (AllReadyH.cons (o := ⟨some 89, _, _, _, _, _⟩) rfl (fun K hK => ?_) AllReadyH.nil)
            go_simp
            refine (HOL.out rfl rfl _).mono ?_
            rintro e wq ⟨rfl, hq⟩
            have DQ := Lib.hid (hHeld.trans (hq.mono hHeld.size))
            refine hK.out _ _ (DQ.out) (fun hHeld => ?_)
            clear hK K hq DQ
            refine wpAnyH_ready (rs := [14]) (by kernel_rfl) (by simp) (AllReadyH.cons (o := ⟨some 92, _, _, _, _, _⟩) rfl (fun K hK => ?_) AllReadyH.nil)
            go_simp
            refine (HRL.out rfl rfl _).mono ?_
            rintro e wq ⟨rfl, hq⟩
            have DQ := Lib.hid (hHeld.trans (hq.mono hHeld.size))
            refine hK.out _ _ (DQ.out) (fun hHeld => ?_)
            clear hK K hq DQ
            refine tk 15 93 (.bool true) rfl hHeld ?_
            simp only [Act.put, sA, sZ, sS]
            refine tk 16 94 (.bool true) rfl hHeld ?_
            simp only [Act.put, sA, sZ, sS]
            refine tkY 17 95 (.agg OB) rfl (yields_loadFw (by rfl) _ rfl (w.heap.size + 1) 0 (by rfl) b PB.out OB HOB.out) hHeld ?_
            simp only [Act.put, sA, sZ, sS]
            refine tkY 18 96 (.agg OA) rfl (yields_loadFw (by rfl) _ rfl w.heap.size 0 (by rfl) a PA.out OA HOA.out) hHeld ?_
            simp only [Act.put, sA, sZ, sS]
            refine tkY 20 98 (.agg OB) rfl (yields_loadFw (by rfl) _ rfl (w.heap.size + 1) 0 (by rfl) b PB.out OB HOB.out) hHeld ?_
            simp only [Act.put, sA, sZ, sS]
            refine tkY 21 99 (.agg OA) rfl (yields_loadFw (by rfl) _ rfl w.heap.size 0 (by rfl) a PA.out OA HOA.out) hHeld ?_
            simp only [Act.put, sA, sZ, sS]
            refine wpAnyH_ready (rs := [19]) (by kernel_rfl) (by simp) (AllReadyH.cons (o := ⟨some 97, _, _, _, _, _⟩) rfl (fun K hK => ?_) AllReadyH.nil)
            go_simp
            refine (HOR.out rfl rfl _).mono ?_
            rintro e wq ⟨rfl, hq⟩
            have DQ := Lib.hid (hHeld.trans (hq.mono hHeld.size))
            refine hK.out _ _ (DQ.out) (fun hHeld => ?_)
            clear hK K hq DQ
            refine wpAnyH_ready (rs := [22]) (by kernel_rfl) (by simp) (AllReadyH.cons (o := ⟨some 100, _, _, _, _, _⟩) rfl (fun K hK => ?_) AllReadyH.nil)
            go_simp
            refine (HRR.out rfl rfl _).mono ?_
            rintro e wq ⟨rfl, hq⟩
            have DQ := Lib.hid (hHeld.trans (hq.mono hHeld.size))
            refine hK.out _ _ (DQ.out) (fun hHeld => ?_)
            clear hK K hq DQ
            refine tk 23 101 (.bool true) rfl hHeld ?_
            simp only [Act.put, sA, sZ, sS]
            refine tk 24 102 (.bool true) rfl hHeld ?_
            simp only [Act.put, sA, sZ, sS]
            refine tk 25 103 (.bool true) rfl hHeld ?_
            simp only [Act.put, sA, sZ, sS]
            refine tk 26 8 (.bool true) rfl hHeld ?_
            simp only [Act.put, sA, sZ, sS]
            have DE := Lib.hid hHeld
            clear hHeld
            refine wpAnyH_done (by kernel_rfl) ?_ _
            go_wp2_with fail
            go_ret
            exact ⟨rfl, HB.out.trans (DE.out.mono HB.out.size)⟩
      · by_cases hn3 : n < 1
        · have q1 : ¬ (1 : Int) ≤ n := by omega
          have NW := Lib.hid (fun W => HNON.out (.inl hn3) W)
          clear hn hn3 HNEW HNON
          go_enter Try.func3, Try.ntmps3
          go_upto_region 1 with (fail)
          rw [HY.out]
          go_wp2_with (first | ((with_reducible refine (HAW.out Y).mono ?_); rintro e w1 ⟨rfl, hb⟩; have D1 := Lib.hid hb; have p0 := NA.out w1 hb; have p1 := NB.out w1 hb; clear hb) | ((with_reducible show wpList _ _ _ (⟨some 27, _, _, _, _, _⟩ :: _) _ _); refine wpList_loadKey (op := ⟨some 27, _, _, _, _, _⟩) _ rfl (by rfl) (w.heap.size + 2) 0 (by rfl) key HKL.out (PK.out _ D1.out) KK HKK.out ?_) | ((with_reducible refine (NW.out w1).mono ?_); rintro e w2 ⟨rfl, hb2⟩; have DZ := Lib.hid (bel3 D1.out hb2); clear hb2 p0 p1))
          refine wp_region_held_drew (S := fun W => Below Y.heap.size Y W) (by kernel_rfl) (DZ.out.drew) (fun hHeld => ?_)
          refine tkY 0 66 (.agg OA) rfl (yields_loadFw (by rfl) _ rfl w.heap.size 0 (by rfl) a PA.out OA HOA.out) hHeld ?_
          simp only [Act.put, sA, sZ, sS]
          refine tkY 2 68 (.agg OA) rfl (yields_loadFw (by rfl) _ rfl w.heap.size 0 (by rfl) a PA.out OA HOA.out) hHeld ?_
          simp only [Act.put, sA, sZ, sS]
          refine wpAnyH_ready (rs := [1]) (by kernel_rfl) (by simp) (AllReadyH.cons (o := ⟨some 67, _, _, _, _, _⟩) rfl (fun K hK => ?_) AllReadyH.nil)
          go_simp
          refine (HLA.out (by omega) _).mono ?_
          rintro e wq ⟨rfl, hq⟩
          have DQ := Lib.hid (hHeld.trans (hq.mono hHeld.size))
          refine hK.out _ _ (DQ.out) (fun hHeld => ?_)
          clear hK K hq DQ
          refine wpAnyH_ready (rs := [3]) (by kernel_rfl) (by simp) (AllReadyH.cons (o := ⟨some 69, _, _, _, _, _⟩) rfl (fun K hK => ?_) AllReadyH.nil)
          go_simp
          refine (HRA.out (by omega) _).mono ?_
          rintro e wq ⟨rfl, hq⟩
          have DQ := Lib.hid (hHeld.trans (hq.mono hHeld.size))
          refine hK.out _ _ (DQ.out) (fun hHeld => ?_)
          clear hK K hq DQ
          refine tk 4 70 (.bool false) rfl hHeld ?_
          simp only [Act.put, sA, sZ, sS]
          refine tk 5 71 (.bool false) rfl hHeld ?_
          simp only [Act.put, sA, sZ, sS]
          refine tkY 6 72 (.agg OB) rfl (yields_loadFw (by rfl) _ rfl (w.heap.size + 1) 0 (by rfl) b PB.out OB HOB.out) hHeld ?_
          simp only [Act.put, sA, sZ, sS]
          refine tkY 8 74 (.agg OB) rfl (yields_loadFw (by rfl) _ rfl (w.heap.size + 1) 0 (by rfl) b PB.out OB HOB.out) hHeld ?_
          simp only [Act.put, sA, sZ, sS]
          refine wpAnyH_ready (rs := [7]) (by kernel_rfl) (by simp) (AllReadyH.cons (o := ⟨some 73, _, _, _, _, _⟩) rfl (fun K hK => ?_) AllReadyH.nil)
          go_simp
          refine (HLB.out (by omega) _).mono ?_
          rintro e wq ⟨rfl, hq⟩
          have DQ := Lib.hid (hHeld.trans (hq.mono hHeld.size))
          refine hK.out _ _ (DQ.out) (fun hHeld => ?_)
          clear hK K hq DQ
          refine wpAnyH_ready (rs := [9]) (by kernel_rfl) (by simp) (AllReadyH.cons (o := ⟨some 75, _, _, _, _, _⟩) rfl (fun K hK => ?_) AllReadyH.nil)
          go_simp
          refine (HRB.out (by omega) _).mono ?_
          rintro e wq ⟨rfl, hq⟩
          have DQ := Lib.hid (hHeld.trans (hq.mono hHeld.size))
          refine hK.out _ _ (DQ.out) (fun hHeld => ?_)
          clear hK K hq DQ
          refine tk 10 76 (.bool false) rfl hHeld ?_
          simp only [Act.put, sA, sZ, sS]
          refine tk 11 77 (.bool false) rfl hHeld ?_
          simp only [Act.put, sA, sZ, sS]
          have DY2 := Lib.hid hHeld
          clear hHeld
          refine wpAnyH_done (by kernel_rfl) ?_ _
          go_wp2_with fail
          cases ra
          · skip
            refine wp_region_held_drew (S := fun W => Below Y.heap.size Y W) (by kernel_rfl) (DY2.out.drew) (fun hHeld => ?_)
            refine tkY 0 78 (.agg OA) rfl (yields_loadFw (by rfl) _ rfl w.heap.size 0 (by rfl) a PA.out OA HOA.out) hHeld ?_
            simp only [Act.put, sA, sZ, sS]
            refine wpAnyH_ready (rs := [1]) (by kernel_rfl) (by simp) (AllReadyH.cons (o := ⟨some 79, _, _, _, _, _⟩) rfl (fun K hK => ?_) AllReadyH.nil)
            go_simp
            refine (HRA.out (by omega) _).mono ?_
            rintro e wq ⟨rfl, hq⟩
            have DQ := Lib.hid (hHeld.trans (hq.mono hHeld.size))
            refine hK.out _ _ (DQ.out) (fun hHeld => ?_)
            clear hK K hq DQ
            refine tk 2 80 (.bool true) rfl hHeld ?_
            simp only [Act.put, sA, sZ, sS]
            refine tk 3 81 (.bool true) rfl hHeld ?_
            simp only [Act.put, sA, sZ, sS]
            refine tkN 4 82 rfl hHeld ?_
            simp only [Act.put, sA, sZ, sS]
            refine tkN 5 83 rfl hHeld ?_
            simp only [Act.put, sA, sZ, sS]
            refine tkN 6 84 rfl hHeld ?_
            simp only [Act.put, sA, sZ, sS]
            refine tk 7 85 (.bool true) rfl hHeld ?_
            simp only [Act.put, sA, sZ, sS]
            refine tk 8 86 (.bool true) rfl hHeld ?_
            simp only [Act.put, sA, sZ, sS]
            refine tkN 9 87 rfl hHeld ?_
            simp only [Act.put, sA, sZ, sS]
            refine tkN 10 88 rfl hHeld ?_
            simp only [Act.put, sA, sZ, sS]
            refine tkN 11 89 rfl hHeld ?_
            simp only [Act.put, sA, sZ, sS]
            refine tkN 12 90 rfl hHeld ?_
            simp only [Act.put, sA, sZ, sS]
            refine tkN 13 91 rfl hHeld ?_
            simp only [Act.put, sA, sZ, sS]
            refine tkN 14 92 rfl hHeld ?_
            simp only [Act.put, sA, sZ, sS]
            refine tkN 15 93 rfl hHeld ?_
            simp only [Act.put, sA, sZ, sS]
            refine tkN 16 94 rfl hHeld ?_
            simp only [Act.put, sA, sZ, sS]
            refine tkN 17 95 rfl hHeld ?_
            simp only [Act.put, sA, sZ, sS]
            refine tkN 18 96 rfl hHeld ?_
            simp only [Act.put, sA, sZ, sS]
            refine tkN 19 97 rfl hHeld ?_
            simp only [Act.put, sA, sZ, sS]
            refine tkN 20 98 rfl hHeld ?_
            simp only [Act.put, sA, sZ, sS]
            refine tkN 21 99 rfl hHeld ?_
            simp only [Act.put, sA, sZ, sS]
            refine tkN 22 100 rfl hHeld ?_
            simp only [Act.put, sA, sZ, sS]
            refine tkN 23 101 rfl hHeld ?_
            simp only [Act.put, sA, sZ, sS]
            refine tkN 24 102 rfl hHeld ?_
            simp only [Act.put, sA, sZ, sS]
            refine tk 25 103 (.bool true) rfl hHeld ?_
            simp only [Act.put, sA, sZ, sS]
            refine tk 26 8 (.bool true) rfl hHeld ?_
            simp only [Act.put, sA, sZ, sS]
            have DE := Lib.hid hHeld
            clear hHeld
            refine wpAnyH_done (by kernel_rfl) ?_ _
            go_wp2_with fail
            go_ret
            exact ⟨rfl, HB.out.trans (DE.out.mono HB.out.size)⟩
          · cases rb
            · skip
              refine wp_region_held_drew (S := fun W => Below Y.heap.size Y W) (by kernel_rfl) (DY2.out.drew) (fun hHeld => ?_)
              refine tkY 0 78 (.agg OA) rfl (yields_loadFw (by rfl) _ rfl w.heap.size 0 (by rfl) a PA.out OA HOA.out) hHeld ?_
              simp only [Act.put, sA, sZ, sS]
              refine wpAnyH_ready (rs := [1]) (by kernel_rfl) (by simp) (AllReadyH.cons (o := ⟨some 79, _, _, _, _, _⟩) rfl (fun K hK => ?_) AllReadyH.nil)
              go_simp
              refine (HRA.out (by omega) _).mono ?_
              rintro e wq ⟨rfl, hq⟩
              have DQ := Lib.hid (hHeld.trans (hq.mono hHeld.size))
              refine hK.out _ _ (DQ.out) (fun hHeld => ?_)
              clear hK K hq DQ
              refine tk 2 80 (.bool false) rfl hHeld ?_
              simp only [Act.put, sA, sZ, sS]
              refine tk 3 81 (.bool false) rfl hHeld ?_
              simp only [Act.put, sA, sZ, sS]
              refine tkY 4 82 (.agg OB) rfl (yields_loadFw (by rfl) _ rfl (w.heap.size + 1) 0 (by rfl) b PB.out OB HOB.out) hHeld ?_
              simp only [Act.put, sA, sZ, sS]
              refine wpAnyH_ready (rs := [5]) (by kernel_rfl) (by simp) (AllReadyH.cons (o := ⟨some 83, _, _, _, _, _⟩) rfl (fun K hK => ?_) AllReadyH.nil)
              go_simp
              refine (HRB.out (by omega) _).mono ?_
              rintro e wq ⟨rfl, hq⟩
              have DQ := Lib.hid (hHeld.trans (hq.mono hHeld.size))
              refine hK.out _ _ (DQ.out) (fun hHeld => ?_)
              clear hK K hq DQ
              refine tk 6 84 (.bool true) rfl hHeld ?_
              simp only [Act.put, sA, sZ, sS]
              refine tk 7 85 (.bool true) rfl hHeld ?_
              simp only [Act.put, sA, sZ, sS]
              refine tk 8 86 (.bool true) rfl hHeld ?_
              simp only [Act.put, sA, sZ, sS]
              refine tkN 9 87 rfl hHeld ?_
              simp only [Act.put, sA, sZ, sS]
              refine tkN 10 88 rfl hHeld ?_
              simp only [Act.put, sA, sZ, sS]
              refine tkN 11 89 rfl hHeld ?_
              simp only [Act.put, sA, sZ, sS]
              refine tkN 12 90 rfl hHeld ?_
              simp only [Act.put, sA, sZ, sS]
              refine tkN 13 91 rfl hHeld ?_
              simp only [Act.put, sA, sZ, sS]
              refine tkN 14 92 rfl hHeld ?_
              simp only [Act.put, sA, sZ, sS]
              refine tkN 15 93 rfl hHeld ?_
              simp only [Act.put, sA, sZ, sS]
              refine tkN 16 94 rfl hHeld ?_
              simp only [Act.put, sA, sZ, sS]
              refine tkN 17 95 rfl hHeld ?_
              simp only [Act.put, sA, sZ, sS]
              refine tkN 18 96 rfl hHeld ?_
              simp only [Act.put, sA, sZ, sS]
              refine tkN 19 97 rfl hHeld ?_
              simp only [Act.put, sA, sZ, sS]
              refine tkN 20 98 rfl hHeld ?_
              simp only [Act.put, sA, sZ, sS]
              refine tkN 21 99 rfl hHeld ?_
              simp only [Act.put, sA, sZ, sS]
              refine tkN 22 100 rfl hHeld ?_
              simp only [Act.put, sA, sZ, sS]
              refine tkN 23 101 rfl hHeld ?_
              simp only [Act.put, sA, sZ, sS]
              refine tkN 24 102 rfl hHeld ?_
              simp only [Act.put, sA, sZ, sS]
              refine tk 25 103 (.bool true) rfl hHeld ?_
              simp only [Act.put, sA, sZ, sS]
              refine tk 26 8 (.bool true) rfl hHeld ?_
              simp only [Act.put, sA, sZ, sS]
              have DE := Lib.hid hHeld
              clear hHeld
              refine wpAnyH_done (by kernel_rfl) ?_ _
              go_wp2_with fail
              go_ret
              exact ⟨rfl, HB.out.trans (DE.out.mono HB.out.size)⟩
            · skip
              refine wp_region_held_drew (S := fun W => Below Y.heap.size Y W) (by kernel_rfl) (DY2.out.drew) (fun hHeld => ?_)
              refine tkY 0 78 (.agg OA) rfl (yields_loadFw (by rfl) _ rfl w.heap.size 0 (by rfl) a PA.out OA HOA.out) hHeld ?_
              simp only [Act.put, sA, sZ, sS]
              refine wpAnyH_ready (rs := [1]) (by kernel_rfl) (by simp) (AllReadyH.cons (o := ⟨some 79, _, _, _, _, _⟩) rfl (fun K hK => ?_) AllReadyH.nil)
              go_simp
              refine (HRA.out (by omega) _).mono ?_
              rintro e wq ⟨rfl, hq⟩
              have DQ := Lib.hid (hHeld.trans (hq.mono hHeld.size))
              refine hK.out _ _ (DQ.out) (fun hHeld => ?_)
              clear hK K hq DQ
              refine tk 2 80 (.bool false) rfl hHeld ?_
              simp only [Act.put, sA, sZ, sS]
              refine tk 3 81 (.bool false) rfl hHeld ?_
              simp only [Act.put, sA, sZ, sS]
              refine tkY 4 82 (.agg OB) rfl (yields_loadFw (by rfl) _ rfl (w.heap.size + 1) 0 (by rfl) b PB.out OB HOB.out) hHeld ?_
              simp only [Act.put, sA, sZ, sS]
              refine wpAnyH_ready (rs := [5]) (by kernel_rfl) (by simp) (AllReadyH.cons (o := ⟨some 83, _, _, _, _, _⟩) rfl (fun K hK => ?_) AllReadyH.nil)
              go_simp
              refine (HRB.out (by omega) _).mono ?_
              rintro e wq ⟨rfl, hq⟩
              have DQ := Lib.hid (hHeld.trans (hq.mono hHeld.size))
              refine hK.out _ _ (DQ.out) (fun hHeld => ?_)
              clear hK K hq DQ
              refine tk 6 84 (.bool false) rfl hHeld ?_
              simp only [Act.put, sA, sZ, sS]
              refine tk 7 85 (.bool false) rfl hHeld ?_
              simp only [Act.put, sA, sZ, sS]
              refine tk 8 86 (.bool false) rfl hHeld ?_
              simp only [Act.put, sA, sZ, sS]
              refine tkY 9 87 (.agg OA) rfl (yields_loadFw (by rfl) _ rfl w.heap.size 0 (by rfl) a PA.out OA HOA.out) hHeld ?_
              simp only [Act.put, sA, sZ, sS]
              refine tkY 10 88 (.agg OB) rfl (yields_loadFw (by rfl) _ rfl (w.heap.size + 1) 0 (by rfl) b PB.out OB HOB.out) hHeld ?_
              simp only [Act.put, sA, sZ, sS]
              refine tkY 12 90 (.agg OA) rfl (yields_loadFw (by rfl) _ rfl w.heap.size 0 (by rfl) a PA.out OA HOA.out) hHeld ?_
              simp only [Act.put, sA, sZ, sS]
              refine tkY 13 91 (.agg OB) rfl (yields_loadFw (by rfl) _ rfl (w.heap.size + 1) 0 (by rfl) b PB.out OB HOB.out) hHeld ?_
              simp only [Act.put, sA, sZ, sS]
              refine wpAnyH_ready (rs := [11]) (by kernel_rfl) (by simp) (AllReadyH.cons (o := ⟨some 89, _, _, _, _, _⟩) rfl (fun K hK => ?_) AllReadyH.nil)
              go_simp
              refine (HOL.out rfl rfl _).mono ?_
              rintro e wq ⟨rfl, hq⟩
              have DQ := Lib.hid (hHeld.trans (hq.mono hHeld.size))
              refine hK.out _ _ (DQ.out) (fun hHeld => ?_)
              clear hK K hq DQ
              refine wpAnyH_ready (rs := [14]) (by kernel_rfl) (by simp) (AllReadyH.cons (o := ⟨some 92, _, _, _, _, _⟩) rfl (fun K hK => ?_) AllReadyH.nil)
              go_simp
              refine (HRL.out rfl rfl _).mono ?_
              rintro e wq ⟨rfl, hq⟩
              have DQ := Lib.hid (hHeld.trans (hq.mono hHeld.size))
              refine hK.out _ _ (DQ.out) (fun hHeld => ?_)
              clear hK K hq DQ
              refine tk 15 93 (.bool true) rfl hHeld ?_
              simp only [Act.put, sA, sZ, sS]
              refine tk 16 94 (.bool true) rfl hHeld ?_
              simp only [Act.put, sA, sZ, sS]
              refine tkY 17 95 (.agg OB) rfl (yields_loadFw (by rfl) _ rfl (w.heap.size + 1) 0 (by rfl) b PB.out OB HOB.out) hHeld ?_
              simp only [Act.put, sA, sZ, sS]
              refine tkY 18 96 (.agg OA) rfl (yields_loadFw (by rfl) _ rfl w.heap.size 0 (by rfl) a PA.out OA HOA.out) hHeld ?_
              simp only [Act.put, sA, sZ, sS]
              refine tkY 20 98 (.agg OB) rfl (yields_loadFw (by rfl) _ rfl (w.heap.size + 1) 0 (by rfl) b PB.out OB HOB.out) hHeld ?_
              simp only [Act.put, sA, sZ, sS]
              refine tkY 21 99 (.agg OA) rfl (yields_loadFw (by rfl) _ rfl w.heap.size 0 (by rfl) a PA.out OA HOA.out) hHeld ?_
              simp only [Act.put, sA, sZ, sS]
              refine wpAnyH_ready (rs := [19]) (by kernel_rfl) (by simp) (AllReadyH.cons (o := ⟨some 97, _, _, _, _, _⟩) rfl (fun K hK => ?_) AllReadyH.nil)
              go_simp
              refine (HOR.out rfl rfl _).mono ?_
              rintro e wq ⟨rfl, hq⟩
              have DQ := Lib.hid (hHeld.trans (hq.mono hHeld.size))
              refine hK.out _ _ (DQ.out) (fun hHeld => ?_)
              clear hK K hq DQ
              refine wpAnyH_ready (rs := [22]) (by kernel_rfl) (by simp) (AllReadyH.cons (o := ⟨some 100, _, _, _, _, _⟩) rfl (fun K hK => ?_) AllReadyH.nil)
              go_simp
              refine (HRR.out rfl rfl _).mono ?_
              rintro e wq ⟨rfl, hq⟩
              have DQ := Lib.hid (hHeld.trans (hq.mono hHeld.size))
              refine hK.out _ _ (DQ.out) (fun hHeld => ?_)
              clear hK K hq DQ
              refine tk 23 101 (.bool true) rfl hHeld ?_
              simp only [Act.put, sA, sZ, sS]
              refine tk 24 102 (.bool true) rfl hHeld ?_
              simp only [Act.put, sA, sZ, sS]
              refine tk 25 103 (.bool true) rfl hHeld ?_
              simp only [Act.put, sA, sZ, sS]
              refine tk 26 8 (.bool true) rfl hHeld ?_
              simp only [Act.put, sA, sZ, sS]
              have DE := Lib.hid hHeld
              clear hHeld
              refine wpAnyH_done (by kernel_rfl) ?_ _
              go_wp2_with fail
              go_ret
              exact ⟨rfl, HB.out.trans (DE.out.mono HB.out.size)⟩
        · have q1 : (1 : Int) ≤ n := by omega
          have q2 : ¬ n ≤ (4096 : Int) := by omega
          have NW := Lib.hid (fun W => HNON.out (.inr (by omega)) W)
          clear hn hn3 HNEW HNON
          go_enter Try.func3, Try.ntmps3
          go_upto_region 1 with (fail)
          rw [HY.out]
          go_wp2_with (first | ((with_reducible refine (HAW.out Y).mono ?_); rintro e w1 ⟨rfl, hb⟩; have D1 := Lib.hid hb; have p0 := NA.out w1 hb; have p1 := NB.out w1 hb; clear hb) | ((with_reducible show wpList _ _ _ (⟨some 27, _, _, _, _, _⟩ :: _) _ _); refine wpList_loadKey (op := ⟨some 27, _, _, _, _, _⟩) _ rfl (by rfl) (w.heap.size + 2) 0 (by rfl) key HKL.out (PK.out _ D1.out) KK HKK.out ?_) | ((with_reducible refine (NW.out w1).mono ?_); rintro e w2 ⟨rfl, hb2⟩; have DZ := Lib.hid (bel3 D1.out hb2); clear hb2 p0 p1))
          refine wp_region_held_drew (S := fun W => Below Y.heap.size Y W) (by kernel_rfl) (DZ.out.drew) (fun hHeld => ?_)
          refine tkY 0 66 (.agg OA) rfl (yields_loadFw (by rfl) _ rfl w.heap.size 0 (by rfl) a PA.out OA HOA.out) hHeld ?_
          simp only [Act.put, sA, sZ, sS]
          refine tkY 2 68 (.agg OA) rfl (yields_loadFw (by rfl) _ rfl w.heap.size 0 (by rfl) a PA.out OA HOA.out) hHeld ?_
          simp only [Act.put, sA, sZ, sS]
          refine wpAnyH_ready (rs := [1]) (by kernel_rfl) (by simp) (AllReadyH.cons (o := ⟨some 67, _, _, _, _, _⟩) rfl (fun K hK => ?_) AllReadyH.nil)
          go_simp
          refine (HLA.out (by omega) _).mono ?_
          rintro e wq ⟨rfl, hq⟩
          have DQ := Lib.hid (hHeld.trans (hq.mono hHeld.size))
          refine hK.out _ _ (DQ.out) (fun hHeld => ?_)
          clear hK K hq DQ
          refine wpAnyH_ready (rs := [3]) (by kernel_rfl) (by simp) (AllReadyH.cons (o := ⟨some 69, _, _, _, _, _⟩) rfl (fun K hK => ?_) AllReadyH.nil)
          go_simp
          refine (HRA.out (by omega) _).mono ?_
          rintro e wq ⟨rfl, hq⟩
          have DQ := Lib.hid (hHeld.trans (hq.mono hHeld.size))
          refine hK.out _ _ (DQ.out) (fun hHeld => ?_)
          clear hK K hq DQ
          refine tk 4 70 (.bool false) rfl hHeld ?_
          simp only [Act.put, sA, sZ, sS]
          refine tk 5 71 (.bool false) rfl hHeld ?_
          simp only [Act.put, sA, sZ, sS]
          refine tkY 6 72 (.agg OB) rfl (yields_loadFw (by rfl) _ rfl (w.heap.size + 1) 0 (by rfl) b PB.out OB HOB.out) hHeld ?_
          simp only [Act.put, sA, sZ, sS]
          refine tkY 8 74 (.agg OB) rfl (yields_loadFw (by rfl) _ rfl (w.heap.size + 1) 0 (by rfl) b PB.out OB HOB.out) hHeld ?_
          simp only [Act.put, sA, sZ, sS]
          refine wpAnyH_ready (rs := [7]) (by kernel_rfl) (by simp) (AllReadyH.cons (o := ⟨some 73, _, _, _, _, _⟩) rfl (fun K hK => ?_) AllReadyH.nil)
          go_simp
          refine (HLB.out (by omega) _).mono ?_
          rintro e wq ⟨rfl, hq⟩
          have DQ := Lib.hid (hHeld.trans (hq.mono hHeld.size))
          refine hK.out _ _ (DQ.out) (fun hHeld => ?_)
          clear hK K hq DQ
          refine wpAnyH_ready (rs := [9]) (by kernel_rfl) (by simp) (AllReadyH.cons (o := ⟨some 75, _, _, _, _, _⟩) rfl (fun K hK => ?_) AllReadyH.nil)
          go_simp
          refine (HRB.out (by omega) _).mono ?_
          rintro e wq ⟨rfl, hq⟩
          have DQ := Lib.hid (hHeld.trans (hq.mono hHeld.size))
          refine hK.out _ _ (DQ.out) (fun hHeld => ?_)
          clear hK K hq DQ
          refine tk 10 76 (.bool false) rfl hHeld ?_
          simp only [Act.put, sA, sZ, sS]
          refine tk 11 77 (.bool false) rfl hHeld ?_
          simp only [Act.put, sA, sZ, sS]
          have DY2 := Lib.hid hHeld
          clear hHeld
          refine wpAnyH_done (by kernel_rfl) ?_ _
          go_wp2_with fail
          cases ra
          · skip
            refine wp_region_held_drew (S := fun W => Below Y.heap.size Y W) (by kernel_rfl) (DY2.out.drew) (fun hHeld => ?_)
            refine tkY 0 78 (.agg OA) rfl (yields_loadFw (by rfl) _ rfl w.heap.size 0 (by rfl) a PA.out OA HOA.out) hHeld ?_
            simp only [Act.put, sA, sZ, sS]
            refine wpAnyH_ready (rs := [1]) (by kernel_rfl) (by simp) (AllReadyH.cons (o := ⟨some 79, _, _, _, _, _⟩) rfl (fun K hK => ?_) AllReadyH.nil)
            go_simp
            refine (HRA.out (by omega) _).mono ?_
            rintro e wq ⟨rfl, hq⟩
            have DQ := Lib.hid (hHeld.trans (hq.mono hHeld.size))
            refine hK.out _ _ (DQ.out) (fun hHeld => ?_)
            clear hK K hq DQ
            refine tk 2 80 (.bool true) rfl hHeld ?_
            simp only [Act.put, sA, sZ, sS]
            refine tk 3 81 (.bool true) rfl hHeld ?_
            simp only [Act.put, sA, sZ, sS]
            refine tkN 4 82 rfl hHeld ?_
            simp only [Act.put, sA, sZ, sS]
            refine tkN 5 83 rfl hHeld ?_
            simp only [Act.put, sA, sZ, sS]
            refine tkN 6 84 rfl hHeld ?_
            simp only [Act.put, sA, sZ, sS]
            refine tk 7 85 (.bool true) rfl hHeld ?_
            simp only [Act.put, sA, sZ, sS]
            refine tk 8 86 (.bool true) rfl hHeld ?_
            simp only [Act.put, sA, sZ, sS]
            refine tkN 9 87 rfl hHeld ?_
            simp only [Act.put, sA, sZ, sS]
            refine tkN 10 88 rfl hHeld ?_
            simp only [Act.put, sA, sZ, sS]
            refine tkN 11 89 rfl hHeld ?_
            simp only [Act.put, sA, sZ, sS]
            refine tkN 12 90 rfl hHeld ?_
            simp only [Act.put, sA, sZ, sS]
            refine tkN 13 91 rfl hHeld ?_
            simp only [Act.put, sA, sZ, sS]
            refine tkN 14 92 rfl hHeld ?_
            simp only [Act.put, sA, sZ, sS]
            refine tkN 15 93 rfl hHeld ?_
            simp only [Act.put, sA, sZ, sS]
            refine tkN 16 94 rfl hHeld ?_
            simp only [Act.put, sA, sZ, sS]
            refine tkN 17 95 rfl hHeld ?_
            simp only [Act.put, sA, sZ, sS]
            refine tkN 18 96 rfl hHeld ?_
            simp only [Act.put, sA, sZ, sS]
            refine tkN 19 97 rfl hHeld ?_
            simp only [Act.put, sA, sZ, sS]
            refine tkN 20 98 rfl hHeld ?_
            simp only [Act.put, sA, sZ, sS]
            refine tkN 21 99 rfl hHeld ?_
            simp only [Act.put, sA, sZ, sS]
            refine tkN 22 100 rfl hHeld ?_
            simp only [Act.put, sA, sZ, sS]
            refine tkN 23 101 rfl hHeld ?_
            simp only [Act.put, sA, sZ, sS]
            refine tkN 24 102 rfl hHeld ?_
            simp only [Act.put, sA, sZ, sS]
            refine tk 25 103 (.bool true) rfl hHeld ?_
            simp only [Act.put, sA, sZ, sS]
            refine tk 26 8 (.bool true) rfl hHeld ?_
            simp only [Act.put, sA, sZ, sS]
            have DE := Lib.hid hHeld
            clear hHeld
            refine wpAnyH_done (by kernel_rfl) ?_ _
            go_wp2_with fail
            go_ret
            exact ⟨rfl, HB.out.trans (DE.out.mono HB.out.size)⟩
          · cases rb
            · skip
              refine wp_region_held_drew (S := fun W => Below Y.heap.size Y W) (by kernel_rfl) (DY2.out.drew) (fun hHeld => ?_)
              refine tkY 0 78 (.agg OA) rfl (yields_loadFw (by rfl) _ rfl w.heap.size 0 (by rfl) a PA.out OA HOA.out) hHeld ?_
              simp only [Act.put, sA, sZ, sS]
              refine wpAnyH_ready (rs := [1]) (by kernel_rfl) (by simp) (AllReadyH.cons (o := ⟨some 79, _, _, _, _, _⟩) rfl (fun K hK => ?_) AllReadyH.nil)
              go_simp
              refine (HRA.out (by omega) _).mono ?_
              rintro e wq ⟨rfl, hq⟩
              have DQ := Lib.hid (hHeld.trans (hq.mono hHeld.size))
              refine hK.out _ _ (DQ.out) (fun hHeld => ?_)
              clear hK K hq DQ
              refine tk 2 80 (.bool false) rfl hHeld ?_
              simp only [Act.put, sA, sZ, sS]
              refine tk 3 81 (.bool false) rfl hHeld ?_
              simp only [Act.put, sA, sZ, sS]
              refine tkY 4 82 (.agg OB) rfl (yields_loadFw (by rfl) _ rfl (w.heap.size + 1) 0 (by rfl) b PB.out OB HOB.out) hHeld ?_
              simp only [Act.put, sA, sZ, sS]
              refine wpAnyH_ready (rs := [5]) (by kernel_rfl) (by simp) (AllReadyH.cons (o := ⟨some 83, _, _, _, _, _⟩) rfl (fun K hK => ?_) AllReadyH.nil)
              go_simp
              refine (HRB.out (by omega) _).mono ?_
              rintro e wq ⟨rfl, hq⟩
              have DQ := Lib.hid (hHeld.trans (hq.mono hHeld.size))
              refine hK.out _ _ (DQ.out) (fun hHeld => ?_)
              clear hK K hq DQ
              refine tk 6 84 (.bool true) rfl hHeld ?_
              simp only [Act.put, sA, sZ, sS]
              refine tk 7 85 (.bool true) rfl hHeld ?_
              simp only [Act.put, sA, sZ, sS]
              refine tk 8 86 (.bool true) rfl hHeld ?_
              simp only [Act.put, sA, sZ, sS]
              refine tkN 9 87 rfl hHeld ?_
              simp only [Act.put, sA, sZ, sS]
              refine tkN 10 88 rfl hHeld ?_
              simp only [Act.put, sA, sZ, sS]
              refine tkN 11 89 rfl hHeld ?_
              simp only [Act.put, sA, sZ, sS]
              refine tkN 12 90 rfl hHeld ?_
              simp only [Act.put, sA, sZ, sS]
              refine tkN 13 91 rfl hHeld ?_
              simp only [Act.put, sA, sZ, sS]
              refine tkN 14 92 rfl hHeld ?_
              simp only [Act.put, sA, sZ, sS]
              refine tkN 15 93 rfl hHeld ?_
              simp only [Act.put, sA, sZ, sS]
              refine tkN 16 94 rfl hHeld ?_
              simp only [Act.put, sA, sZ, sS]
              refine tkN 17 95 rfl hHeld ?_
              simp only [Act.put, sA, sZ, sS]
              refine tkN 18 96 rfl hHeld ?_
              simp only [Act.put, sA, sZ, sS]
              refine tkN 19 97 rfl hHeld ?_
              simp only [Act.put, sA, sZ, sS]
              refine tkN 20 98 rfl hHeld ?_
              simp only [Act.put, sA, sZ, sS]
              refine tkN 21 99 rfl hHeld ?_
              simp only [Act.put, sA, sZ, sS]
              refine tkN 22 100 rfl hHeld ?_
              simp only [Act.put, sA, sZ, sS]
              refine tkN 23 101 rfl hHeld ?_
              simp only [Act.put, sA, sZ, sS]
              refine tkN 24 102 rfl hHeld ?_
              simp only [Act.put, sA, sZ, sS]
              refine tk 25 103 (.bool true) rfl hHeld ?_
              simp only [Act.put, sA, sZ, sS]
              refine tk 26 8 (.bool true) rfl hHeld ?_
              simp only [Act.put, sA, sZ, sS]
              have DE := Lib.hid hHeld
              clear hHeld
              refine wpAnyH_done (by kernel_rfl) ?_ _
              go_wp2_with fail
              go_ret
              exact ⟨rfl, HB.out.trans (DE.out.mono HB.out.size)⟩
            · skip
              refine wp_region_held_drew (S := fun W => Below Y.heap.size Y W) (by kernel_rfl) (DY2.out.drew) (fun hHeld => ?_)
              refine tkY 0 78 (.agg OA) rfl (yields_loadFw (by rfl) _ rfl w.heap.size 0 (by rfl) a PA.out OA HOA.out) hHeld ?_
              simp only [Act.put, sA, sZ, sS]
              refine wpAnyH_ready (rs := [1]) (by kernel_rfl) (by simp) (AllReadyH.cons (o := ⟨some 79, _, _, _, _, _⟩) rfl (fun K hK => ?_) AllReadyH.nil)
              go_simp
              refine (HRA.out (by omega) _).mono ?_
              rintro e wq ⟨rfl, hq⟩
              have DQ := Lib.hid (hHeld.trans (hq.mono hHeld.size))
              refine hK.out _ _ (DQ.out) (fun hHeld => ?_)
              clear hK K hq DQ
              refine tk 2 80 (.bool false) rfl hHeld ?_
              simp only [Act.put, sA, sZ, sS]
              refine tk 3 81 (.bool false) rfl hHeld ?_
              simp only [Act.put, sA, sZ, sS]
              refine tkY 4 82 (.agg OB) rfl (yields_loadFw (by rfl) _ rfl (w.heap.size + 1) 0 (by rfl) b PB.out OB HOB.out) hHeld ?_
              simp only [Act.put, sA, sZ, sS]
              refine wpAnyH_ready (rs := [5]) (by kernel_rfl) (by simp) (AllReadyH.cons (o := ⟨some 83, _, _, _, _, _⟩) rfl (fun K hK => ?_) AllReadyH.nil)
              go_simp
              refine (HRB.out (by omega) _).mono ?_
              rintro e wq ⟨rfl, hq⟩
              have DQ := Lib.hid (hHeld.trans (hq.mono hHeld.size))
              refine hK.out _ _ (DQ.out) (fun hHeld => ?_)
              clear hK K hq DQ
              refine tk 6 84 (.bool false) rfl hHeld ?_
              simp only [Act.put, sA, sZ, sS]
              refine tk 7 85 (.bool false) rfl hHeld ?_
              simp only [Act.put, sA, sZ, sS]
              refine tk 8 86 (.bool false) rfl hHeld ?_
              simp only [Act.put, sA, sZ, sS]
              refine tkY 9 87 (.agg OA) rfl (yields_loadFw (by rfl) _ rfl w.heap.size 0 (by rfl) a PA.out OA HOA.out) hHeld ?_
              simp only [Act.put, sA, sZ, sS]
              refine tkY 10 88 (.agg OB) rfl (yields_loadFw (by rfl) _ rfl (w.heap.size + 1) 0 (by rfl) b PB.out OB HOB.out) hHeld ?_
              simp only [Act.put, sA, sZ, sS]
              refine tkY 12 90 (.agg OA) rfl (yields_loadFw (by rfl) _ rfl w.heap.size 0 (by rfl) a PA.out OA HOA.out) hHeld ?_
              simp only [Act.put, sA, sZ, sS]
              refine tkY 13 91 (.agg OB) rfl (yields_loadFw (by rfl) _ rfl (w.heap.size + 1) 0 (by rfl) b PB.out OB HOB.out) hHeld ?_
              simp only [Act.put, sA, sZ, sS]
              refine wpAnyH_ready (rs := [11]) (by kernel_rfl) (by simp) (AllReadyH.cons (o := ⟨some 89, _, _, _, _, _⟩) rfl (fun K hK => ?_) AllReadyH.nil)
              go_simp
              refine (HOL.out rfl rfl _).mono ?_
              rintro e wq ⟨rfl, hq⟩
              have DQ := Lib.hid (hHeld.trans (hq.mono hHeld.size))
              refine hK.out _ _ (DQ.out) (fun hHeld => ?_)
              clear hK K hq DQ
              refine wpAnyH_ready (rs := [14]) (by kernel_rfl) (by simp) (AllReadyH.cons (o := ⟨some 92, _, _, _, _, _⟩) rfl (fun K hK => ?_) AllReadyH.nil)
              go_simp
              refine (HRL.out rfl rfl _).mono ?_
              rintro e wq ⟨rfl, hq⟩
              have DQ := Lib.hid (hHeld.trans (hq.mono hHeld.size))
              refine hK.out _ _ (DQ.out) (fun hHeld => ?_)
              clear hK K hq DQ
              refine tk 15 93 (.bool true) rfl hHeld ?_
              simp only [Act.put, sA, sZ, sS]
              refine tk 16 94 (.bool true) rfl hHeld ?_
              simp only [Act.put, sA, sZ, sS]
              refine tkY 17 95 (.agg OB) rfl (yields_loadFw (by rfl) _ rfl (w.heap.size + 1) 0 (by rfl) b PB.out OB HOB.out) hHeld ?_
              simp only [Act.put, sA, sZ, sS]
              refine tkY 18 96 (.agg OA) rfl (yields_loadFw (by rfl) _ rfl w.heap.size 0 (by rfl) a PA.out OA HOA.out) hHeld ?_
              simp only [Act.put, sA, sZ, sS]
              refine tkY 20 98 (.agg OB) rfl (yields_loadFw (by rfl) _ rfl (w.heap.size + 1) 0 (by rfl) b PB.out OB HOB.out) hHeld ?_
              simp only [Act.put, sA, sZ, sS]
              refine tkY 21 99 (.agg OA) rfl (yields_loadFw (by rfl) _ rfl w.heap.size 0 (by rfl) a PA.out OA HOA.out) hHeld ?_
              simp only [Act.put, sA, sZ, sS]
              refine wpAnyH_ready (rs := [19]) (by kernel_rfl) (by simp) (AllReadyH.cons (o := ⟨some 97, _, _, _, _, _⟩) rfl (fun K hK => ?_) AllReadyH.nil)
              go_simp
              refine (HOR.out rfl rfl _).mono ?_
              rintro e wq ⟨rfl, hq⟩
              have DQ := Lib.hid (hHeld.trans (hq.mono hHeld.size))
              refine hK.out _ _ (DQ.out) (fun hHeld => ?_)
              clear hK K hq DQ
              refine wpAnyH_ready (rs := [22]) (by kernel_rfl) (by simp) (AllReadyH.cons (o := ⟨some 100, _, _, _, _, _⟩) rfl (fun K hK => ?_) AllReadyH.nil)
              go_simp
              refine (HRR.out rfl rfl _).mono ?_
              rintro e wq ⟨rfl, hq⟩
              have DQ := Lib.hid (hHeld.trans (hq.mono hHeld.size))
              refine hK.out _ _ (DQ.out) (fun hHeld => ?_)
              clear hK K hq DQ
              refine tk 23 101 (.bool true) rfl hHeld ?_
              simp only [Act.put, sA, sZ, sS]
              refine tk 24 102 (.bool true) rfl hHeld ?_
              simp only [Act.put, sA, sZ, sS]
              refine tk 25 103 (.bool true) rfl hHeld ?_
              simp only [Act.put, sA, sZ, sS]
              refine tk 26 8 (.bool true) rfl hHeld ?_
              simp only [Act.put, sA, sZ, sS]
              have DE := Lib.hid hHeld
              clear hHeld
              refine wpAnyH_done (by kernel_rfl) ?_ _
              go_wp2_with fail
              go_ret
              exact ⟨rfl, HB.out.trans (DE.out.mono HB.out.size)⟩
end Go.Proofs.Ytfbiinipiklkaaa
