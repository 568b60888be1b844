/-
  HealthSteps: its walk, the program's contracts a premise.
-/
import Derived.Test.YteljijjebocbiaaYAwake
import Derived.Test.YteljijjebocbiaaYOpen
namespace Go.Proofs.Yteljijjebocbiaa
set_option maxRecDepth 100000
open Go.RowKit Go.Lib

set_option maxHeartbeats 8000000 in
theorem healthSteps_walkW (S : HealthC) (h : Hl) (hO : HlOk h) (b : Bool) (rise : Int) (r1 : -9223372036854775808 ≤ rise) (r2 : rise ≤ 9223372036854775807) (fall : Int) (f1 : -9223372036854775808 ≤ fall) (f2 : fall ≤ 9223372036854775807) (w : World) :
    Calls Try.prog 3 #[hlC h, .bool b, .int .i64 rise, .int .i64 fall] w fun e w' => e = .returned (.bool true) ∧ Below w.heap.size w w' := by
  obtain ⟨LX, hLX⟩ : ∃ L, (hlL h).toArray = L := ⟨_, rfl⟩
  have hLC : hlC h = .agg LX := by rw [← hLX]; rfl
  rw [hLC]
  obtain ⟨Y, hY⟩ : ∃ Y, w.alloc (.cells LX 23) = Y := ⟨_, rfl⟩
  have hT : Blk Y 23 w.heap.size (hlL h) := by rw [← hY, ← hLX]; exact Blk_10.new w _ _
  have hB : Below w.heap.size w Y := by rw [← hY]; exact (Below.refl w.heap.size w).alloc (Nat.le_refl _) _
  have HB := Lib.hid hB
  have HY := Lib.hid hY
  have HLX := Lib.hid hLX
  have PC : Hid (∀ W, Below Y.heap.size Y W → W.rangeAt w.heap.size 0 (hlL h)) := Lib.hid (fun W hW => Blk_10.range (Blk_10.below hT (Blk_10.lt hT) hW))
  have PN : Hid (∀ W, Below Y.heap.size Y W → W.cell? ⟨w.heap.size, 0, none⟩ = some (.string ⟨h.nm.toArray⟩)) := Lib.hid (fun W hW => Blk_10.cell (Blk_10.below hT (Blk_10.lt hT) hW) (i := 0) rfl)
  have HAW := Lib.hid (fun W => awake_any S W)
  have HIN := Lib.hid hO.2
  have HSP : Hid (h.nm.length ≤ 200 → ∀ W, Below Y.heap.size Y W → Calls Try.prog 11 #[.agg LX, .bool b, .int .i64 rise, .int .i64 fall] W (StepGave W rise fall h b)) := Lib.hid (by rw [← hLC]; exact fun hl W _ => S.step h b rise fall W hO.2 hl r1 r2 f1 f2)
  have HSR : Hid (∀ W, Below Y.heap.size Y W → Calls Try.prog 12 #[.agg LX, .bool b, .int .i64 rise, .int .i64 fall] W (StepGave W rise fall h b)) := Lib.hid (by rw [← hLC]; exact fun W _ => rstep_any h b rise fall hO.2.1 hO.2.2 W)
  unfold StepGave at HSP HSR
  obtain ⟨G, tn, hG⟩ : ∃ G tn, (stepH rise fall h b) = (G, tn) := ⟨_, _, rfl⟩
  rw [hG] at HSP HSR
  obtain ⟨LS, hLS⟩ : ∃ L, (hlL G).toArray = L := ⟨_, rfl⟩
  have hLD : hlC G = .agg LS := by rw [← hLS]; rfl
  have HLD := Lib.hid hLD
  simp only [hLD] at HSP HSR
  have HLS := Lib.hid hLS
  obtain ⟨m, hm9⟩ : ∃ m, h.nm.length = m := ⟨_, rfl⟩
  have hs : (ByteArray.mk h.nm.toArray).size = m := by rw [← hm9]; rfl
  rw [hm9] at HSP
  have htt : (tn == tn) = true := by simp
  clear hLX hLC hT hB hY S hO hG hLS hLD hm9 r1 r2 f1 f2
  by_cases hl : 200 < m
  · have hl1 : 200 < (m : Int) := by omega
    clear hl
    go_enter Try.func3, Try.ntmps3
    go_upto_region 1 with (fail)
    rw [HY.out]
    go_wp2_with (first | ((with_reducible refine (HAW.out Y).mono ?_); rintro e w1 ⟨rfl, hb⟩; have D1 := Lib.hid hb; have p0 := PN.out w1 hb; clear hb))
    refine (HAW.out _).mono ?_
    rintro e wz ⟨rfl, hz⟩
    go_wp2_with fail
    go_ret
    exact ⟨rfl, HB.out.trans ((bel2 D1.out hz).mono HB.out.size)⟩
  have hl1 : ¬ 200 < (m : Int) := by omega
  have HP := Lib.hid (HSP.out (by omega))
  have HR9 := Lib.hid (HSR.out)
  clear HSP HSR hl
  go_enter Try.func3, Try.ntmps3
  go_upto_region 1 with (fail)
  rw [HY.out]
  go_wp2_with (first
    | ((with_reducible refine (HAW.out Y).mono ?_); rintro e w1 ⟨rfl, hb⟩; have D1 := Lib.hid hb; have p0 := PN.out w1 hb; clear hb)
    | ((with_reducible show wpList _ _ _ (⟨some 23, _, _, _, _, _⟩ :: _) _ _); refine wpList_loadHl (op := ⟨some 23, _, _, _, _, _⟩) _ rfl (by rfl) w.heap.size 0 (by rfl) h (PC.out w1 D1.out) _ HLX.out ?_)
    | ((with_reducible refine (HP.out w1 D1.out).mono ?_); rintro e w2 ⟨rfl, hb⟩; have D2 := Lib.hid (bel2 D1.out hb); clear hb p0)
    | ((with_reducible show wpList _ _ _ (⟨none, .store 23 (.tmp 9) _, _, _, _, _⟩ :: _) _ _); refine wpList_storeNewG rfl 23 (.tmp 9) _ rfl (by rfl) (hlL G) (by rw [HLS.out]; rfl) (by rfl) hlSize (hl_one _) ?_; intro w3 hk hb hz; clear hz; have K3 := Lib.hid hk; have D3 := Lib.hid (bel2 D2.out hb); clear hk hb)
    | ((with_reducible show wpList _ _ _ (⟨some 31, _, _, _, _, _⟩ :: _) _ _); refine wpList_loadHl (op := ⟨some 31, _, _, _, _, _⟩) _ rfl (by rfl) w.heap.size 0 (by rfl) h (PC.out w3 D3.out) _ HLX.out ?_)
    | ((with_reducible refine (HR9.out w3 D3.out).mono ?_); rintro e w4 ⟨rfl, hb⟩; have D4 := Lib.hid (bel2 D3.out hb); have K3 := Lib.hid (Blk_10.below K3.out (Blk_10.lt K3.out) hb); clear hb)
    | ((with_reducible show wpList _ _ _ (⟨none, .store 23 (.tmp 11) _, _, _, _, _⟩ :: _) _ _); refine wpList_storeNewG rfl 23 (.tmp 11) _ rfl (by rfl) (hlL G) (by rw [HLS.out]; rfl) (by rfl) hlSize (hl_one _) ?_; intro w5 hk hb hz; clear hz; have K3 := Lib.hid (Blk_10.below K3.out (Blk_10.lt K3.out) hb); have K5 := Lib.hid hk; have D5 := Lib.hid (bel2 D4.out hb); clear hk hb)
    | ((with_reducible show wpList _ _ _ (⟨some 38, _, _, _, _, _⟩ :: _) _ _); refine wpList_loadHl (op := ⟨some 38, _, _, _, _, _⟩) _ rfl (by rfl) w2.heap.size 0 (by rfl) G (Blk_10.range K3.out) _ HLS.out ?_)
    | ((with_reducible show wpList _ _ _ (⟨some 39, _, _, _, _, _⟩ :: _) _ _); refine wpList_loadHl (op := ⟨some 39, _, _, _, _, _⟩) _ rfl (by rfl) w4.heap.size 0 (by rfl) G (Blk_10.range K5.out) _ HLS.out ?_)
    | ((with_reducible show wpList _ _ _ (⟨some 40, _, _, _, _, _⟩ :: _) _ _); refine wpList_eqlHt (op := ⟨some 40, _, _, _, _, _⟩) _ _ _ rfl (by rfl) G G (by show Value.agg LS = _; exact HLD.out.symm) (by show Value.agg LS = _; exact HLD.out.symm) true (hlB_iff.2 rfl) ?_))
  go_ret
  exact ⟨rfl, HB.out.trans (D5.out.mono HB.out.size)⟩
end Go.Proofs.Yteljijjebocbiaa
