/-
  HealthSplits: its walk, the program's contracts a premise.
-/
import Derived.Test.YteljijjebocbiaaYLaw
namespace Go.Proofs.Yteljijjebocbiaa
set_option maxRecDepth 100000
open Go.RowKit Go.Lib

set_option maxHeartbeats 16000000 in
theorem healthSplits_walkW (S : HealthC) (h : Hl) (hO : HlOk h) (A : Option Addr) (n c : Nat) (l : List Bool) (hc : n ≤ c) (hm : c ≤ maxLen) (A2 : Option Addr) (n2 c2 : Nat) (k : List Bool) (hc2 : n2 ≤ c2) (hm2 : c2 ≤ maxLen) (rise : Int) (r1 : -9223372036854775808 ≤ rise) (r2 : rise ≤ 9223372036854775807) (fall : Int) (f1 : -9223372036854775808 ≤ fall) (f2 : fall ≤ 9223372036854775807) (w : World) (hI : RdG eT w w.heap.size A n l) (hI2 : RdG eT w w.heap.size A2 n2 k) :
    Calls Try.prog 6 #[hlC h, .slice A n c, .slice A2 n2 c2, .int .i64 rise, .int .i64 fall] w fun e w' => e = .returned (.bool true) ∧ Below w.heap.size w w' := by
  obtain ⟨LX, hLX⟩ : ∃ L, (hlL h).toArray = L := ⟨_, rfl⟩
  have hLC : hlC h = .agg LX := by rw [← hLX]; rfl
  rw [hLC]
  obtain ⟨Y, hY⟩ : ∃ Y, w.alloc (.cells LX 23) = Y := ⟨_, rfl⟩
  have hT : Blk Y 23 w.heap.size (hlL h) := by rw [← hY, ← hLX]; exact Blk_10.new w _ _
  have hB : Below w.heap.size w Y := by rw [← hY]; exact (Below.refl w.heap.size w).alloc (Nat.le_refl _) _
  have HB := Lib.hid hB
  have HY := Lib.hid hY
  have HLX := Lib.hid hLX
  have PC : Hid (∀ W, Below Y.heap.size Y W → W.rangeAt w.heap.size 0 (hlL h)) := Lib.hid (fun W hW => Blk_10.range (Blk_10.below hT (Blk_10.lt hT) hW))
  have PN : Hid (∀ W, Below Y.heap.size Y W → W.cell? ⟨w.heap.size, 0, none⟩ = some (.string ⟨h.nm.toArray⟩)) := Lib.hid (fun W hW => Blk_10.cell (Blk_10.below hT (Blk_10.lt hT) hW) (i := 0) rfl)
  have HAW := Lib.hid (fun W => awake_any S W)
  have PR : Hid (∀ W, Below Y.heap.size Y W → RdG eT W w.heap.size A n l) := Lib.hid (fun W hW => (hI.below hB).below (hW.mono hB.size))
  have PR2 : Hid (∀ W, Below Y.heap.size Y W → RdG eT W w.heap.size A2 n2 k) := Lib.hid (fun W hW => (hI2.below hB).below (hW.mono hB.size))
  have PS : Hid (∀ W : World, Below Y.heap.size Y W → w.heap.size ≤ W.heap.size) := Lib.hid (fun W hW => Nat.le_trans hB.size hW.size)
  have HLE := Lib.hid hI.len
  have HLE2 := Lib.hid hI2.len
  obtain ⟨G1, t1, hG1⟩ : ∃ G tn, runH rise fall h l = (G, tn) := ⟨_, _, rfl⟩
  obtain ⟨G2, t2, hG2⟩ : ∃ G tn, runH rise fall G1 k = (G, tn) := ⟨_, _, rfl⟩
  have e1 : (runH rise fall h l).1 = G1 := by rw [hG1]
  have hI1 : InR G1 := by rw [← e1]; exact run_in l hO.2
  have hN1 : G1.nm = h.nm := by rw [← e1]; exact run_nm rise fall l h
  have e2 : (runH rise fall G1 k).1 = G2 := by rw [hG2]
  have hN2 : G2.nm = h.nm := by rw [← e2, run_nm]; exact hN1
  have hall : runH rise fall h (([] ++ l) ++ k) = (G2, t1 + t2) := by rw [List.nil_append, run_append, hG1]; show ((runH rise fall G1 k).1, t1 + (runH rise fall G1 k).2) = _; rw [hG2]
  have hb1 := run_count rise fall l h
  have hb2 := run_count rise fall k G1
  rw [hG1, hI.len] at hb1
  rw [hG2, hI2.len] at hb2
  simp only at hb1 hb2
  obtain ⟨LG1, hLG1⟩ : ∃ L, (hlL G1).toArray = L := ⟨_, rfl⟩
  obtain ⟨LG2, hLG2⟩ : ∃ L, (hlL G2).toArray = L := ⟨_, rfl⟩
  have hD1 : hlC G1 = .agg LG1 := by rw [← hLG1]; rfl
  have hD2 : hlC G2 = .agg LG2 := by rw [← hLG2]; rfl
  obtain ⟨m, hm9⟩ : ∃ m, h.nm.length = m := ⟨_, rfl⟩
  have hs : (ByteArray.mk h.nm.toArray).size = m := by rw [← hm9]; rfl
  have HP1 : Hid (m ≤ 200 → n ≤ 500 → ∀ W, Below Y.heap.size Y W → Calls Try.prog 13 #[.agg LX, .slice A n c, .int .i64 rise, .int .i64 fall] W fun e w' => e = .returned (.tuple #[.agg LG1, .int .i64 t1]) ∧ Below W.heap.size W w') := Lib.hid (fun hl hn W hW => by
    have q := S.run h A n c l rise fall W hO.2 (by omega) (by omega) hc hm r1 r2 f1 f2 ((PR.out W hW).more (PS.out W hW))
    unfold RunGave at q
    rw [hLC, hG1] at q
    simp only [hD1] at q
    exact q)
  have HP2 : Hid (m ≤ 200 → n2 ≤ 500 → ∀ W, Below Y.heap.size Y W → Calls Try.prog 13 #[.agg LG1, .slice A2 n2 c2, .int .i64 rise, .int .i64 fall] W fun e w' => e = .returned (.tuple #[.agg LG2, .int .i64 t2]) ∧ Below W.heap.size W w') := Lib.hid (fun hl hn W hW => by
    have q := S.run G1 A2 n2 c2 k rise fall W hI1 (by rw [hN1]; omega) (by omega) hc2 hm2 r1 r2 f1 f2 ((PR2.out W hW).more (PS.out W hW))
    unfold RunGave at q
    rw [hD1, hG2] at q
    simp only [hD2] at q
    exact q)
  have HP3 : Hid (m ≤ 200 → ∀ W (A3 : Option Addr) (n3 c3 : Nat), n3 ≤ 1000 → n3 ≤ c3 → c3 ≤ maxLen → RdG eT W W.heap.size A3 n3 (([] ++ l) ++ k) → Calls Try.prog 13 #[.agg LX, .slice A3 n3 c3, .int .i64 rise, .int .i64 fall] W fun e w' => e = .returned (.tuple #[.agg LG2, .int .i64 (t1 + t2)]) ∧ Below W.heap.size W w') := Lib.hid (fun hl W A3 n3 c3 h1 h2 h3 h4 => by
    have q := S.run h A3 n3 c3 _ rise fall W hO.2 (by omega) h1 h2 h3 r1 r2 f1 f2 h4
    unfold RunGave at q
    rw [hLC, hall] at q
    simp only [hD2] at q
    exact q)
  have HLG1 := Lib.hid hLG1
  have HLG2 := Lib.hid hLG2
  have HLD := Lib.hid hD2
  have HNM := Lib.hid hN2
  have HLN : Hid ((([] ++ l) ++ k).length = n + n2) := Lib.hid (by rw [List.nil_append, List.length_append, hI.len, hI2.len])
  clear hLX hLC hT hB hY S hO hG1 hG2 e1 hI1 hN1 hN2 hall e2 hLG1 hLG2 hD1 hD2 hm9 r1 r2 f1 f2 hI hI2 hc hm hc2 hm2
  by_cases hn : 500 < n
  · have hn1 : 500 < (n : Int) := by omega
    clear hn hb1 hb2
    go_enter Try.func6, Try.ntmps6
    go_upto_region 1 with (fail)
    rw [HY.out]
    go_wp2_with (first | ((with_reducible refine (HAW.out Y).mono ?_); rintro e w1 ⟨rfl, hb⟩; have D1 := Lib.hid hb; have p0 := PN.out w1 hb; clear hb))
    refine (HAW.out _).mono ?_
    rintro e wz ⟨rfl, hz⟩
    go_wp2_with fail
    go_ret
    exact ⟨rfl, HB.out.trans ((bel2 D1.out hz).mono HB.out.size)⟩
  have hn1 : ¬ 500 < (n : Int) := by omega
  by_cases hk : 500 < n2
  · have hk1 : 500 < (n2 : Int) := by omega
    clear hk hb1 hb2
    go_enter Try.func6, Try.ntmps6
    go_upto_region 1 with (fail)
    rw [HY.out]
    go_wp2_with (first | ((with_reducible refine (HAW.out Y).mono ?_); rintro e w1 ⟨rfl, hb⟩; have D1 := Lib.hid hb; have p0 := PN.out w1 hb; clear hb))
    refine (HAW.out _).mono ?_
    rintro e wz ⟨rfl, hz⟩
    go_wp2_with fail
    go_ret
    exact ⟨rfl, HB.out.trans ((bel2 D1.out hz).mono HB.out.size)⟩
  have hk1 : ¬ 500 < (n2 : Int) := by omega
  by_cases hl : 200 < m
  · have hl1 : 200 < (m : Int) := by omega
    clear hl hb1 hb2
    go_enter Try.func6, Try.ntmps6
    go_upto_region 1 with (fail)
    rw [HY.out]
    go_wp2_with (first | ((with_reducible refine (HAW.out Y).mono ?_); rintro e w1 ⟨rfl, hb⟩; have D1 := Lib.hid hb; have p0 := PN.out w1 hb; clear hb))
    refine (HAW.out _).mono ?_
    rintro e wz ⟨rfl, hz⟩
    go_wp2_with fail
    go_ret
    exact ⟨rfl, HB.out.trans ((bel2 D1.out hz).mono HB.out.size)⟩
  have hl1 : ¬ 200 < (m : Int) := by omega
  have hwr : IntKind.i64.wrap (t1 + t2) = t1 + t2 := by rw [IntKind.wrap_i64]; omega
  have htt : (t1 + t2 == t1 + t2) = true := by simp
  have HQ1 := Lib.hid (HP1.out (by omega) (by omega))
  have HQ2 := Lib.hid (HP2.out (by omega) (by omega))
  have HQ3 := Lib.hid (HP3.out (by omega))
  have HNN : Hid (n ≤ 500 ∧ n2 ≤ 500) := Lib.hid ⟨by omega, by omega⟩
  clear HP1 HP2 HP3 hn hk hl hb1 hb2
  go_enter Try.func6, Try.ntmps6
  go_upto_region 1 with (fail)
  rw [HY.out]
  go_wp2_with (first
    | ((with_reducible refine (HAW.out Y).mono ?_); rintro e w1 ⟨rfl, hb⟩; have D1 := Lib.hid hb; have p0 := PN.out w1 hb; clear hb)
    | ((with_reducible show wpList _ _ _ (⟨some 39, _, _, _, _, _⟩ :: _) _ _); refine wpList_appendG (o := ⟨some 39, _, _, _, _, _⟩) eT rfl _ _ rfl w1.heap.size _ [] (by rfl) (OwnG.empty eT w1 (Nat.le_refl _)) w.heap.size A n c l (by rfl) ((PR.out w1 D1.out).alloc (PS.out w1 D1.out) _) (by have := HNN.out; simp only [List.length_nil]; omega) (by rw [World.size_alloc]; exact Nat.le_succ _) ?_; intro v2 w2 ho hg _; have D2 := Lib.hid ((D1.out.alloc D1.out.size _).grown hg (by rw [World.size_alloc]; exact Nat.le_succ_of_le D1.out.size) (fun g h => Nat.le_trans D1.out.size ((OwnG.empty eT w1 (Nat.le_refl _)).lt g h))); have O2 := Lib.hid ho; have S2 : Hid (w1.heap.size ≤ w2.heap.size) := Lib.hid (Nat.le_trans (by rw [World.size_alloc]; exact Nat.le_succ _) hg.size); clear ho hg p0)
    | ((with_reducible show wpList _ _ _ (⟨some 41, _, _, _, _, _⟩ :: _) _ _); refine wpList_appendG (o := ⟨some 41, _, _, _, _, _⟩) eT rfl _ _ rfl w1.heap.size _ ([] ++ l) (by rfl) O2.out w.heap.size A2 n2 c2 k (by rfl) (PR2.out w2 D2.out) (by have := HNN.out; have := HLE.out; rw [List.nil_append]; omega) S2.out ?_; intro v3 w3 ho hg _; have D3 := Lib.hid (D2.out.grown hg D2.out.size (fun g h => Nat.le_trans D1.out.size (O2.out.lt g h))); obtain ⟨A3, n3, c3, rfl, e3, q3, m3, ow3⟩ := own_any ho; have O3 := Lib.hid ow3; have E3 := Lib.hid e3; have Q3 := Lib.hid q3; have M3 := Lib.hid m3; clear ho hg ow3 e3 q3 m3)
    | ((with_reducible show wpList _ _ _ (⟨some 43, _, _, _, _, _⟩ :: _) _ _); refine wpList_loadHl (op := ⟨some 43, _, _, _, _, _⟩) _ rfl (by rfl) w.heap.size 0 (by rfl) h (PC.out w3 D3.out) _ HLX.out ?_)
    | ((with_reducible refine (HQ1.out w3 D3.out).mono ?_); rintro e w4 ⟨rfl, hb⟩; have O3 := Lib.hid (O3.out.below hb); have D4 := Lib.hid (bel2 D3.out hb); clear hb)
    | ((with_reducible show wpList _ _ _ (⟨none, .store 23 (.tmp 12) _, _, _, _, _⟩ :: _) _ _); refine wpList_storeNewG rfl 23 (.tmp 12) _ rfl (by rfl) (hlL G1) (by rw [HLG1.out]; rfl) (by rfl) hlSize (hl_one _) ?_; intro w5 hk hb hz; clear hz; have O3 := Lib.hid (O3.out.below hb); have K5 := Lib.hid hk; have D5 := Lib.hid (bel2 D4.out hb); clear hk hb)
    | ((with_reducible show wpList _ _ _ (⟨some 51, _, _, _, _, _⟩ :: _) _ _); refine wpList_loadHl (op := ⟨some 51, _, _, _, _, _⟩) _ rfl (by rfl) w4.heap.size 0 (by rfl) G1 (Blk_10.range K5.out) _ HLG1.out ?_)
    | ((with_reducible refine (HQ2.out w5 D5.out).mono ?_); rintro e w6 ⟨rfl, hb⟩; have O3 := Lib.hid (O3.out.below hb); have K5 := Lib.hid (Blk_10.below K5.out (Blk_10.lt K5.out) hb); have D6 := Lib.hid (bel2 D5.out hb); clear hb)
    | ((with_reducible show wpList _ _ _ (⟨none, .store 23 (.tmp 14) _, _, _, _, _⟩ :: _) _ _); refine wpList_storeNewG rfl 23 (.tmp 14) _ rfl (by rfl) (hlL G2) (by rw [HLG2.out]; rfl) (by rfl) hlSize (hl_one _) ?_; intro w7 hk hb hz; clear hz; have O3 := Lib.hid (O3.out.below hb); have K5 := Lib.hid (Blk_10.below K5.out (Blk_10.lt K5.out) hb); have K7 := Lib.hid hk; have D7 := Lib.hid (bel2 D6.out hb); clear hk hb)
    | ((with_reducible show wpList _ _ _ (⟨some 59, _, _, _, _, _⟩ :: _) _ _); refine wpList_loadHl (op := ⟨some 59, _, _, _, _, _⟩) _ rfl (by rfl) w.heap.size 0 (by rfl) h (PC.out w7 D7.out) _ HLX.out ?_)
    | ((with_reducible refine (HQ3.out w7 A3 n3 c3 (by rw [E3.out, HLN.out]; have := HNN.out; omega) Q3.out M3.out O3.out.rd).mono ?_); rintro e w8 ⟨rfl, hb⟩; have O3 := Lib.hid (O3.out.below hb); have K5 := Lib.hid (Blk_10.below K5.out (Blk_10.lt K5.out) hb); have K7 := Lib.hid (Blk_10.below K7.out (Blk_10.lt K7.out) hb); have D8 := Lib.hid (bel2 D7.out hb); clear hb)
    | ((with_reducible show wpList _ _ _ (⟨none, .store 23 (.tmp 16) _, _, _, _, _⟩ :: _) _ _); refine wpList_storeNewG rfl 23 (.tmp 16) _ rfl (by rfl) (hlL G2) (by rw [HLG2.out]; rfl) (by rfl) hlSize (hl_one _) ?_; intro w9 hk hb hz; clear hz; have O3 := Lib.hid (O3.out.below hb); have K5 := Lib.hid (Blk_10.below K5.out (Blk_10.lt K5.out) hb); have K7 := Lib.hid (Blk_10.below K7.out (Blk_10.lt K7.out) hb); have K9 := Lib.hid hk; have D9 := Lib.hid (bel2 D8.out hb); have p3 : w9.cell? ⟨w8.heap.size, 0, none⟩ = some (.string ⟨h.nm.toArray⟩) := (by have q := Blk_10.cell hk (i := 0) (v := strV G2.nm) rfl; rw [HNM.out] at q; exact q); have p4 := PN.out w9 D9.out; clear hk hb)
    | ((with_reducible show wpList _ _ _ (⟨some 66, _, _, _, _, _⟩ :: _) _ _); refine wpList_loadHl (op := ⟨some 66, _, _, _, _, _⟩) _ rfl (by rfl) w8.heap.size 0 (by rfl) G2 (Blk_10.range K9.out) _ HLG2.out ?_)
    | ((with_reducible show wpList _ _ _ (⟨some 67, _, _, _, _, _⟩ :: _) _ _); refine wpList_loadHl (op := ⟨some 67, _, _, _, _, _⟩) _ rfl (by rfl) w6.heap.size 0 (by rfl) G2 (Blk_10.range K7.out) _ HLG2.out ?_)
    | ((with_reducible show wpList _ _ _ (⟨some 68, _, _, _, _, _⟩ :: _) _ _); refine wpList_eqlHt (op := ⟨some 68, _, _, _, _, _⟩) _ _ _ rfl (by rfl) G2 G2 (by show Value.agg LG2 = _; exact HLD.out.symm) (by show Value.agg LG2 = _; exact HLD.out.symm) true (hlB_iff.2 rfl) ?_))
  go_ret
  exact ⟨rfl, HB.out.trans (D9.out.mono HB.out.size)⟩
end Go.Proofs.Yteljijjebocbiaa
