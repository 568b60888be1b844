/-
  PoolBack: its walk, the program's contracts a premise.
-/
import Derived.Test.YtajmppaodhpmgaaULaw2
import Derived.Deep.DeepCutAuto
namespace Go.Proofs.Ytajmppaodhpmgaa
set_option maxRecDepth 100000
open Go.RowKit Go.Lib

set_option maxHeartbeats 16000000 in
theorem poolBack_walkW (S : PoolC) (V : Int) (_hva : -9223372036854775808 ≤ V) (_hvb : V ≤ 9223372036854775807) (A : Option Addr) (len cap : Nat) (xs : List Bk) (hc : len ≤ cap) (hm : cap ≤ maxLen) (_hX : ∀ x, x ∈ xs → BkOk x) (b : Bk) (_hO : BkOk b) (s0 : ByteArray) (_hs : s0.size ≤ maxLen) (w : World) (hI : RdG eB w w.heap.size A len xs) :
    Calls Try.prog 8 #[.agg #[.int .i64 V, .slice A len cap], bkC b, .string s0] w fun e w' => e = .returned (.bool true) ∧ Below w.heap.size w w' := by
  obtain ⟨s, rfl⟩ : ∃ l : List UInt8, s0 = ⟨l.toArray⟩ := ⟨s0.data.toList, by rw [Array.toArray_toList]⟩
  unfold bkC
  obtain ⟨LB, hLB⟩ : ∃ L, (bkL b).toArray = L := ⟨_, rfl⟩
  rw [hLB]
  obtain ⟨Y, hY, hT, hXb, hB⟩ := box_pb w #[.int .i64 V, .slice A len cap] (bkL b).toArray
  rw [hLB] at hY
  have HX := Lib.hid hXb
  have HLO := Lib.hid hLB
  have HLX := Lib.hid (Blk_10.lt hXb)
  clear hXb hLB
  have HSS := Lib.hid S
  have HLE := Lib.hid hI.len
  have HCP := Lib.hid hc
  have HCM := Lib.hid hm
  have HLB := Lib.hid (big_max hc hm)
  have HT := Lib.hid hT
  have HB := Lib.hid hB
  have HR := Lib.hid (hI.below hB)
  have HY := Lib.hid hY
  have HLT := Lib.hid (Blk_10.lt hT)
  have PC : Hid (∀ W, Below Y.heap.size Y W → W.cell? ⟨w.heap.size, 0, none⟩ = some (.int .i64 V) ∧ W.cell? ⟨w.heap.size, 1, none⟩ = some (.slice A len cap)) := Lib.hid (fun W h => ⟨(h.cell (p := ⟨w.heap.size, 0, none⟩) HLT.out).trans (Blk_10.cell HT.out (i := 0) rfl), (h.cell (p := ⟨w.heap.size, 1, none⟩) HLT.out).trans (Blk_10.cell HT.out (i := 1) rfl)⟩)
  have PR : Hid (∀ W, Below Y.heap.size Y W → RdG eB W w.heap.size A len xs) := Lib.hid (fun W h => HR.out.below (h.mono HB.out.size))
  have PS : Hid (∀ W : World, Below Y.heap.size Y W → w.heap.size ≤ W.heap.size) := Lib.hid (fun W h => Nat.le_trans HB.out.size h.size)
  have HAW := Lib.hid (fun W => awake_any S W)
  obtain ⟨F, hF⟩ : ∃ F, fewU xs = F := ⟨_, rfl⟩
  have HFE := Lib.hid hF
  have HFW : Hid (∀ W, Below Y.heap.size Y W → Calls Try.prog 11 #[.agg #[.int .i64 V, .slice A len cap]] W fun e w' => e = .returned (.bool F) ∧ Below W.heap.size W w') := Lib.hid (by rw [← hF]; exact fun W h => rfewU_any cap HLB.out V W (PS.out W h) (PR.out W h))
  clear hF hc hm _hX hI hT hB hY S
  clear _hO _hva _hvb _hs
  have BX : Hid (∀ W, Below Y.heap.size Y W → W.rangeAt (w.heap.size + 1) 0 (bkL b)) := Lib.hid (fun W h => Blk_10.range (Blk_10.below HX.out HLX.out h))
  have BN : Hid (∀ W, Below Y.heap.size Y W → W.cell? ⟨w.heap.size + 1, 0, none⟩ = some (.string ⟨b.nm.toArray⟩)) := Lib.hid (fun W h => (h.cell (p := ⟨w.heap.size + 1, 0, none⟩) HLX.out).trans (Blk_10.cell HX.out (bk_nm b)))
  cases F
  · skip
    go_enter Try.func8, Try.ntmps8
    go_upto_region 1 with (fail)
    rw [HY.out]
    go_wp2_with (first | ((with_reducible refine (HAW.out Y).mono ?_); rintro e w1 ⟨rfl, hb⟩; have D1 := Lib.hid hb; obtain ⟨p0, p1⟩ := PC.out w1 hb; clear hb) | ((with_reducible refine (HFW.out w1 D1.out).mono ?_); rintro e w2 ⟨rfl, hb⟩; have D2 := Lib.hid (bel2 D1.out hb); clear p0 p1 hb; obtain ⟨p0, p1⟩ := PC.out w2 D2.out))
    refine (HAW.out _).mono ?_
    rintro e wz ⟨rfl, hz⟩
    go_wp2_with fail
    go_ret
    exact ⟨rfl, HB.out.trans ((bel2 D2.out hz).mono HB.out.size)⟩
  · skip
    have HN := Lib.hid (few_n HFE.out HLE.out)
    have HSH := Lib.hid (few_s HFE.out)
    by_cases hrp : RightP ⟨V, xs⟩
    · have HRW : Hid (∀ W, Below Y.heap.size Y W → Calls Try.prog 15 #[.agg #[.int .i64 V, .slice A len cap]] W fun e w' => e = .returned (.bool true) ∧ Below W.heap.size W w') := Lib.hid (fun W h => (rright18_any cap (p := ⟨V, xs⟩) HLB.out (fun x hx => Nat.le_trans (HSH.out x hx) (by decide)) W (PS.out W h) (PR.out W h)).mono (fun e w' ⟨r, he, hr, hb⟩ => ⟨by rw [he]; congr 2; exact hr.2 hrp, hb⟩))
      have HRP := Lib.hid hrp
      clear hrp
      by_cases g1 : 1000000 < V
      · skip
        go_enter Try.func8, Try.ntmps8
        go_upto_region 1 with (fail)
        rw [HY.out]
        go_wp2_with (first | ((with_reducible refine (HAW.out Y).mono ?_); rintro e w1 ⟨rfl, hb⟩; have D1 := Lib.hid hb; obtain ⟨p0, p1⟩ := PC.out w1 hb; clear hb) | ((with_reducible refine (HFW.out w1 D1.out).mono ?_); rintro e w2 ⟨rfl, hb⟩; have D2 := Lib.hid (bel2 D1.out hb); clear p0 p1 hb; obtain ⟨p0, p1⟩ := PC.out w2 D2.out) | ((with_reducible refine (HRW.out w2 D2.out).mono ?_); rintro e w3 ⟨rfl, hb⟩; have D3 := Lib.hid (bel2 D2.out hb); clear p0 p1 hb; obtain ⟨p0, p1⟩ := PC.out w3 D3.out; have bn := BN.out w3 D3.out))
        refine (HAW.out _).mono ?_
        rintro e wz ⟨rfl, hz⟩
        go_wp2_with fail
        go_ret
        exact ⟨rfl, HB.out.trans ((bel2 D3.out hz).mono HB.out.size)⟩
      · by_cases g2 : 60 < b.nm.length
        · have g2i : (60 : Int) < (b.nm.length : Int) := by omega
          clear g2
          go_enter Try.func8, Try.ntmps8
          go_upto_region 1 with (fail)
          rw [HY.out]
          go_wp2_with (first | ((with_reducible refine (HAW.out Y).mono ?_); rintro e w1 ⟨rfl, hb⟩; have D1 := Lib.hid hb; obtain ⟨p0, p1⟩ := PC.out w1 hb; clear hb) | ((with_reducible refine (HFW.out w1 D1.out).mono ?_); rintro e w2 ⟨rfl, hb⟩; have D2 := Lib.hid (bel2 D1.out hb); clear p0 p1 hb; obtain ⟨p0, p1⟩ := PC.out w2 D2.out) | ((with_reducible refine (HRW.out w2 D2.out).mono ?_); rintro e w3 ⟨rfl, hb⟩; have D3 := Lib.hid (bel2 D2.out hb); clear p0 p1 hb; obtain ⟨p0, p1⟩ := PC.out w3 D3.out; have bn := BN.out w3 D3.out))
          refine (HAW.out _).mono ?_
          rintro e wz ⟨rfl, hz⟩
          go_wp2_with fail
          go_ret
          exact ⟨rfl, HB.out.trans ((bel2 D3.out hz).mono HB.out.size)⟩
        · have g2i : ¬ (60 : Int) < (b.nm.length : Int) := by omega
          by_cases g3 : 60 < s.length
          · have g3i : (60 : Int) < (s.length : Int) := by omega
            clear g2 g3
            go_enter Try.func8, Try.ntmps8
            go_upto_region 1 with (fail)
            rw [HY.out]
            go_wp2_with (first | ((with_reducible refine (HAW.out Y).mono ?_); rintro e w1 ⟨rfl, hb⟩; have D1 := Lib.hid hb; obtain ⟨p0, p1⟩ := PC.out w1 hb; clear hb) | ((with_reducible refine (HFW.out w1 D1.out).mono ?_); rintro e w2 ⟨rfl, hb⟩; have D2 := Lib.hid (bel2 D1.out hb); clear p0 p1 hb; obtain ⟨p0, p1⟩ := PC.out w2 D2.out) | ((with_reducible refine (HRW.out w2 D2.out).mono ?_); rintro e w3 ⟨rfl, hb⟩; have D3 := Lib.hid (bel2 D2.out hb); clear p0 p1 hb; obtain ⟨p0, p1⟩ := PC.out w3 D3.out; have bn := BN.out w3 D3.out))
            refine (HAW.out _).mono ?_
            rintro e wz ⟨rfl, hz⟩
            go_wp2_with fail
            go_ret
            exact ⟨rfl, HB.out.trans ((bel2 D3.out hz).mono HB.out.size)⟩
          · have g3i : ¬ (60 : Int) < (s.length : Int) := by omega
            have HVV := Lib.hid (show V ≤ 1000000 by omega)
            have HV0 := Lib.hid (show 0 ≤ V from HRP.out.low)
            have HBN := Lib.hid (show b.nm.length ≤ 60 by omega)
            have HSN := Lib.hid (show s.length ≤ 60 by omega)
            clear g2 g3
            go_enter Try.func8, Try.ntmps8
            go_upto_region 1 with (fail)
            rw [HY.out]
            go_upto_region 3 with (first | ((with_reducible refine (HAW.out Y).mono ?_); rintro e w1 ⟨rfl, hb⟩; have D1 := Lib.hid hb; obtain ⟨p0, p1⟩ := PC.out w1 hb; clear hb) | ((with_reducible refine (HFW.out w1 D1.out).mono ?_); rintro e w2 ⟨rfl, hb⟩; have D2 := Lib.hid (bel2 D1.out hb); clear p0 p1 hb; obtain ⟨p0, p1⟩ := PC.out w2 D2.out) | ((with_reducible refine (HRW.out w2 D2.out).mono ?_); rintro e w3 ⟨rfl, hb⟩; have D3 := Lib.hid (bel2 D2.out hb); clear p0 p1 hb; obtain ⟨p0, p1⟩ := PC.out w3 D3.out; have bn := BN.out w3 D3.out))
            clear bn g1 g2i g3i
            obtain ⟨L1, hL1⟩ : ∃ L, (opuL (opAdd b)).toArray = L := ⟨_, rfl⟩
            have B1 := Lib.hid (built_add b)
            rw [HLO.out, hL1] at B1
            obtain ⟨L2, hL2⟩ : ∃ L, (opuL (opNm 2 b.nm)).toArray = L := ⟨_, rfl⟩
            have B2 := Lib.hid (built_nm 2 b.nm)
            rw [hL2] at B2
            obtain ⟨L4, hL4⟩ : ∃ L, (opuL (opNm 4 s)).toArray = L := ⟨_, rfl⟩
            have B4 := Lib.hid (built_nm 4 s)
            rw [hL4] at B4
            obtain ⟨L5, hL5⟩ : ∃ L, (opuL (opNm 5 s)).toArray = L := ⟨_, rfl⟩
            have B5 := Lib.hid (built_nm 5 s)
            rw [hL5] at B5
            have HNL := Lib.hid (show len ≤ 40 from HN.out)
            have DA : Hid (∀ W, Below Y.heap.size Y W → Calls Try.prog 19 #[.agg #[.int .i64 ((⟨V, xs⟩ : Pl)).ver, .slice A len cap], .agg L1] W fun e w' => ∃ v, e = .returned (.tuple #[.agg #[.int .i64 (doP ⟨V, xs⟩ (opAdd b)).ver, v], .int .i64 ((opAdd b).err ⟨V, xs⟩)]) ∧ OwnG eB w' W.heap.size v (doP ⟨V, xs⟩ (opAdd b)).l ∧ Below W.heap.size W w') := Lib.hid (by
              intro W hW
              have h := HSS.out.do_ cap HCP.out HCM.out (p := (⟨V, xs⟩ : Pl)) HRP.out (Nat.le_trans HN.out (by decide)) (opAdd b) (Nat.zero_le _) HBN.out W (PS.out W hW) (PR.out W hW)
              unfold opuC at h
              rw [hL1] at h
              exact h)
            have DD : Hid (∀ W, Below Y.heap.size Y W → Calls Try.prog 19 #[.agg #[.int .i64 ((⟨V, xs⟩ : Pl)).ver, .slice A len cap], .agg L4] W fun e w' => ∃ v, e = .returned (.tuple #[.agg #[.int .i64 (doP ⟨V, xs⟩ (opNm 4 s)).ver, v], .int .i64 ((opNm 4 s).err ⟨V, xs⟩)]) ∧ OwnG eB w' W.heap.size v (doP ⟨V, xs⟩ (opNm 4 s)).l ∧ Below W.heap.size W w') := Lib.hid (by
              intro W hW
              have h := HSS.out.do_ cap HCP.out HCM.out (p := (⟨V, xs⟩ : Pl)) HRP.out (Nat.le_trans HN.out (by decide)) (opNm 4 s) HSN.out (Nat.zero_le _) W (PS.out W hW) (PR.out W hW)
              unfold opuC at h
              rw [hL4] at h
              exact h)
            have DB : Hid ((opAdd b).err ⟨V, xs⟩ = 0 → ∀ (A1 : Option Addr) (n1 c1 B1 : Nat) (_ : n1 ≤ c1) (_ : c1 ≤ maxLen) (W : World) (_ : B1 ≤ W.heap.size) (_ : RdG eB W B1 A1 n1 (doP ⟨V, xs⟩ (opAdd b)).l), Calls Try.prog 19 #[.agg #[.int .i64 (doP ⟨V, xs⟩ (opAdd b)).ver, .slice A1 n1 c1], .agg L2] W fun e w' => ∃ v, e = .returned (.tuple #[.agg #[.int .i64 (V + 2), v], .int .i64 0]) ∧ OwnG eB w' W.heap.size v xs ∧ Below W.heap.size W w') := Lib.hid (by
              intro he A1 n1 c1 B1 hc hm W hB hr
              have hq := back_add HRP.out HVV.out he
              have hn := do_few HRP.out (opAdd b) (Nat.le_trans (Nat.le_of_eq HLE.out) (Nat.le_trans HN.out (by decide)))
              have h := HSS.out.do_ c1 hc hm (do_right HRP.out (opAdd b)) (show n1 ≤ 100 by have := hr.len; omega) (opNm 2 b.nm) HBN.out (Nat.zero_le _) W hB hr
              unfold opuC at h
              rw [hq.1, hq.2, hL2] at h
              exact h)
            have DE : Hid ((opNm 4 s).err ⟨V, xs⟩ = 0 → ∀ (A1 : Option Addr) (n1 c1 B1 : Nat) (_ : n1 ≤ c1) (_ : c1 ≤ maxLen) (W : World) (_ : B1 ≤ W.heap.size) (_ : RdG eB W B1 A1 n1 (doP ⟨V, xs⟩ (opNm 4 s)).l), Calls Try.prog 19 #[.agg #[.int .i64 (doP ⟨V, xs⟩ (opNm 4 s)).ver, .slice A1 n1 c1], .agg L5] W fun e w' => ∃ v, e = .returned (.tuple #[.agg #[.int .i64 (V + 2), v], .int .i64 0]) ∧ OwnG eB w' W.heap.size v xs ∧ Below W.heap.size W w') := Lib.hid (by
              intro he A1 n1 c1 B1 hc hm W hB hr
              have hq := back_drain HRP.out HVV.out he
              have hn := do_few HRP.out (opNm 4 s) (Nat.le_trans (Nat.le_of_eq HLE.out) (Nat.le_trans HN.out (by decide)))
              have h := HSS.out.do_ c1 hc hm (do_right HRP.out (opNm 4 s)) (show n1 ≤ 100 by have := hr.len; omega) (opNm 5 s) HSN.out (Nat.zero_le _) W hB hr
              unfold opuC at h
              rw [hq.1, hq.2, hL5] at h
              exact h)
            clear hL1 hL2 hL4 hL5
            generalize hq1 : doP ⟨V, xs⟩ (opAdd b) = q1 at DA DB
            generalize hx1 : (opAdd b).err ⟨V, xs⟩ = e1 at DA DB
            have HSELF := Lib.hid (samePl_self ⟨V, xs⟩)
            have HNO4 := Lib.hid (show (opNm 4 s).err ⟨V, xs⟩ ≠ 0 → doP ⟨V, xs⟩ (opNm 4 s) = ⟨V, xs⟩ from fun h => do_no h)
            generalize hq4 : doP ⟨V, xs⟩ (opNm 4 s) = q4 at DD DE HNO4
            generalize hx4 : (opNm 4 s).err ⟨V, xs⟩ = e4 at DD DE HNO4
            clear hq1 hx1 hq4 hx4
            go_upto_region 4 with (first | ((with_reducible show wpList _ _ _ (⟨some 46, _, _, _, _, _⟩ :: _) _ _); refine wpList_loadBk (op := ⟨some 46, _, _, _, _, _⟩) _ rfl (by rfl) (w.heap.size + 1) 0 (by rfl) b (BX.out w3 D3.out) _ HLO.out ?_) | ((with_reducible show wpList _ _ _ (⟨some 47, _, _, _, _, _⟩ :: _) _ _); refine wpList_buildw (op := ⟨some 47, _, _, _, _, _⟩) 38 _ rfl (by rfl) [(0, .int .i64 1), (1, .agg LB)] (by kernel_rfl) L1 B1.out ?_) | ((with_reducible refine (DA.out w3 D3.out).mono ?_); rintro e w5 ⟨v5, rfl, ho5, hb5⟩; obtain ⟨A5, n5, c5, rfl, e5, q5, m5, r5, ow5⟩ := own_any ho5; have HE5 := Lib.hid e5; have HQ5 := Lib.hid q5; have HM5 := Lib.hid m5; have HR5 := Lib.hid r5; have D5 := Lib.hid (bel2 D3.out hb5); clear e5 q5 m5 r5 ho5 hb5 ow5) | ((with_reducible show wpList _ _ _ (⟨none, .store 24 (.tmp 7) _, _, _, _, _⟩ :: _) _ _); refine wpList_storeNewG rfl 24 (.tmp 7) _ rfl (by rfl) ([.int .i64 q1.ver, .slice A5 n5 c5]) (by rfl) (by simp) (poolSize) (by simp [Value.oneCell']) ?_; intro w6 hb hB hz; have HK6 := Lib.hid hb; have HBw6 := Lib.hid hB; clear hb hB hz))
            clear p0 p1
            have D6 := Lib.hid (bel2 D5.out HBw6.out)
            have L6 := Lib.hid (Blk_10.lt HK6.out)
            go_upto_if 52 with (fail)
            go_cut [] (fun wx => Below Y.heap.size Y wx)
            case first =>
              by_cases he1 : e1 = 0
              · subst he1
                obtain ⟨p0, p1⟩ := PC.out w6 D6.out
                have bn := BN.out w6 D6.out
                have u0 : w6.cell? ⟨w5.heap.size, 0, none⟩ = some (.int .i64 q1.ver) := Blk_10.cell HK6.out (i := 0) rfl
                have u1 : w6.cell? ⟨w5.heap.size, 1, none⟩ = some (.slice A5 n5 c5) := Blk_10.cell HK6.out (i := 1) rfl
                go_upto_region 6 with (first | ((with_reducible show wpList _ _ _ (⟨some 57, _, _, _, _, _⟩ :: _) _ _); refine wpList_buildw (op := ⟨some 57, _, _, _, _, _⟩) 38 _ rfl (by rfl) [(0, .int .i64 2), (2, .string ⟨b.nm.toArray⟩)] (by kernel_rfl) L2 B2.out ?_) | ((with_reducible refine (DB.out rfl A5 n5 c5 w5.heap.size HQ5.out HM5.out w6 HBw6.out.size (HR5.out.below HBw6.out)).mono ?_); rintro e w7 ⟨v7, rfl, ho7, hb7⟩; obtain ⟨A7, n7, c7, rfl, e7, q7, m7, r7, ow7⟩ := own_any ho7; have HE7 := Lib.hid e7; have HQ7 := Lib.hid q7; have HM7 := Lib.hid m7; have HR7 := Lib.hid r7; have D7 := Lib.hid (bel2 D6.out hb7); clear e7 q7 m7 r7 ho7 hb7 ow7) | ((with_reducible show wpList _ _ _ (⟨none, .store 24 (.tmp 9) _, _, _, _, _⟩ :: _) _ _); refine wpList_storeNewG rfl 24 (.tmp 9) _ rfl (by rfl) ([.int .i64 (V + 2), .slice A7 n7 c7]) (by rfl) (by simp) (poolSize) (by simp [Value.oneCell']) ?_; intro w8 hb hB hz; have HK8 := Lib.hid hb; have HBw8 := Lib.hid hB; clear hb hB hz))
                clear p0 p1 bn u0 u1
                have D8 := Lib.hid (bel2 D7.out HBw8.out)
                have L8 := Lib.hid (Blk_10.lt HK8.out)
                have v0 : w8.cell? ⟨w7.heap.size, 0, none⟩ = some (.int .i64 (V + 2)) := Blk_10.cell HK8.out (i := 0) rfl
                have hv1 := HVV.out
                have hv0 := HV0.out
                have hve : V + 2 - 2 = V := by omega
                have HD7 := Lib.hid D7.out.size
                go_upto_region 7 with (first | ((with_reducible show wpList _ _ _ (⟨none, .store 3 (.tmp 64) _, _, _, _, _⟩ :: _) _ _); refine wpList_storeB1 rfl 3 (.tmp 64) _ rfl w7.heap.size 0 (by rfl) (.int .i64 V) (by rfl) 24 _ HK8.out (by simp) (by kernel_rfl) rfl rfl ?_; intro w9 hb9 hg9; have HK9 : Hid (Blk w9 24 w7.heap.size [.int .i64 V, .slice A7 n7 c7]) := Lib.hid hb9; have HG9 := Lib.hid hg9; have D9 := Lib.hid (below_gb D8.out hg9 HD7.out D8.out.size); clear hb9 hg9))
                clear v0
                obtain ⟨p0, p1⟩ := PC.out w9 D9.out
                have z0 : w9.cell? ⟨w7.heap.size, 0, none⟩ = some (.int .i64 V) := Blk_10.cell HK9.out (i := 0) rfl
                have z1 : w9.cell? ⟨w7.heap.size, 1, none⟩ = some (.slice A7 n7 c7) := Blk_10.cell HK9.out (i := 1) rfl
                have HN7 := Lib.hid (show n7 ≤ 100 by have := HR7.out.len; have := HLE.out; have := HNL.out; omega)
                have HR79 := Lib.hid (((HR7.out.below HBw8.out).more HBw8.out.size).off HG9.out (Nat.le_refl _) HG9.out.size (fun h0 => by obtain ⟨bq, oq, e, hlt⟩ := HR7.out.addr h0; exact ⟨bq, oq, e, by omega⟩))
                have HSM := Lib.hid (HSS.out.same (p := ⟨V, xs⟩) (q := ⟨V, xs⟩) cap c7 HCP.out HCM.out HQ7.out HM7.out (Nat.le_trans HNL.out (by decide)) HN7.out w9 (Nat.le_refl _) ((PR.out w9 D9.out).more (PS.out w9 D9.out)) HR79.out)
                rw [HSELF.out] at HSM
                go_wp2_with (first | ((with_reducible refine HSM.out.mono ?_); rintro e wa ⟨rfl, hba⟩; have Da := Lib.hid (bel2 D9.out hba); clear hba))
                go_meet
                case rel => exact Da.out
              · have he2 : ((e1 : Int) == 0) = false := beq_eq_false_iff_ne.2 he1
                clear he1
                go_wp2_with fail
                go_meet
                case rel => exact D6.out
            case rest =>
              have D10 := Lib.hid hcut
              clear hcut
              obtain ⟨wq, hwq⟩ : ∃ z, z = wc := ⟨_, rfl⟩
              subst hwq
              obtain ⟨p0, p1⟩ := PC.out wq D10.out
              go_upto_region 10 with (first | ((with_reducible show wpList _ _ _ (⟨some 76, _, _, _, _, _⟩ :: _) _ _); refine wpList_buildw (op := ⟨some 76, _, _, _, _, _⟩) 38 _ rfl (by rfl) [(0, .int .i64 4), (2, .string ⟨s.toArray⟩)] (by kernel_rfl) L4 B4.out ?_) | ((with_reducible refine (DD.out wq D10.out).mono ?_); rintro e w11 ⟨v11, rfl, ho11, hb11⟩; obtain ⟨A11, n11, c11, rfl, e11, q11, m11, r11, ow11⟩ := own_any ho11; have HE11 := Lib.hid e11; have HQ11 := Lib.hid q11; have HM11 := Lib.hid m11; have HR11 := Lib.hid r11; have D11 := Lib.hid (bel2 D10.out hb11); clear e11 q11 m11 r11 ho11 hb11 ow11) | ((with_reducible show wpList _ _ _ (⟨none, .store 24 (.tmp 11) _, _, _, _, _⟩ :: _) _ _); refine wpList_storeNewG rfl 24 (.tmp 11) _ rfl (by rfl) ([.int .i64 q4.ver, .slice A11 n11 c11]) (by rfl) (by simp) (poolSize) (by simp [Value.oneCell']) ?_; intro w12 hb hB hz; have HK12 := Lib.hid hb; have HBw12 := Lib.hid hB; clear hb hB hz))
              clear p0 p1
              have D12 := Lib.hid (bel2 D11.out HBw12.out)
              have L12 := Lib.hid (Blk_10.lt HK12.out)
              obtain ⟨p0, p1⟩ := PC.out w12 D12.out
              have u0 : w12.cell? ⟨w11.heap.size, 0, none⟩ = some (.int .i64 q4.ver) := Blk_10.cell HK12.out (i := 0) rfl
              have u1 : w12.cell? ⟨w11.heap.size, 1, none⟩ = some (.slice A11 n11 c11) := Blk_10.cell HK12.out (i := 1) rfl
              by_cases he4 : e4 = 0
              · subst he4
                have hbe : ((0 : Int) != 0) = false := rfl
                go_upto_region 13 with (first | ((with_reducible show wpList _ _ _ (⟨some 88, _, _, _, _, _⟩ :: _) _ _); refine wpList_buildw (op := ⟨some 88, _, _, _, _, _⟩) 38 _ rfl (by rfl) [(0, .int .i64 5), (2, .string ⟨s.toArray⟩)] (by kernel_rfl) L5 B5.out ?_) | ((with_reducible refine (DE.out rfl A11 n11 c11 w11.heap.size HQ11.out HM11.out w12 HBw12.out.size (HR11.out.below HBw12.out)).mono ?_); rintro e w13 ⟨v13, rfl, ho13, hb13⟩; obtain ⟨A13, n13, c13, rfl, e13, q13, m13, r13, ow13⟩ := own_any ho13; have HE13 := Lib.hid e13; have HQ13 := Lib.hid q13; have HM13 := Lib.hid m13; have HR13 := Lib.hid r13; have D13 := Lib.hid (bel2 D12.out hb13); clear e13 q13 m13 r13 ho13 hb13 ow13) | ((with_reducible show wpList _ _ _ (⟨none, .store 24 (.tmp 13) _, _, _, _, _⟩ :: _) _ _); refine wpList_storeNewG rfl 24 (.tmp 13) _ rfl (by rfl) ([.int .i64 (V + 2), .slice A13 n13 c13]) (by rfl) (by simp) (poolSize) (by simp [Value.oneCell']) ?_; intro w14 hb hB hz; have HK14 := Lib.hid hb; have HBw14 := Lib.hid hB; clear hb hB hz))
                clear p0 p1 u0 u1
                have D14 := Lib.hid (bel2 D13.out HBw14.out)
                have v0 : w14.cell? ⟨w13.heap.size, 0, none⟩ = some (.int .i64 (V + 2)) := Blk_10.cell HK14.out (i := 0) rfl
                have hv1 := HVV.out
                have hv0 := HV0.out
                have hve : V + 2 - 2 = V := by omega
                have HD13 := Lib.hid D13.out.size
                go_upto_region 14 with (first | ((with_reducible show wpList _ _ _ (⟨none, .store 3 (.tmp 95) _, _, _, _, _⟩ :: _) _ _); refine wpList_storeB1 rfl 3 (.tmp 95) _ rfl w13.heap.size 0 (by rfl) (.int .i64 V) (by rfl) 24 _ HK14.out (by simp) (by kernel_rfl) rfl rfl ?_; intro w15 hb15 hg15; have HK15 : Hid (Blk w15 24 w13.heap.size [.int .i64 V, .slice A13 n13 c13]) := Lib.hid hb15; have HG15 := Lib.hid hg15; have D15 := Lib.hid (below_gb D14.out hg15 HD13.out D14.out.size); clear hb15 hg15))
                clear v0
                obtain ⟨p0, p1⟩ := PC.out w15 D15.out
                have z0 : w15.cell? ⟨w13.heap.size, 0, none⟩ = some (.int .i64 V) := Blk_10.cell HK15.out (i := 0) rfl
                have z1 : w15.cell? ⟨w13.heap.size, 1, none⟩ = some (.slice A13 n13 c13) := Blk_10.cell HK15.out (i := 1) rfl
                have HN13 := Lib.hid (show n13 ≤ 100 by have := HR13.out.len; have := HLE.out; have := HNL.out; omega)
                have HR135 := Lib.hid (((HR13.out.below HBw14.out).more HBw14.out.size).off HG15.out (Nat.le_refl _) HG15.out.size (fun h0 => by obtain ⟨bq, oq, e, hlt⟩ := HR13.out.addr h0; exact ⟨bq, oq, e, by omega⟩))
                have HSM := Lib.hid (HSS.out.same (p := ⟨V, xs⟩) (q := ⟨V, xs⟩) cap c13 HCP.out HCM.out HQ13.out HM13.out (Nat.le_trans HNL.out (by decide)) HN13.out w15 (Nat.le_refl _) ((PR.out w15 D15.out).more (PS.out w15 D15.out)) HR135.out)
                rw [HSELF.out] at HSM
                go_wp2_with (first | ((with_reducible refine HSM.out.mono ?_); rintro e wa ⟨rfl, hba⟩; have Da := Lib.hid (bel2 D15.out hba); clear hba))
                go_ret
                exact ⟨rfl, HB.out.trans (Da.out.mono HB.out.size)⟩
              · have he2 : ((e4 : Int) != 0) = true := by rw [bne, beq_eq_false_iff_ne.2 he4]; rfl
                obtain rfl := HNO4.out he4
                clear he4
                have HN11 := Lib.hid (show n11 ≤ 100 by have h11 : xs.length = n11 := HR11.out.len; have := HLE.out; have := HNL.out; omega)
                have HSM := Lib.hid (HSS.out.same (p := ⟨V, xs⟩) (q := ⟨V, xs⟩) c11 cap HQ11.out HM11.out HCP.out HCM.out HN11.out (Nat.le_trans HNL.out (by decide)) w12 (Nat.le_refl _) ((HR11.out.below HBw12.out).more HBw12.out.size) ((PR.out w12 D12.out).more (PS.out w12 D12.out)))
                rw [HSELF.out] at HSM
                go_wp2_with (first | ((with_reducible refine HSM.out.mono ?_); rintro e wa ⟨rfl, hba⟩; have Da := Lib.hid (bel2 D12.out hba); clear hba))
                go_ret
                exact ⟨rfl, HB.out.trans (Da.out.mono HB.out.size)⟩
    · have HRW : Hid (∀ W, Below Y.heap.size Y W → Calls Try.prog 15 #[.agg #[.int .i64 V, .slice A len cap]] W fun e w' => e = .returned (.bool false) ∧ Below W.heap.size W w') := Lib.hid (fun W h => (rright18_any cap (p := ⟨V, xs⟩) HLB.out (fun x hx => Nat.le_trans (HSH.out x hx) (by decide)) W (PS.out W h) (PR.out W h)).mono (fun e w' ⟨r, he, hr, hb⟩ => ⟨by rw [he]; congr 2; exact Bool.eq_false_iff.2 (fun h => hrp (hr.1 h)), hb⟩))
      clear hrp
      go_enter Try.func8, Try.ntmps8
      go_upto_region 1 with (fail)
      rw [HY.out]
      go_wp2_with (first | ((with_reducible refine (HAW.out Y).mono ?_); rintro e w1 ⟨rfl, hb⟩; have D1 := Lib.hid hb; obtain ⟨p0, p1⟩ := PC.out w1 hb; clear hb) | ((with_reducible refine (HFW.out w1 D1.out).mono ?_); rintro e w2 ⟨rfl, hb⟩; have D2 := Lib.hid (bel2 D1.out hb); clear p0 p1 hb; obtain ⟨p0, p1⟩ := PC.out w2 D2.out) | ((with_reducible refine (HRW.out w2 D2.out).mono ?_); rintro e w3 ⟨rfl, hb⟩; have D3 := Lib.hid (bel2 D2.out hb); clear p0 p1 hb; obtain ⟨p0, p1⟩ := PC.out w3 D3.out))
      refine (HAW.out _).mono ?_
      rintro e wz ⟨rfl, hz⟩
      go_wp2_with fail
      go_ret
      exact ⟨rfl, HB.out.trans ((bel2 D3.out hz).mono HB.out.size)⟩
end Go.Proofs.Ytajmppaodhpmgaa
