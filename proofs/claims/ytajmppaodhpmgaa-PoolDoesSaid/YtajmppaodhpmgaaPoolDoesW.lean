/-
  PoolDoes: its walk, the program's contracts a premise.
-/
import Derived.Test.YtajmppaodhpmgaaULaw
import Derived.Deep.DeepCutAuto
namespace Go.Proofs.Ytajmppaodhpmgaa
set_option maxRecDepth 100000
open Go.RowKit Go.Lib

set_option maxHeartbeats 16000000 in
theorem poolDoes_walkW (S : PoolC) (V : Int) (_hva : -9223372036854775808 ≤ V) (_hvb : V ≤ 9223372036854775807) (A : Option Addr) (len cap : Nat) (xs : List Bk) (hc : len ≤ cap) (hm : cap ≤ maxLen) (_hX : ∀ x, x ∈ xs → BkOk x) (o : OpU) (_hO : OpOk o) (w : World) (hI : RdG eB w w.heap.size A len xs) :
    Calls Try.prog 4 #[.agg #[.int .i64 V, .slice A len cap], opuC o] w fun e w' => e = .returned (.bool true) ∧ Below w.heap.size w w' := by
  have HSS := Lib.hid S
  have HLE := Lib.hid hI.len
  have HCP := Lib.hid hc
  have HCM := Lib.hid hm
  have HLB := Lib.hid (big_max hc hm)
  unfold opuC
  obtain ⟨LO, hLO⟩ : ∃ L, (opuL o).toArray = L := ⟨_, rfl⟩
  rw [hLO]
  obtain ⟨Y, hY, hT, hXb, hB⟩ := box_po w #[.int .i64 V, .slice A len cap] (opuL o).toArray
  rw [hLO] at hY
  have HX := Lib.hid hXb
  have HLO := Lib.hid hLO
  have HLX := Lib.hid (Blk_10.lt hXb)
  clear hXb hLO
  have HT := Lib.hid hT
  have HB := Lib.hid hB
  have HR := Lib.hid (hI.below hB)
  have HY := Lib.hid hY
  have HLT := Lib.hid (Blk_10.lt hT)
  have PC : Hid (∀ W, Below Y.heap.size Y W → W.cell? ⟨w.heap.size, 0, none⟩ = some (.int .i64 V) ∧ W.cell? ⟨w.heap.size, 1, none⟩ = some (.slice A len cap)) := Lib.hid (fun W h => ⟨(h.cell (p := ⟨w.heap.size, 0, none⟩) HLT.out).trans (Blk_10.cell HT.out (i := 0) rfl), (h.cell (p := ⟨w.heap.size, 1, none⟩) HLT.out).trans (Blk_10.cell HT.out (i := 1) rfl)⟩)
  have PR : Hid (∀ W, Below Y.heap.size Y W → RdG eB W w.heap.size A len xs) := Lib.hid (fun W h => HR.out.below (h.mono HB.out.size))
  have PS : Hid (∀ W : World, Below Y.heap.size Y W → w.heap.size ≤ W.heap.size) := Lib.hid (fun W h => Nat.le_trans HB.out.size h.size)
  have OX : Hid (∀ W, Below Y.heap.size Y W → W.rangeAt (w.heap.size + 1) 0 (opuL o)) := Lib.hid (fun W h => Blk_10.range (Blk_10.below HX.out HLX.out h))
  have HAW := Lib.hid (fun W => awake_any S W)
  obtain ⟨F, hF⟩ : ∃ F, fewU xs = F := ⟨_, rfl⟩
  have HFE := Lib.hid hF
  have HFW : Hid (∀ W, Below Y.heap.size Y W → Calls Try.prog 11 #[.agg #[.int .i64 V, .slice A len cap]] W fun e w' => e = .returned (.bool F) ∧ Below W.heap.size W w') := Lib.hid (by rw [← hF]; exact fun W h => rfewU_any cap HLB.out V W (PS.out W h) (PR.out W h))
  clear hF hc hm _hX hI hT hB hY S
  clear _hO _hva _hvb
  cases F
  · skip
    go_enter Try.func4, Try.ntmps4
    go_upto_region 1 with (fail)
    rw [HY.out]
    go_wp2_with (first | ((with_reducible refine (HAW.out Y).mono ?_); rintro e w1 ⟨rfl, hb⟩; have D1 := Lib.hid hb; obtain ⟨p0, p1⟩ := PC.out w1 hb; clear hb) | ((with_reducible refine (HFW.out w1 D1.out).mono ?_); rintro e w2 ⟨rfl, hb⟩; have D2 := Lib.hid (bel2 D1.out hb); clear p0 p1 hb; obtain ⟨p0, p1⟩ := PC.out w2 D2.out))
    refine (HAW.out _).mono ?_
    rintro e wz ⟨rfl, hz⟩
    go_wp2_with fail
    go_ret
    exact ⟨rfl, HB.out.trans ((bel2 D2.out hz).mono HB.out.size)⟩
  · skip
    have HN := Lib.hid (few_n HFE.out HLE.out)
    have HSH := Lib.hid (few_s HFE.out)
    by_cases hrp : RightP ⟨V, xs⟩
    · have HRW : Hid (∀ W, Below Y.heap.size Y W → Calls Try.prog 15 #[.agg #[.int .i64 V, .slice A len cap]] W fun e w' => e = .returned (.bool true) ∧ Below W.heap.size W w') := Lib.hid (fun W h => (rright18_any cap (p := ⟨V, xs⟩) HLB.out (fun x hx => Nat.le_trans (HSH.out x hx) (by decide)) W (PS.out W h) (PR.out W h)).mono (fun e w' ⟨r, he, hr, hb⟩ => ⟨by rw [he]; congr 2; exact hr.2 hrp, hb⟩))
      have HRP := Lib.hid hrp
      obtain ⟨G, hG⟩ : ∃ G, fewO [o] = G := ⟨_, rfl⟩
      have HGE := Lib.hid hG
      clear hG hrp
      have HFO : Hid (∀ W : World, Calls Try.prog 18 #[.slice (some ⟨W.heap.size, 0, none⟩) 1 1] (W.alloc (.cells LO eO.T)) fun e w' => e = .returned (.bool G) ∧ w' = W.alloc (.cells LO eO.T)) := Lib.hid (fun W => by rw [← HGE.out]; exact rfewO_any 1 (by decide) _ (RdG.laid eO W [o] 1 rfl _ (by rw [← HLO.out]; simp [Enc.cells]; rfl)))
      cases G
      · skip
        go_enter Try.func4, Try.ntmps4
        go_upto_region 1 with (fail)
        rw [HY.out]
        go_wp2_with (first | ((with_reducible refine (HAW.out Y).mono ?_); rintro e w1 ⟨rfl, hb⟩; have D1 := Lib.hid hb; obtain ⟨p0, p1⟩ := PC.out w1 hb; clear hb) | ((with_reducible refine (HFW.out w1 D1.out).mono ?_); rintro e w2 ⟨rfl, hb⟩; have D2 := Lib.hid (bel2 D1.out hb); clear p0 p1 hb; obtain ⟨p0, p1⟩ := PC.out w2 D2.out) | ((with_reducible refine (HRW.out w2 D2.out).mono ?_); rintro e w3 ⟨rfl, hb⟩; have D3 := Lib.hid (bel2 D2.out hb); clear p0 p1 hb; obtain ⟨p0, p1⟩ := PC.out w3 D3.out) | ((with_reducible show wpList _ _ _ (⟨some 22, _, _, _, _, _⟩ :: _) _ _); refine wpList_loadOp (op := ⟨some 22, _, _, _, _, _⟩) _ rfl (by rfl) (w.heap.size + 1) 0 (by rfl) o (OX.out w3 D3.out) _ HLO.out ?_) | ((with_reducible show wpList _ _ _ (⟨some 23, _, _, _, _, _⟩ :: _) _ _); refine wpList_build1w (o := ⟨some 23, _, _, _, _, _⟩) eO (by decide) o (by rfl) 22 rfl _ HLO.out (by rfl) ?_) | ((with_reducible refine (HFO.out w3).mono ?_); rintro e w4 ⟨rfl, hb⟩; have D4 := Lib.hid (show Below Y.heap.size Y w4 by rw [hb]; exact D3.out.alloc D3.out.size _); clear p0 p1 hb; obtain ⟨p0, p1⟩ := PC.out w4 D4.out))
        refine (HAW.out _).mono ?_
        rintro e wz ⟨rfl, hz⟩
        go_wp2_with fail
        go_ret
        exact ⟨rfl, HB.out.trans ((bel2 D4.out hz).mono HB.out.size)⟩
      · have HS := Lib.hid (few_op HGE.out)
        go_enter Try.func4, Try.ntmps4
        go_upto_region 1 with (fail)
        rw [HY.out]
        go_upto_region 3 with (first | ((with_reducible refine (HAW.out Y).mono ?_); rintro e w1 ⟨rfl, hb⟩; have D1 := Lib.hid hb; obtain ⟨p0, p1⟩ := PC.out w1 hb; clear hb) | ((with_reducible refine (HFW.out w1 D1.out).mono ?_); rintro e w2 ⟨rfl, hb⟩; have D2 := Lib.hid (bel2 D1.out hb); clear p0 p1 hb; obtain ⟨p0, p1⟩ := PC.out w2 D2.out) | ((with_reducible refine (HRW.out w2 D2.out).mono ?_); rintro e w3 ⟨rfl, hb⟩; have D3 := Lib.hid (bel2 D2.out hb); clear p0 p1 hb; obtain ⟨p0, p1⟩ := PC.out w3 D3.out) | ((with_reducible show wpList _ _ _ (⟨some 22, _, _, _, _, _⟩ :: _) _ _); refine wpList_loadOp (op := ⟨some 22, _, _, _, _, _⟩) _ rfl (by rfl) (w.heap.size + 1) 0 (by rfl) o (OX.out w3 D3.out) _ HLO.out ?_) | ((with_reducible show wpList _ _ _ (⟨some 23, _, _, _, _, _⟩ :: _) _ _); refine wpList_build1w (o := ⟨some 23, _, _, _, _, _⟩) eO (by decide) o (by rfl) 22 rfl _ HLO.out (by rfl) ?_) | ((with_reducible refine (HFO.out w3).mono ?_); rintro e w4 ⟨rfl, hb⟩; have D4 := Lib.hid (show Below Y.heap.size Y w4 by rw [hb]; exact D3.out.alloc D3.out.size _); clear p0 p1 hb; obtain ⟨p0, p1⟩ := PC.out w4 D4.out))
        have HQR := Lib.hid (do_right HRP.out o)
        have HQN := Lib.hid (do_few HRP.out o (Nat.le_trans (Nat.le_of_eq HLE.out) (Nat.le_trans HN.out (by decide))))
        have HDO : Hid (∀ W, Below Y.heap.size Y W → Calls Try.prog 19 #[.agg #[.int .i64 V, .slice A len cap], .agg LO] W fun e w' => ∃ v, e = .returned (.tuple #[.agg #[.int .i64 (doP ⟨V, xs⟩ o).ver, v], .int .i64 (o.err ⟨V, xs⟩)]) ∧ OwnG eB w' W.heap.size v (doP ⟨V, xs⟩ o).l ∧ Below W.heap.size W w') := Lib.hid (fun W h => by have := HSS.out.do_ cap HCP.out HCM.out HRP.out (Nat.le_trans HN.out (by decide)) o HS.out.1 HS.out.2 W (PS.out W h) (PR.out W h); unfold opuC at this; rw [HLO.out] at this; exact this)
        have HDR : Hid (∀ W, Below Y.heap.size Y W → Calls Try.prog 20 #[.agg #[.int .i64 V, .slice A len cap], .agg LO] W (DoGave w.heap.size W ⟨V, xs⟩ o)) := Lib.hid (fun W h => by have := rdo_any cap HRP.out o (Nat.le_trans HS.out.2 (by decide)) W (PS.out W h) (PR.out W h); unfold opuC at this; rw [HLO.out] at this; exact this)
        unfold DoGave at HDR
        generalize doP ⟨V, xs⟩ o = q at HQR HQN HDO HDR
        generalize o.err ⟨V, xs⟩ = er at HDO HDR
        have hee : ((er : Int) == er) = true := by simp
        go_upto_region 4 with (first | ((with_reducible show wpList _ _ _ (⟨some 30, _, _, _, _, _⟩ :: _) _ _); refine wpList_loadOp (op := ⟨some 30, _, _, _, _, _⟩) _ rfl (by rfl) (w.heap.size + 1) 0 (by rfl) o (OX.out w4 D4.out) _ HLO.out ?_) | ((with_reducible refine (HDO.out w4 D4.out).mono ?_); rintro e w5 ⟨v5, rfl, ho5, hb5⟩; obtain ⟨A5, n5, c5, rfl, e5, q5, m5, r5, _⟩ := own_any ho5; have HE5 := Lib.hid e5; have HQ5 := Lib.hid q5; have HM5 := Lib.hid m5; have HR5 := Lib.hid r5; have D5 := Lib.hid (bel2 D4.out hb5); clear e5 q5 m5 r5 ho5 hb5 p0 p1) | ((with_reducible show wpList _ _ _ (⟨none, .store 24 (.tmp 5) _, _, _, _, _⟩ :: _) _ _); refine wpList_storeNewG rfl 24 (.tmp 5) _ rfl (by rfl) ([.int .i64 q.ver, .slice A5 n5 c5]) (by rfl) (by simp) (poolSize) (by simp [Value.oneCell']) ?_; intro w6 hb hB hz; have HK6 := Lib.hid hb; have HBw6 := Lib.hid hB; clear hb hB hz))
        have D6 := Lib.hid (bel2 D5.out HBw6.out)
        obtain ⟨p0, p1⟩ := PC.out w6 D6.out
        have L6 := Lib.hid (Blk_10.lt HK6.out)
        go_upto_region 5 with (first | ((with_reducible show wpList _ _ _ (⟨some 36, _, _, _, _, _⟩ :: _) _ _); refine wpList_loadOp (op := ⟨some 36, _, _, _, _, _⟩) _ rfl (by rfl) (w.heap.size + 1) 0 (by rfl) o (OX.out w6 D6.out) _ HLO.out ?_) | ((with_reducible refine (HDR.out w6 D6.out).mono ?_); rintro e w7 ⟨A7, n7, c7, rfl, r7, _, hb7⟩; have HR7 := Lib.hid r7; have HB67 := Lib.hid hb7; clear r7 hb7 p0 p1) | ((with_reducible show wpList _ _ _ (⟨none, .store 24 (.tmp 7) _, _, _, _, _⟩ :: _) _ _); refine wpList_storeNewG rfl 24 (.tmp 7) _ rfl (by rfl) ([.int .i64 q.ver, .slice A7 n7 c7]) (by rfl) (by simp) (poolSize) (by simp [Value.oneCell']) ?_; intro w8 hb hB hz; have HK8 := Lib.hid hb; have HBw8 := Lib.hid hB; clear hb hB hz))
        have B68 := Lib.hid (bel2 HB67.out HBw8.out)
        have L8 := Lib.hid (Blk_10.lt HK8.out)
        have u0 : w8.cell? ⟨w5.heap.size, 0, none⟩ = some (.int .i64 q.ver) := (B68.out.cell (p := ⟨w5.heap.size, 0, none⟩) L6.out).trans (Blk_10.cell HK6.out (i := 0) rfl)
        have u1 : w8.cell? ⟨w5.heap.size, 1, none⟩ = some (.slice A5 n5 c5) := (B68.out.cell (p := ⟨w5.heap.size, 1, none⟩) L6.out).trans (Blk_10.cell HK6.out (i := 1) rfl)
        have z0 : w8.cell? ⟨w7.heap.size, 0, none⟩ = some (.int .i64 q.ver) := Blk_10.cell HK8.out (i := 0) rfl
        have z1 : w8.cell? ⟨w7.heap.size, 1, none⟩ = some (.slice A7 n7 c7) := Blk_10.cell HK8.out (i := 1) rfl
        have HN5 := Lib.hid (show n5 ≤ 100 by have := HQN.out; have := HE5.out; omega)
        have HN7 := Lib.hid (show n7 ≤ 100 by have := HQN.out; have := HR7.out.len; omega)
        have HR58 := Lib.hid ((HR5.out.below (bel2 HBw6.out B68.out)).more (Nat.le_trans HBw6.out.size B68.out.size))
        have HR78 := Lib.hid ((HR7.out.below HBw8.out).more HBw8.out.size)
        have HSM := Lib.hid (rsame18_any (p := q) (q := q) c5 c7 (Nat.le_trans HN5.out (by decide)) (Nat.le_trans HN7.out (by decide)) w8 (Nat.le_refl _) HR58.out HR78.out)
        rw [samePl_self] at HSM
        have D8 := Lib.hid (bel2 D6.out B68.out)
        go_wp2_with (first | ((with_reducible refine HSM.out.mono ?_); rintro e w9 ⟨rfl, hb9⟩; have HB9 := Lib.hid hb9; clear u0 u1 z0 z1; have u0 : w9.cell? ⟨w5.heap.size, 0, none⟩ = some (.int .i64 q.ver) := ((bel2 B68.out hb9).cell (p := ⟨w5.heap.size, 0, none⟩) L6.out).trans (Blk_10.cell HK6.out (i := 0) rfl); have u1 : w9.cell? ⟨w5.heap.size, 1, none⟩ = some (.slice A5 n5 c5) := ((bel2 B68.out hb9).cell (p := ⟨w5.heap.size, 1, none⟩) L6.out).trans (Blk_10.cell HK6.out (i := 1) rfl); have HRG := Lib.hid (HSS.out.right (p := q) c5 HQ5.out HM5.out HN5.out (fun x hx => Nat.le_trans (right_name HQR.out hx) (by decide)) w9 (Nat.le_refl _) ((HR58.out.below hb9).more hb9.size)); clear hb9) | ((with_reducible refine HRG.out.mono ?_); rintro e wa ⟨rr, rfl, hrr, hba⟩; obtain rfl : rr = true := hrr.2 HQR.out; clear hrr; have HBa := Lib.hid hba; clear hba))
        go_ret
        exact ⟨rfl, HB.out.trans ((bel2 D8.out (bel2 HB9.out HBa.out)).mono HB.out.size)⟩
    · have HRW : Hid (∀ W, Below Y.heap.size Y W → Calls Try.prog 15 #[.agg #[.int .i64 V, .slice A len cap]] W fun e w' => e = .returned (.bool false) ∧ Below W.heap.size W w') := Lib.hid (fun W h => (rright18_any cap (p := ⟨V, xs⟩) HLB.out (fun x hx => Nat.le_trans (HSH.out x hx) (by decide)) W (PS.out W h) (PR.out W h)).mono (fun e w' ⟨r, he, hr, hb⟩ => ⟨by rw [he]; congr 2; exact Bool.eq_false_iff.2 (fun h => hrp (hr.1 h)), hb⟩))
      clear hrp
      go_enter Try.func4, Try.ntmps4
      go_upto_region 1 with (fail)
      rw [HY.out]
      go_wp2_with (first | ((with_reducible refine (HAW.out Y).mono ?_); rintro e w1 ⟨rfl, hb⟩; have D1 := Lib.hid hb; obtain ⟨p0, p1⟩ := PC.out w1 hb; clear hb) | ((with_reducible refine (HFW.out w1 D1.out).mono ?_); rintro e w2 ⟨rfl, hb⟩; have D2 := Lib.hid (bel2 D1.out hb); clear p0 p1 hb; obtain ⟨p0, p1⟩ := PC.out w2 D2.out) | ((with_reducible refine (HRW.out w2 D2.out).mono ?_); rintro e w3 ⟨rfl, hb⟩; have D3 := Lib.hid (bel2 D2.out hb); clear p0 p1 hb; obtain ⟨p0, p1⟩ := PC.out w3 D3.out))
      refine (HAW.out _).mono ?_
      rintro e wz ⟨rfl, hz⟩
      go_wp2_with fail
      go_ret
      exact ⟨rfl, HB.out.trans ((bel2 D3.out hz).mono HB.out.size)⟩
end Go.Proofs.Ytajmppaodhpmgaa
