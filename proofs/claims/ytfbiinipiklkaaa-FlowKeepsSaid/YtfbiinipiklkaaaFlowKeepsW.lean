/-
  FlowKeeps: its walk, the program's contracts a premise.
-/
import Derived.Test.YtfbiinipiklkaaaFLLaw
import Derived.Test.YtfbiinipiklkaaaStEl
namespace Go.Proofs.Ytfbiinipiklkaaa
set_option maxRecDepth 100000
open Go.RowKit Go.Lib

set_option maxHeartbeats 32000000 in
theorem flowKeeps_walkW {Rep : RepF} (S : FlowC Rep) (key : List UInt8) (hk : key.length = 16) (A : Option Addr) (len cap : Nat) (xs : List Fw) (hc : len ≤ cap) (hm : cap ≤ maxLen) (hX : ∀ x, x ∈ xs → FwOk x) (w : World) (hI : RdG eF w w.heap.size A len xs) :
    Calls Try.prog 9 #[.agg (key.map v8).toArray, .slice A len cap] w fun e w' => e = .returned (.bool true) ∧ Below w.heap.size w w' := by
  have HS := Lib.hid S
  have HKL := Lib.hid hk
  have HLB := Lib.hid (show len ≤ 9223372036854775807 by unfold maxLen at hm; omega)
  have HL := Lib.hid hI.len
  obtain ⟨KK, hKK⟩ : ∃ O, (key.map v8).toArray = O := ⟨_, rfl⟩
  have HKK := Lib.hid hKK
  obtain ⟨Y, hY⟩ : ∃ Y, w.alloc (.cells KK 22) = Y := ⟨_, rfl⟩
  have KY : Blk Y 22 w.heap.size (key.map v8) := by rw [← hY, ← hKK]; exact Blk_10.new w _ (key.map v8)
  have hB0 : Below w.heap.size w Y := by rw [← hY]; exact (Below.refl w.heap.size w).alloc (Nat.le_refl _) _
  have PK : Hid (∀ W, Below Y.heap.size Y W → W.rangeAt w.heap.size 0 (key.map v8)) := Lib.hid (fun W h => Blk_10.range (Blk_10.below KY (Blk_10.lt KY) h))
  have HR := Lib.hid (hI.below hB0)
  have HB := Lib.hid hB0
  have PR : Hid (∀ W, Below Y.heap.size Y W → RdG eF W w.heap.size A len xs) := Lib.hid (fun W h => HR.out.below (h.mono HB.out.size))
  have HY := Lib.hid hY
  have HAW := Lib.hid (fun W => awake_any S W)
  have HNEW := Lib.hid (fun (r : Nat) (h1 : 1 ≤ r) (h2 : r ≤ 4096) (w0 : World) (B : Nat) (W : World) (hB : B ≤ w0.heap.size) (h : Below B w0 W) => tb_new S (w0 := w0) (B := B) (r := r) hk h1 h2 hB h)
  rw [hKK] at HNEW
  obtain ⟨F, hF⟩ : ∃ F, fewN (nmsF xs) = F := ⟨_, rfl⟩
  have HFE := Lib.hid hF
  have HFW : Hid (∀ W, Below Y.heap.size Y W → Calls Try.prog 29 #[.slice A len cap] W fun e w' => e = .returned (.bool F) ∧ w' = W) := Lib.hid (fun W h => by rw [← hF]; exact rfew21_any cap HLB.out W (PR.out W h))
  have HXO := Lib.hid hX
  rw [hKK]

  clear hY hF hI hX hk hm hB0 KY S
  cases F
  · skip
    go_enter Try.func9, Try.ntmps9
    go_upto_region 1 with (fail)
    rw [HY.out]
    go_wp2_with (first | ((with_reducible refine (HAW.out Y).mono ?_); rintro e w1 ⟨rfl, hb⟩; have D1 := Lib.hid hb; clear hb) | ((with_reducible refine (HFW.out w1 D1.out).mono ?_); rintro e wf ⟨rfl, hwf⟩; subst hwf))
    refine (HAW.out _).mono ?_
    rintro e wz ⟨rfl, hz⟩
    go_wp2_with fail
    go_ret
    exact ⟨rfl, HB.out.trans ((bel3 D1.out hz).mono HB.out.size)⟩
  · have hfw := (fewN_iff _).1 HFE.out
    have HN80 := Lib.hid (show len ≤ 80 by have h := hfw.1; rw [nmsF_len, HL.out] at h; exact h)
    have HIN := Lib.hid (fun x (h : x ∈ xs) => (HXO.out x h).inF (by have h9 := hfw.2 _ (List.mem_map_of_mem (f := Fw.nm) h); omega))
    clear hfw
    have NW : Hid (∀ W, Below Y.heap.size Y W → Calls Try.prog 11 #[.agg KK, .int .i64 80] W (NewGave Rep Y Y.heap.size 80 W)) := Lib.hid (fun W h => HNEW.out 80 (by decide) (by decide) Y Y.heap.size W (Nat.le_refl _) h)
    clear HNEW
    go_enter Try.func9, Try.ntmps9
    go_upto_region 1 with (fail)
    rw [HY.out]
    go_upto_region 7 with (first | ((with_reducible refine (HAW.out Y).mono ?_); rintro e w1 ⟨rfl, hb⟩; have D1 := Lib.hid hb; clear hb) | ((with_reducible refine (HFW.out w1 D1.out).mono ?_); rintro e wf ⟨rfl, hwf⟩; subst hwf) | ((with_reducible show wpList _ _ _ (⟨some 22, _, _, _, _, _⟩ :: _) _ _); refine wpList_loadKey (op := ⟨some 22, _, _, _, _, _⟩) _ rfl (by rfl) w.heap.size 0 (by rfl) key HKL.out (PK.out _ D1.out) KK HKK.out ?_) | ((with_reducible refine (NW.out wf D1.out).mono ?_); rintro e w2 ⟨g, fp2, rfl, hT, hb2, hl2⟩; have T2 := Lib.hid hT; have D2 := Lib.hid hT.bel; have HG := Lib.hid ((T2.out.below HS.out ((Below.refl w2.heap.size w2).alloc (Nat.le_refl _) (.cells #[] 28)))); clear hT hb2 hl2) | (at_builtin; refine wpList_appendG eF rfl _ _ rfl w2.heap.size _ [] (by rfl) (OwnG.empty eF w2 (Nat.le_refl _)) w.heap.size A len cap xs (by rfl) ((PR.out w2 D2.out).alloc (Nat.le_trans HB.out.size D2.out.size) _) (by have := HN80.out; simp; omega) (by rw [World.size_alloc]; omega) ?_; intro v6 w6 ho6 hg6 hv6; have HO6 := Lib.hid ho6; have T6 := Lib.hid (HG.out.grown HS.out hg6 D2.out.size (T2.out.new_off HS.out (Nat.le_refl _))); have HV6 := Lib.hid hv6; have HOFF : Hid (∀ k, w2.heap.size ≤ k → ¬ fp2 k) := Lib.hid (fun k hk => T2.out.new_off HS.out hk); clear ho6 hg6 hv6 T2 HG))
    rw [List.nil_append] at HO6
    have hX6 : OutS w6 fp2 w2.heap.size v6 xs := ⟨HO6.out, fun k hk => HOFF.out k (HO6.out.lt k hk)⟩
    obtain ⟨A7, n7, c7, rfl, hn7, g2, g3, g4, g5⟩ := HO6.out.sl
    have X6 := Lib.hid hX6
    have HN7 := Lib.hid (hn7.trans HL.out)
    clear hX6 hn7 g2 g3 g4 g5 HO6 HV6
    go_wp2_with fail
    go_loopw [8] (fun v8_ wr => ∃ (k : Nat) (fp : Nat → Prop) (m : List Fw), k ≤ n7 ∧ v8_ = .int .i64 (k : Int) ∧ Hid (Tb Rep Y Y.heap.size (.pointer (some ⟨g, 0, none⟩)) 80 m wr fp) ∧ Hid (OutS wr fp w2.heap.size (.slice A7 n7 c7) xs)) (fun v8_ _ => n7 - (RowKit.intOf v8_).toNat)
    case atStart => exact ⟨0, fp2, [], Nat.zero_le _, rfl, T6, X6⟩
    case round =>
      clear T6 X6 HOFF
      obtain ⟨k, fp, m, hk, rfl, TT, XX⟩ := hrel
      by_cases hlt : k < n7
      · have h1 : (k : Int) < (n7 : Int) := by omega
        have h0 : (0 : Int) ≤ (k : Int) := by omega
        have hk9 : k < 9223372036854775807 := by have := HN7.out; have := HN80.out; omega
        obtain ⟨x, hx⟩ : ∃ x, xs[k]? = some x := ⟨_, List.getElem?_eq_getElem (by rw [HL.out, ← HN7.out]; exact hlt)⟩
        obtain ⟨gx, cx, eX, _⟩ := XX.out.1.form (by rw [HL.out, ← HN7.out]; omega)
        have eA : A7 = some ⟨gx, 0, none⟩ := by cases eX; rfl
        subst eA
        clear eX
        have RX : Hid (wr.rangeAt gx (k * 41) (fwL x)) := Lib.hid (by have h := XX.out.1.rd.range hx; rw [Nat.zero_add] at h; exact h)
        have HIX := Lib.hid (HIN.out x (List.mem_of_getElem? hx))
        obtain ⟨O, hO⟩ : ∃ O, (fwL x).toArray = O := ⟨_, rfl⟩
        have HO := Lib.hid hO
        have HP : Hid (Calls Try.prog 19 #[.pointer (some ⟨g, 0, none⟩), .agg O] wr (MovGave Rep Y Y.heap.size (.pointer (some ⟨g, 0, none⟩)) 80 (putT 80 m x) wr fp (putV 80 m x))) := Lib.hid (by have h := TT.out.put HS.out HIX.out; rw [show fwC x = .agg O by rw [← hO]; rfl] at h; exact h)
        have HLT := Lib.hid hlt
        clear hx hO hlt hk
        go_wp2_with (first | ((with_reducible show wpList _ _ _ (⟨some 41, _, _, _, _, _⟩ :: _) _ _); refine wpList_loadFw (op := ⟨some 41, _, _, _, _, _⟩) _ rfl (by rfl) gx (k * 41) (by rfl) x RX.out O HO.out ?_) | ((with_reducible refine HP.out.mono ?_); rintro e w8 ⟨rfl, fp8, hT, hkp, hs⟩; have T8 := Lib.hid hT; have X8 := Lib.hid (XX.out.left hkp hs); clear hT hkp hs))
        go_roundw
        case rel => exact ⟨k + 1, fp8, _, HLT.out, by have := HLT.out; go_num, T8, X8⟩
        case measure =>
          have := HLT.out
          simp [RowKit.intOf]
          omega
      · obtain rfl : k = n7 := by omega
        have h1 : ¬ (k : Int) < (k : Int) := by omega
        clear hlt hk
        have HXR : Hid (∀ b, (Value.slice A7 k c7).ownBlock = some b → b < wr.heap.size) := Lib.hid (fun b hb => XX.out.1.ltS b hb)
        have HYR := Lib.hid TT.out.bel.size
        have HM80 := Lib.hid (show m.length ≤ 80 from TT.out.right.fits)
        go_upto_region 13 with (first | ((have hq := TT.out.list HS.out); (with_reducible refine hq.mono ?_); clear hq; rintro e wa ⟨Aa, na, ca, rfl, hna, hca, hma, ho, fpa, hT, hkp, hs, hd⟩; have Ta := Lib.hid hT; have Xa := Lib.hid (XX.out.left hkp hs); have La : Hid (OutS wa fpa wr.heap.size (.slice Aa na ca) m) := Lib.hid ⟨ho, hd⟩; have HNA := Lib.hid hna; clear hT hkp hs ho hd hna hca hma TT XX) | ((have hq := Ta.out.list HS.out); (with_reducible refine hq.mono ?_); clear hq; rintro e wb ⟨Ab, nb, cb, rfl, hnb, hcb, hmb, ho, fpb, hT, hkp, hs, hd⟩; have Tb_ := Lib.hid hT; have Xb := Lib.hid (Xa.out.left hkp hs); have Lb := Lib.hid (La.out.left hkp hs); have Mb : Hid (OutS wb fpb wa.heap.size (.slice Ab nb cb) m) := Lib.hid ⟨ho, hd⟩; have HNB := Lib.hid hnb; have HAP : Hid (∀ b, (Value.slice Aa na ca).ownBlock = some b → b < wa.heap.size) := Lib.hid (fun b hb => La.out.1.ltS b hb); have HXP : Hid (∀ b, (Value.slice A7 k c7).ownBlock = some b → b < wr.heap.size ∧ b < wa.heap.size) := Lib.hid (fun b hb => ⟨HXR.out b hb, Xa.out.1.ltS b hb⟩); clear hT hkp hs ho hd hnb hcb hmb Ta Xa La))
        go_wp2_with fail
        have THB : Hid (∀ gx, Aa = some ⟨gx, 0, none⟩ → wb.there gx 0 (na * 41)) := Lib.hid (fun gx e => by subst e; exact there_own Lb.out.1)
        have HOFA : Hid (∀ gx, Aa = some ⟨gx, 0, none⟩ → ¬ fpb gx ∧ wr.heap.size ≤ gx ∧ gx < wa.heap.size) := Lib.hid (fun gx e => by subst e; exact ⟨Lb.out.2 gx rfl, Lb.out.1.lt gx rfl, HAP.out gx rfl⟩)
        have HFA : Hid (0 < na → ∃ gx, Aa = some ⟨gx, 0, none⟩) := Lib.hid (fun h => by obtain ⟨gx, cx, eX, _⟩ := Lb.out.1.form (by rw [← HNA.out]; exact h); exact ⟨gx, by cases eX; rfl⟩)
        clear Lb
        go_loopw [11] (fun v11 wx => ∃ j : Nat, j ≤ na ∧ v11 = .int .i64 (j : Int) ∧ Hid (Tb Rep Y Y.heap.size (.pointer (some ⟨g, 0, none⟩)) 80 m wx fpb) ∧ Hid (OutS wx fpb w2.heap.size (.slice A7 k c7) xs) ∧ Hid (OutS wx fpb wa.heap.size (.slice Ab nb cb) m) ∧ Hid (∀ gx, Aa = some ⟨gx, 0, none⟩ → wx.there gx 0 (na * 41))) (fun v11 _ => na - (RowKit.intOf v11).toNat)
        case atStart => exact ⟨0, Nat.zero_le _, rfl, Tb_, Xb, Mb, THB⟩
        case round =>
          clear Tb_ Xb Mb THB
          obtain ⟨j, hj, rfl, TJ, XJ, MJ, HJ⟩ := hrel
          by_cases hlt : j < na
          · have h1 : (j : Int) < (na : Int) := by omega
            have h0 : (0 : Int) ≤ (j : Int) := by omega
            have hj9 : j < 9223372036854775807 := by have := HNA.out; have := HM80.out; omega
            obtain ⟨gx, rfl⟩ := HFA.out (by omega)
            have THJ := Lib.hid (HJ.out gx rfl)
            have HOG := Lib.hid (HOFA.out gx rfl)
            have HLTJ := Lib.hid hlt
            clear hlt hj
            go_wp2_with ((with_reducible show wpList _ _ _ (⟨none, .store _ _ _, _, _, _, _⟩ :: _) _ _); refine wpList_storeRowU eF rfl _ _ rfl gx (j * 41) (na * 41) (by rfl) fw0 _ zer_fw (by rfl) THJ.out (by show j * 41 + 41 ≤ na * 41; have := HLTJ.out; omega) ?_; intro w9 hth hg9; have TH9 := Lib.hid hth; have HG9 := Lib.hid hg9; clear hth hg9)
            go_roundw
            case rel => exact ⟨j + 1, HLTJ.out, by have := HLTJ.out; go_num, Lib.hid (TJ.out.grown HS.out HG9.out (Nat.le_trans HYR.out HOG.out.2.1) HOG.out.1), Lib.hid ⟨XJ.out.1.kept HG9.out (.inr (fun e => by have h8 := (HXP.out _ e).1; have h9 := HOG.out.2.1; omega)), XJ.out.2⟩, Lib.hid ⟨MJ.out.1.kept HG9.out (.inr (fun e => by have h8 := MJ.out.1.lt _ e; have h9 := HOG.out.2.2; omega)), MJ.out.2⟩, Lib.hid (fun gy e => by cases e; exact TH9.out)⟩
            case measure =>
              have := HLTJ.out
              simp [RowKit.intOf]
              omega
          · obtain rfl : j = na := by omega
            have h1 : ¬ (j : Int) < (j : Int) := by omega
            clear hlt hj
            go_wp2_with fail
            have THX : Hid (∀ gx, A7 = some ⟨gx, 0, none⟩ → wr.there gx 0 (k * 41)) := Lib.hid (fun gx e => by subst e; exact there_own XJ.out.1)
            have HOFX : Hid (∀ gx, A7 = some ⟨gx, 0, none⟩ → ¬ fpb gx ∧ w2.heap.size ≤ gx ∧ gx < wa.heap.size) := Lib.hid (fun gx e => by subst e; exact ⟨XJ.out.2 gx rfl, XJ.out.1.lt gx rfl, (HXP.out gx rfl).2⟩)
            have HFX : Hid (0 < k → ∃ gx, A7 = some ⟨gx, 0, none⟩) := Lib.hid (fun h => by obtain ⟨gx, cx, eX, _⟩ := XJ.out.1.form (by rw [HL.out, ← HN7.out]; exact h); exact ⟨gx, by cases eX; rfl⟩)
            clear XJ HJ
            go_loopw [12] (fun v12 wy => ∃ j : Nat, j ≤ k ∧ v12 = .int .i64 (j : Int) ∧ Hid (Tb Rep Y Y.heap.size (.pointer (some ⟨g, 0, none⟩)) 80 m wy fpb) ∧ Hid (OutS wy fpb wa.heap.size (.slice Ab nb cb) m) ∧ Hid (∀ gx, A7 = some ⟨gx, 0, none⟩ → wy.there gx 0 (k * 41))) (fun v12 _ => k - (RowKit.intOf v12).toNat)
            case atStart => exact ⟨0, Nat.zero_le _, rfl, TJ, MJ, THX⟩
            case round =>
              clear TJ MJ THX
              obtain ⟨j, hj, rfl, TJ, MJ, HJ⟩ := hrel
              by_cases hlt : j < k
              · have h1 : (j : Int) < (k : Int) := by omega
                have h0 : (0 : Int) ≤ (j : Int) := by omega
                have hj9 : j < 9223372036854775807 := by have := HN7.out; have := HN80.out; omega
                obtain ⟨gx, rfl⟩ := HFX.out (by omega)
                have THJ := Lib.hid (HJ.out gx rfl)
                have HOG := Lib.hid (HOFX.out gx rfl)
                have HLTJ := Lib.hid hlt
                clear hlt hj
                go_wp2_with ((with_reducible show wpList _ _ _ (⟨none, .store _ _ _, _, _, _, _⟩ :: _) _ _); refine wpList_storeRowU eF rfl _ _ rfl gx (j * 41) (k * 41) (by rfl) fw0 _ zer_fw (by rfl) THJ.out (by show j * 41 + 41 ≤ k * 41; have := HLTJ.out; omega) ?_; intro w9 hth hg9; have TH9 := Lib.hid hth; have HG9 := Lib.hid hg9; clear hth hg9)
                go_roundw
                case rel => exact ⟨j + 1, HLTJ.out, by have := HLTJ.out; go_num, Lib.hid (TJ.out.grown HS.out HG9.out (Nat.le_trans D2.out.size HOG.out.2.1) HOG.out.1), Lib.hid ⟨MJ.out.1.kept HG9.out (.inr (fun e => by have h8 := MJ.out.1.lt _ e; have h9 := HOG.out.2.2; omega)), MJ.out.2⟩, Lib.hid (fun gy e => by cases e; exact TH9.out)⟩
                case measure =>
                  have := HLTJ.out
                  simp [RowKit.intOf]
                  omega
              · obtain rfl : j = k := by omega
                have h1 : ¬ (j : Int) < (j : Int) := by omega
                clear hlt hj
                go_wp2_with (first | ((have hq := TJ.out.list HS.out); (with_reducible refine hq.mono ?_); clear hq; rintro e wc ⟨Ac, nc, cc, rfl, hnc, hcc, hmc, ho, fpc, hT, hkp, hs, hd⟩; have Tc := Lib.hid hT; have Mc := Lib.hid (MJ.out.left hkp hs); have Lc := Lib.hid ho; have HNC := Lib.hid hnc; have HSM : Hid (∀ W, W = wc → Calls Try.prog 23 #[.slice Ac nc cc, .slice Ab nb cb] W fun e w' => e = .returned (.bool true) ∧ Below W.heap.size W w') := Lib.hid (fun W e => by subst e; have h := rsame21_any (w := W) cc cb (by have := HM80.out; omega) (Nat.le_refl _) (Nat.le_refl _) Lc.out.rd Mc.out.1.rd; rw [sameF_iff.2 rfl] at h; exact h); clear hT hkp hs ho hd hnc hcc hmc TJ MJ) | ((with_reducible refine (HSM.out _ rfl).mono ?_); rintro e wd ⟨rfl, hbd⟩; have Td := Lib.hid (Tc.out.below HS.out hbd); clear hbd))
                go_ret
                exact ⟨rfl, HB.out.trans (Td.out.bel.mono HB.out.size)⟩
end Go.Proofs.Ytfbiinipiklkaaa
