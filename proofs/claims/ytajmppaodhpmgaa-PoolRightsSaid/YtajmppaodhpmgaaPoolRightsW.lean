/-
  PoolRights: its walk, the program's contracts a premise.
-/
import Derived.Test.YtajmppaodhpmgaaULaw
import Derived.Deep.DeepCutAuto
namespace Go.Proofs.Ytajmppaodhpmgaa
set_option maxRecDepth 100000
open Go.RowKit Go.Lib

set_option maxHeartbeats 16000000 in
theorem poolRights_walkW (S : PoolC) (s0 : ByteArray) (_hs : s0.size ≤ maxLen) (V : Int) (_hva : -9223372036854775808 ≤ V) (_hvb : V ≤ 9223372036854775807) (A : Option Addr) (len cap : Nat) (xs : List Bk) (hc : len ≤ cap) (hm : cap ≤ maxLen) (_hX : ∀ x, x ∈ xs → BkOk x) (Z : Int) (_hza : -9223372036854775808 ≤ Z) (_hzb : Z ≤ 9223372036854775807) (A2 : Option Addr) (len2 cap2 : Nat) (ys : List Bk) (hc2 : len2 ≤ cap2) (hm2 : cap2 ≤ maxLen) (_hX2 : ∀ x, x ∈ ys → BkOk x) (w : World) (hI : RdG eB w w.heap.size A len xs) (hI2 : RdG eB w w.heap.size A2 len2 ys) :
    Calls Try.prog 3 #[.string s0, .agg #[.int .i64 V, .slice A len cap], .agg #[.int .i64 Z, .slice A2 len2 cap2]] w fun e w' => e = .returned (.bool true) ∧ Below w.heap.size w w' := by
  obtain ⟨s, rfl⟩ : ∃ l : List UInt8, s0 = ⟨l.toArray⟩ := ⟨s0.data.toList, by rw [Array.toArray_toList]⟩
  have HSS := Lib.hid S
  have HLE := Lib.hid hI.len
  have HCP := Lib.hid hc
  have HCM := Lib.hid hm
  have HLB := Lib.hid (big_max hc hm)
  have HLE2 := Lib.hid hI2.len
  have HCP2 := Lib.hid hc2
  have HCM2 := Lib.hid hm2
  have HLB2 := Lib.hid (big_max hc2 hm2)
  obtain ⟨Y, hY, hT, hT2, hB⟩ := box_pl2 w #[.int .i64 V, .slice A len cap] #[.int .i64 Z, .slice A2 len2 cap2]
  have HT := Lib.hid hT
  have HT2 := Lib.hid hT2
  have HB := Lib.hid hB
  have HR := Lib.hid (hI.below hB)
  have HR2 := Lib.hid (hI2.below hB)
  have HY := Lib.hid hY
  have HLT := Lib.hid (Blk_10.lt hT)
  have HLT2 := Lib.hid (Blk_10.lt hT2)
  have PC : Hid (∀ W, Below Y.heap.size Y W → W.cell? ⟨w.heap.size, 0, none⟩ = some (.int .i64 V) ∧ W.cell? ⟨w.heap.size, 1, none⟩ = some (.slice A len cap)) := Lib.hid (fun W h => ⟨(h.cell (p := ⟨w.heap.size, 0, none⟩) HLT.out).trans (Blk_10.cell HT.out (i := 0) rfl), (h.cell (p := ⟨w.heap.size, 1, none⟩) HLT.out).trans (Blk_10.cell HT.out (i := 1) rfl)⟩)
  have QC : Hid (∀ W, Below Y.heap.size Y W → W.cell? ⟨w.heap.size + 1, 0, none⟩ = some (.int .i64 Z) ∧ W.cell? ⟨w.heap.size + 1, 1, none⟩ = some (.slice A2 len2 cap2)) := Lib.hid (fun W h => ⟨(h.cell (p := ⟨w.heap.size + 1, 0, none⟩) HLT2.out).trans (Blk_10.cell HT2.out (i := 0) rfl), (h.cell (p := ⟨w.heap.size + 1, 1, none⟩) HLT2.out).trans (Blk_10.cell HT2.out (i := 1) rfl)⟩)
  have PR : Hid (∀ W, Below Y.heap.size Y W → RdG eB W w.heap.size A len xs) := Lib.hid (fun W h => HR.out.below (h.mono HB.out.size))
  have QR : Hid (∀ W, Below Y.heap.size Y W → RdG eB W w.heap.size A2 len2 ys) := Lib.hid (fun W h => HR2.out.below (h.mono HB.out.size))
  have PS : Hid (∀ W : World, Below Y.heap.size Y W → w.heap.size ≤ W.heap.size) := Lib.hid (fun W h => Nat.le_trans HB.out.size h.size)
  have HAW := Lib.hid (fun W => awake_any S W)
  obtain ⟨F, hF⟩ : ∃ F, fewU xs = F := ⟨_, rfl⟩
  have HFE := Lib.hid hF
  obtain ⟨G, hG⟩ : ∃ F, fewU ys = F := ⟨_, rfl⟩
  have HGE := Lib.hid hG
  have HFW : Hid (∀ W, Below Y.heap.size Y W → Calls Try.prog 11 #[.agg #[.int .i64 V, .slice A len cap]] W fun e w' => e = .returned (.bool F) ∧ Below W.heap.size W w') := Lib.hid (by rw [← hF]; exact fun W h => rfewU_any cap HLB.out V W (PS.out W h) (PR.out W h))
  have HGW : Hid (∀ W, Below Y.heap.size Y W → Calls Try.prog 11 #[.agg #[.int .i64 Z, .slice A2 len2 cap2]] W fun e w' => e = .returned (.bool G) ∧ Below W.heap.size W w') := Lib.hid (by rw [← hG]; exact fun W h => rfewU_any cap2 HLB2.out Z W (PS.out W h) (QR.out W h))
  clear hF hG hc hm _hX hI hT hB hY S _hva _hvb hc2 hm2 _hX2 hI2 hT2 _hza _hzb _hs
  by_cases hg : 200 < s.length
  · have hgi : (200 : Int) < (s.length : Int) := by omega
    clear hg
    go_enter Try.func3, Try.ntmps3
    go_upto_region 1 with (fail)
    rw [HY.out]
    go_wp2_with (first | ((with_reducible refine (HAW.out Y).mono ?_); rintro e w1 ⟨rfl, hb⟩; have D1 := Lib.hid hb; obtain ⟨p0, p1⟩ := PC.out w1 hb; clear hb))
    refine (HAW.out _).mono ?_
    rintro e wz ⟨rfl, hz⟩
    go_wp2_with fail
    go_ret
    exact ⟨rfl, HB.out.trans ((bel2 D1.out hz).mono HB.out.size)⟩
  · have hgi : ¬ (200 : Int) < (s.length : Int) := by omega
    have HSL := Lib.hid (show s.length ≤ 1000 by omega)
    have HSL2 := Lib.hid (show s.length ≤ 1000000 by omega)
    clear hg
    cases F
    · skip
      go_enter Try.func3, Try.ntmps3
      go_upto_region 1 with (fail)
      rw [HY.out]
      go_wp2_with (first | ((with_reducible refine (HAW.out Y).mono ?_); rintro e w1 ⟨rfl, hb⟩; have D1 := Lib.hid hb; obtain ⟨p0, p1⟩ := PC.out w1 hb; clear hb) | ((with_reducible refine (HFW.out w1 D1.out).mono ?_); rintro e w2 ⟨rfl, hb⟩; have D2 := Lib.hid (bel2 D1.out hb); clear p0 p1 hb; obtain ⟨p0, p1⟩ := PC.out w2 D2.out))
      refine (HAW.out _).mono ?_
      rintro e wz ⟨rfl, hz⟩
      go_wp2_with fail
      go_ret
      exact ⟨rfl, HB.out.trans ((bel2 D2.out hz).mono HB.out.size)⟩
    · cases G
      · skip
        go_enter Try.func3, Try.ntmps3
        go_upto_region 1 with (fail)
        rw [HY.out]
        go_wp2_with (first | ((with_reducible refine (HAW.out Y).mono ?_); rintro e w1 ⟨rfl, hb⟩; have D1 := Lib.hid hb; obtain ⟨p0, p1⟩ := PC.out w1 hb; clear hb) | ((with_reducible refine (HFW.out w1 D1.out).mono ?_); rintro e w2 ⟨rfl, hb⟩; have D2 := Lib.hid (bel2 D1.out hb); clear p0 p1 hb; obtain ⟨p0, p1⟩ := PC.out w2 D2.out; obtain ⟨q0, q1⟩ := QC.out w2 D2.out) | ((with_reducible refine (HGW.out w2 D2.out).mono ?_); rintro e w3 ⟨rfl, hb⟩; have D3 := Lib.hid (bel2 D2.out hb); clear q0 q1 hb))
        refine (HAW.out _).mono ?_
        rintro e wz ⟨rfl, hz⟩
        go_wp2_with fail
        go_ret
        exact ⟨rfl, HB.out.trans ((bel2 D3.out hz).mono HB.out.size)⟩
      · skip
        go_enter Try.func3, Try.ntmps3
        go_upto_region 1 with (fail)
        rw [HY.out]
        have HN := Lib.hid (few_n HFE.out HLE.out)
        have HSH := Lib.hid (few_s HFE.out)
        have HN2 := Lib.hid (few_n HGE.out HLE2.out)
        obtain ⟨nb, hnb⟩ : ∃ n, nameB s = n := ⟨_, rfl⟩
        obtain ⟨sb, hsb⟩ : ∃ n, samePl ⟨V, xs⟩ ⟨Z, ys⟩ = n := ⟨_, rfl⟩
        have HNA := Lib.hid (fun W => HSS.out.name s HSL.out W)
        have HNB : Hid (∀ W : World, Calls Try.prog 13 #[.string ⟨s.toArray⟩] W fun e w' => e = .returned (.bool (nameB s)) ∧ Below W.heap.size W w') := Lib.hid (fun W => (rname_any s HSL2.out W).mono (fun e w' ⟨h, hw⟩ => ⟨h, by rw [hw]; exact Below.refl _ _⟩))
        rw [hnb] at HNA HNB
        have HRA : Hid (∀ W, Below Y.heap.size Y W → Calls Try.prog 14 #[.agg #[.int .i64 V, .slice A len cap]] W (RightGave W ⟨V, xs⟩)) := Lib.hid (fun W h => HSS.out.right (p := ⟨V, xs⟩) cap HCP.out HCM.out (Nat.le_trans HN.out (by decide)) HSH.out W (PS.out W h) (PR.out W h))
        have HRB : Hid (∀ W, Below Y.heap.size Y W → Calls Try.prog 15 #[.agg #[.int .i64 V, .slice A len cap]] W (RightGave W ⟨V, xs⟩)) := Lib.hid (fun W h => rright18_any cap (p := ⟨V, xs⟩) HLB.out (fun x hx => Nat.le_trans (HSH.out x hx) (by decide)) W (PS.out W h) (PR.out W h))
        have HSA : Hid (∀ W, Below Y.heap.size Y W → Calls Try.prog 16 #[.agg #[.int .i64 V, .slice A len cap], .agg #[.int .i64 Z, .slice A2 len2 cap2]] W fun e w' => e = .returned (.bool sb) ∧ Below W.heap.size W w') := Lib.hid (by rw [← hsb]; exact fun W h => HSS.out.same (p := ⟨V, xs⟩) (q := ⟨Z, ys⟩) cap cap2 HCP.out HCM.out HCP2.out HCM2.out (Nat.le_trans HN.out (by decide)) (Nat.le_trans HN2.out (by decide)) W (PS.out W h) (PR.out W h) (QR.out W h))
        have HSB : Hid (∀ W, Below Y.heap.size Y W → Calls Try.prog 17 #[.agg #[.int .i64 V, .slice A len cap], .agg #[.int .i64 Z, .slice A2 len2 cap2]] W fun e w' => e = .returned (.bool sb) ∧ Below W.heap.size W w') := Lib.hid (by rw [← hsb]; exact fun W h => rsame18_any (p := ⟨V, xs⟩) (q := ⟨Z, ys⟩) cap cap2 HLB.out HLB2.out W (PS.out W h) (PR.out W h) (QR.out W h))
        have HSC : Hid (∀ W, Below Y.heap.size Y W → Calls Try.prog 16 #[.agg #[.int .i64 V, .slice A len cap], .agg #[.int .i64 V, .slice A len cap]] W fun e w' => e = .returned (.bool true) ∧ Below W.heap.size W w') := Lib.hid (by rw [← samePl_self ⟨V, xs⟩]; exact fun W h => HSS.out.same (p := ⟨V, xs⟩) (q := ⟨V, xs⟩) cap cap HCP.out HCM.out HCP.out HCM.out (Nat.le_trans HN.out (by decide)) (Nat.le_trans HN.out (by decide)) W (PS.out W h) (PR.out W h) (PR.out W h))
        clear hnb hsb
        go_upto_region 3 with (first | ((with_reducible refine (HAW.out Y).mono ?_); rintro e w1 ⟨rfl, hb⟩; have D1 := Lib.hid hb; obtain ⟨p0, p1⟩ := PC.out w1 hb; clear hb) | ((with_reducible refine (HFW.out w1 D1.out).mono ?_); rintro e w2 ⟨rfl, hb⟩; have D2 := Lib.hid (bel2 D1.out hb); clear p0 p1 hb; obtain ⟨p0, p1⟩ := PC.out w2 D2.out; obtain ⟨q0, q1⟩ := QC.out w2 D2.out) | ((with_reducible refine (HGW.out w2 D2.out).mono ?_); rintro e w3 ⟨rfl, hb⟩; have D3 := Lib.hid (bel2 D2.out hb); clear q0 q1 hb))
        clear p0 p1
        refine wp_region_held_drew (S := fun W => Below Y.heap.size Y W) (by kernel_rfl) (D3.out.drew) (fun hHeld => ?_)
        refine tk 0 25 (.string ⟨s.toArray⟩) rfl hHeld ?_
        simp only [Act.put, sA, sZ, sS]
        refine tk 2 27 (.string ⟨s.toArray⟩) rfl hHeld ?_
        simp only [Act.put, sA, sZ, sS]
        refine wpAnyH_ready (rs := [1]) (by kernel_rfl) (by simp) (AllReadyH.cons (o := ⟨some 26, _, _, _, _, _⟩) rfl (fun K hK => ?_) AllReadyH.nil)
        go_simp
        refine (HNA.out _).mono ?_
        rintro e wx ⟨rfl, hbx⟩
        have HBX := Lib.hid (hHeld.trans (hbx.mono hHeld.size))
        refine hK.out _ _ (HBX.out) (fun hHeld => ?_)
        clear hK K hbx
        refine wpAnyH_ready (rs := [3]) (by kernel_rfl) (by simp) (AllReadyH.cons (o := ⟨some 28, _, _, _, _, _⟩) rfl (fun K hK => ?_) AllReadyH.nil)
        go_simp
        refine (HNB.out _).mono ?_
        rintro e wx ⟨rfl, hbx⟩
        have HBX := Lib.hid (hHeld.trans (hbx.mono hHeld.size))
        refine hK.out _ _ (HBX.out) (fun hHeld => ?_)
        clear hK K hbx
        refine tk 4 29 (.bool true) rfl hHeld ?_
        simp only [Act.put, sA, sZ, sS]
        refine tk 5 30 (.bool true) rfl hHeld ?_
        simp only [Act.put, sA, sZ, sS]
        refine tkY 6 31 (.agg #[.int .i64 V, .slice A len cap]) rfl (Or.inl ⟨by rfl, fun W hW => by obtain ⟨h1, h2⟩ := PC.out W hW; go_simp⟩) hHeld ?_
        simp only [Act.put, sA, sZ, sS]
        refine tkY 8 33 (.agg #[.int .i64 V, .slice A len cap]) rfl (Or.inl ⟨by rfl, fun W hW => by obtain ⟨h1, h2⟩ := PC.out W hW; go_simp⟩) hHeld ?_
        simp only [Act.put, sA, sZ, sS]
        refine wpAnyH_ready (rs := [7]) (by kernel_rfl) (by simp) (AllReadyH.cons (o := ⟨some 32, _, _, _, _, _⟩) rfl (fun K hK => ?_) AllReadyH.nil)
        go_simp
        refine (HRA.out _ hHeld).mono ?_
        rintro e wx ⟨ra, rfl, hra, hbx⟩
        have HBX := Lib.hid (hHeld.trans (hbx.mono hHeld.size))
        refine hK.out _ _ (HBX.out) (fun hHeld => ?_)
        clear hK K hbx
        refine wpAnyH_ready (rs := [9]) (by kernel_rfl) (by simp) (AllReadyH.cons (o := ⟨some 34, _, _, _, _, _⟩) rfl (fun K hK => ?_) AllReadyH.nil)
        go_simp
        refine (HRB.out _ hHeld).mono ?_
        rintro e wx ⟨rb, rfl, hrb, hbx⟩
        have HBX := Lib.hid (hHeld.trans (hbx.mono hHeld.size))
        refine hK.out _ _ (HBX.out) (fun hHeld => ?_)
        clear hK K hbx
        obtain rfl : ra = rb := Bool.eq_iff_iff.2 (hra.trans hrb.symm)
        clear hra hrb
        refine tk 10 35 (.bool true) rfl hHeld ?_
        simp only [Act.put, sA, sZ, sS]
        refine tk 11 36 (.bool true) rfl hHeld ?_
        simp only [Act.put, sA, sZ, sS]
        refine tk 12 37 (.bool true) rfl hHeld ?_
        simp only [Act.put, sA, sZ, sS]
        refine tkY 13 38 (.agg #[.int .i64 V, .slice A len cap]) rfl (Or.inl ⟨by rfl, fun W hW => by obtain ⟨h1, h2⟩ := PC.out W hW; go_simp⟩) hHeld ?_
        simp only [Act.put, sA, sZ, sS]
        refine tkY 14 39 (.agg #[.int .i64 Z, .slice A2 len2 cap2]) rfl (Or.inl ⟨by rfl, fun W hW => by obtain ⟨h1, h2⟩ := QC.out W hW; go_simp⟩) hHeld ?_
        simp only [Act.put, sA, sZ, sS]
        refine tkY 16 41 (.agg #[.int .i64 V, .slice A len cap]) rfl (Or.inl ⟨by rfl, fun W hW => by obtain ⟨h1, h2⟩ := PC.out W hW; go_simp⟩) hHeld ?_
        simp only [Act.put, sA, sZ, sS]
        refine tkY 17 42 (.agg #[.int .i64 Z, .slice A2 len2 cap2]) rfl (Or.inl ⟨by rfl, fun W hW => by obtain ⟨h1, h2⟩ := QC.out W hW; go_simp⟩) hHeld ?_
        simp only [Act.put, sA, sZ, sS]
        refine wpAnyH_ready (rs := [15]) (by kernel_rfl) (by simp) (AllReadyH.cons (o := ⟨some 40, _, _, _, _, _⟩) rfl (fun K hK => ?_) AllReadyH.nil)
        go_simp
        refine (HSA.out _ hHeld).mono ?_
        rintro e wx ⟨rfl, hbx⟩
        have HBX := Lib.hid (hHeld.trans (hbx.mono hHeld.size))
        refine hK.out _ _ (HBX.out) (fun hHeld => ?_)
        clear hK K hbx
        refine wpAnyH_ready (rs := [18]) (by kernel_rfl) (by simp) (AllReadyH.cons (o := ⟨some 43, _, _, _, _, _⟩) rfl (fun K hK => ?_) AllReadyH.nil)
        go_simp
        refine (HSB.out _ hHeld).mono ?_
        rintro e wx ⟨rfl, hbx⟩
        have HBX := Lib.hid (hHeld.trans (hbx.mono hHeld.size))
        refine hK.out _ _ (HBX.out) (fun hHeld => ?_)
        clear hK K hbx
        refine tk 19 44 (.bool true) rfl hHeld ?_
        simp only [Act.put, sA, sZ, sS]
        refine tk 20 45 (.bool true) rfl hHeld ?_
        simp only [Act.put, sA, sZ, sS]
        refine tk 21 46 (.bool true) rfl hHeld ?_
        simp only [Act.put, sA, sZ, sS]
        refine tkY 22 47 (.agg #[.int .i64 V, .slice A len cap]) rfl (Or.inl ⟨by rfl, fun W hW => by obtain ⟨h1, h2⟩ := PC.out W hW; go_simp⟩) hHeld ?_
        simp only [Act.put, sA, sZ, sS]
        refine tkY 23 48 (.agg #[.int .i64 V, .slice A len cap]) rfl (Or.inl ⟨by rfl, fun W hW => by obtain ⟨h1, h2⟩ := PC.out W hW; go_simp⟩) hHeld ?_
        simp only [Act.put, sA, sZ, sS]
        refine wpAnyH_ready (rs := [24]) (by kernel_rfl) (by simp) (AllReadyH.cons (o := ⟨some 49, _, _, _, _, _⟩) rfl (fun K hK => ?_) AllReadyH.nil)
        go_simp
        refine (HSC.out _ hHeld).mono ?_
        rintro e wx ⟨rfl, hbx⟩
        have HBX := Lib.hid (hHeld.trans (hbx.mono hHeld.size))
        refine hK.out _ _ (HBX.out) (fun hHeld => ?_)
        clear hK K hbx
        refine tk 25 50 (.bool true) rfl hHeld ?_
        simp only [Act.put, sA, sZ, sS]
        refine tk 26 6 (.bool true) rfl hHeld ?_
        simp only [Act.put, sA, sZ, sS]
        refine wpAnyH_done (by kernel_rfl) ?_ _
        go_wp2_with fail
        go_ret
        exact ⟨rfl, HB.out.trans (hHeld.mono HB.out.size)⟩
end Go.Proofs.Ytajmppaodhpmgaa
