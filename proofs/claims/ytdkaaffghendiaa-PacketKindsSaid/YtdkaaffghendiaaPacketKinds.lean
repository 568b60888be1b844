/-
  PROVED HERE: 'PacketKindsSaid': whatever tuple t, flags f, bytes load and numbers kind, proto and turn are, the Go function PacketKinds of package wayleavelaw11 returns true, and its arguments read behind the call as they read before. No condition.
-/
import Derived.Test.YtdkaaffghendiaaKKinds
namespace Go.Proofs.Ytdkaaffghendiaa
set_option maxRecDepth 100000
open Go.RowKit Go.Lib Go.ChangeShapes Go.WideShapes Go.ChangeAt

theorem Own8.rdN' {w : World} {base n c : Nat} {A : Option Addr} {xs : List UInt8} (h : Own8 w base (.slice A n c) xs) (hn : xs.length = n) : n ≤ c ∧ c ≤ maxLen ∧ Rd w w.heap.size A n xs := by
  obtain ⟨A', c', e, h1, h2, h3⟩ := h.formN hn
  cases e
  exact ⟨h1, h2, h3⟩
/-- A tuple of addresses of IPv4. -/
def fourT (t : Tu) : Tu := ⟨⟨false, t.s.b⟩, ⟨false, t.d.b⟩, t.pr, t.sp, t.dp⟩
theorem fourT_ok {t : Tu} (h : t.Ok) : (fourT t).Ok := ⟨h.s, h.d⟩
theorem tu_set0 (t : Tu) : (tuL t).set 0 (.bool false) = tuL ⟨⟨false, t.s.b⟩, t.d, t.pr, t.sp, t.dp⟩ := rfl
theorem tu_get17 {t : Tu} (h : t.Ok) : (tuL t)[17]? = some (.bool t.d.six) := by
  unfold tuL
  rw [List.getElem?_append_right (by rw [adL_len h.s]; omega), adL_len h.s]
  rfl
theorem tu_set17 {t : Tu} (h : t.Ok) : (tuL ⟨⟨false, t.s.b⟩, t.d, t.pr, t.sp, t.dp⟩).set 17 (.bool false) = tuL (fourT t) := by
  obtain ⟨⟨s6, sb⟩, ⟨d6, db⟩, pr, sp, dp⟩ := t
  obtain ⟨a0, a1, a2, a3, a4, a5, a6, a7, a8, a9, a10, a11, a12, a13, a14, a15, rfl⟩ := sixteen h.s
  obtain ⟨b0, b1, b2, b3, b4, b5, b6, b7, b8, b9, b10, b11, b12, b13, b14, b15, rfl⟩ := sixteen h.d
  rfl
theorem field_kind (p : Pk) (W : World) : (Instr.field 30 (pkC p) 0).run Try.prog W = .ok (.int .i64 p.kind) W := by
  obtain ⟨k, ⟨⟨s6, sb⟩, ⟨d6, db⟩, pr, sp, dp⟩, fl, net, sg, en⟩ := p
  unfold pkC pkL
  rfl
set_option maxHeartbeats 16000000 in
theorem packetKinds_walk (t : Tu) (ho : t.Ok) (f : Int) (_hf1 : -9223372036854775808 ≤ f) (_hf2 : f ≤ 9223372036854775807) (B : Option Addr) (len cb : Nat) (xs : List UInt8) (hcb : len ≤ cb) (hmb : cb ≤ maxLen) (kn : Nat) (hkn : kn < 65536) (pn : Nat) (hpn : pn < 256) (tn : Nat) (htn : tn < 256) (w : World) (hI : Rd w w.heap.size B len xs) :
    Calls Try.prog 7 #[tuC t, .int .i64 f, .slice B len cb, .int .u16 (kn : Int), .int .u8 (pn : Int), .int .u8 (tn : Int)] w fun e w' => e = .returned (.bool true) ∧ Below w.heap.size w w' := by
  have hml : len ≤ 9223372036854775807 := by unfold maxLen at hmb; omega
  obtain ⟨Y, hY⟩ : ∃ Y : World, w.alloc (.cells (tuL t).toArray 28) = Y := ⟨_, rfl⟩
  have HT := Lib.hid (show Blk Y 28 w.heap.size (tuL t) by rw [← hY]; exact Blk_10.new w _ _)
  have HB := Lib.hid (show Below w.heap.size w Y by rw [← hY]; exact (Below.refl w.heap.size w).alloc (Nat.le_refl _) _)
  have HO := Lib.hid ho
  have HRB := Lib.hid (fun W (hB : Below w.heap.size w W) => (hI.below hB).more hB.size)
  have HLEN := Lib.hid hI.len
  have hS0 := Lib.hid (tu_set0 t)
  have hS17 := Lib.hid (tu_set17 ho)
  have G0 := Lib.hid (show (tuL t)[0]? = some (.bool t.s.six) from rfl)
  have G17 := Lib.hid (tu_get17 (t := ⟨⟨false, t.s.b⟩, t.d, t.pr, t.sp, t.dp⟩) ⟨ho.s, ho.d⟩)
  obtain ⟨T, hTe⟩ : ∃ T, fourT t = T := ⟨_, rfl⟩
  have HTO := Lib.hid (show T.Ok from hTe ▸ fourT_ok ho)
  have HT6 := Lib.hid (show T.s.six = false by rw [← hTe]; rfl)
  rw [hTe] at hS17
  unfold tuC
  obtain ⟨C0, hC0⟩ : ∃ C, (tuL t).toArray = C := ⟨_, rfl⟩
  obtain ⟨C1, hC1⟩ : ∃ C, (tuL T).toArray = C := ⟨_, rfl⟩
  rw [hC0] at hY ⊢
  have E1 := Lib.hid (show tuC T = .agg C1 by rw [← hC1]; rfl)
  have HC1 := Lib.hid hC1
  have EQ := Lib.hid hY
  clear hI ho hY hC1 hC0 hTe
  go_enter Try.func7, Try.ntmps7
  go_wp2_with (first
    | ((with_reducible show wpList _ _ _ (⟨none, .store 4 (.tmp 20) _, _, _, _, _⟩ :: _) _ _); rw [EQ.out]; refine wpList_storeB rfl (.tmp 20) _ rfl w.heap.size 0 (by rfl) false (by rfl) 28 _ HT.out t.s.six G0.out ?_; intro wa hqa hna hba; rw [hS0.out] at hqa; have HTa := Lib.hid (show Blk wa 28 w.heap.size _ from hqa); have HBa := Lib.hid (HB.out.trans (hba.mono (Nat.le_refl _))); clear hqa hna hba)
    | ((with_reducible show wpList _ _ _ (⟨none, .store 4 (.tmp 22) _, _, _, _, _⟩ :: _) _ _); refine wpList_storeB rfl (.tmp 22) _ rfl w.heap.size 17 (by rfl) false (by rfl) 28 _ HTa.out t.d.six G17.out ?_; intro wb hqb hnb hbb; rw [hS17.out] at hqb; have HTb := Lib.hid (show Blk wb 28 w.heap.size (tuL T) from hqb); have HBb := Lib.hid (HBa.out.trans (hbb.mono (Nat.le_refl _))); clear hqb hnb hbb))
  refine (awake_any _).mono ?_
  rintro e w1 ⟨rfl, hb1⟩
  have HB1 := Lib.hid (HBb.out.trans (hb1.mono HBb.out.size))
  have HT1 := Lib.hid (HTb.out.below HTb.out.lt hb1)
  clear hb1
  by_cases hbig : 300 < len
  · have hl' : (300 : Int) < (len : Int) := by omega
    have hlb : decide ((300 : Int) < (len : Int)) = true := decide_eq_true hl'
    clear hbig
    go_wp2_with fail
    refine (awake_any _).mono ?_
    rintro e w2 ⟨rfl, hb2⟩
    go_wp2_with fail
    go_ret
    exact ⟨rfl, HB1.out.trans (hb2.mono HB1.out.size)⟩
  · have hl' : ¬ (300 : Int) < (len : Int) := by omega
    have hlb : decide ((300 : Int) < (len : Int)) = false := decide_eq_false hl'
    have hl1 : len ≤ 300 := by omega
    have HMK := Lib.hid (fun W (hB : Below w.heap.size w W) => pmake_any zero_six (A := none) (n := 0) (cap := 0) (by omega) HTO.out f (B := B) (len := len) (cb := cb) (load := xs) (by omega) W (TagsAt.nil_ none) (HRB.out W hB))
    rw [E1.out] at HMK
    unfold MakeGave at HMK
    rw [HLEN.out] at HMK
    clear hbig
    go_wp2_with (first
      | ((with_reducible show wpList _ _ _ (⟨some 32, _, _, _, _, _⟩ :: _) _ _); refine wpList_buildw (op := ⟨some 32, _, _, _, _, _⟩) 36 _ rfl (by rfl) _ (by kernel_rfl) (lkL Lk.zero (.slice none 0 0)).toArray built_lk0 ?_)
      | ((with_reducible show wpList _ _ _ (⟨some 33, _, _, _, _, _⟩ :: _) _ _); refine wpList_loadM 28 _ rfl (by rfl) w.heap.size 0 (by rfl) (tuL T) (Blk_10.range HT1.out) _ Try.underlying28 rfl (sizeTuL HTO.out) ?_; rw [HC1.out]))
    clear hl' hlb
    refine (HMK.out _ HB1.out).mono ?_
    rintro e w2 ⟨hno, hyes, hb2⟩
    have HB2 := Lib.hid (HB1.out.trans (hb2.mono HB1.out.size))
    clear hb2
    by_cases h0 : whyN Lk.zero T f len = 0
    · obtain ⟨hok, hsz⟩ := why_zero h0
      obtain ⟨v, rfl, hov⟩ := hyes h0
      have hmkl := makeK_len zero_six HTO.out f xs
      rw [HLEN.out] at hmkl
      have hih : ihN T = 20 := by unfold ihN; rw [HT6.out]; rfl
      rw [hih] at hsz hmkl
      have hfrm := make_frm (load := xs) hok HT6.out
      have hfl : (fillK T f xs).length = shN_ T + xs.length := fillK_len
      rw [HLEN.out] at hfrm hfl
      have hp256 : T.pr.toNat < 256 := by have := hok.pr; omega
      obtain ⟨nn, hnn⟩ : ∃ k, shN_ T + len = k := ⟨_, rfl⟩
      rw [hnn] at hfrm hfl hsz hmkl
      have hnb : nn ≤ 400 := by rw [← hnn]; unfold shN_; split <;> omega
      obtain ⟨ML, hML⟩ : ∃ k, 14 + 4 * Lk.zero.ts.length + (20 + nn) = k := ⟨_, rfl⟩
      have hM34 : 34 ≤ ML := by rw [← hML]; show 34 ≤ 14 + 4 * 0 + (20 + nn); omega
      have hM5 : ML ≤ 500 := by rw [← hML]; show 14 + 4 * 0 + (20 + nn) ≤ 500; omega
      rw [hML] at hmkl
      obtain ⟨M, hM⟩ : ∃ M, makeK Lk.zero T f xs = M := ⟨_, rfl⟩
      rw [hM] at hmkl hfrm hov
      have HL := Lib.hid hmkl
      have H20 := Lib.hid (show M[20]? = some 64 by rw [hfrm]; exact (frm_20 _ _).1)
      have H22 := Lib.hid (show M[22]? = some 64 by rw [hfrm]; exact (frm_20 _ _).2)
      have RA := Lib.hid (fun (h1 : kn ≠ 2048) (h2 : kn ≠ 34525) (h3 : kn ≠ 33024) (h4 : kn ≠ 34984) => show readK ((M.set 12 (UInt8.ofNat (kn / 256))).set 13 (UInt8.ofNat (kn % 256))) = kindK 2 by rw [hfrm]; exact read_alien hkn h1 h2 h3 h4 _)
      have RC := Lib.hid (fun (h1 : pn ≠ 6) (h2 : pn ≠ 17) => show readK (mendL (M.set 23 (UInt8.ofNat pn))) = kindK 5 by rw [hfrm, frm_proto HTO.out]; exact frm_alien HTO.out hok HT6.out hsz hpn h1 h2 hfl)
      have RF := Lib.hid (show readK (mendL (M.set 20 96)) = kindK 4 by rw [hfrm, frm_frag HTO.out]; exact frm_more HTO.out hok HT6.out hsz hp256 hfl)
      have RG := Lib.hid (show readK (M.set 22 (UInt8.ofNat (64 ^^^ (tn ||| 1)))) = kindK 3 by rw [hfrm]; exact frm_spoilt HTO.out htn _)
      obtain ⟨A2, c2, rfl, hc2, hm2, hr2⟩ := hov.formN HL.out
      have HR2 := Lib.hid hr2
      have HX := Lib.hid (xor_not tn htn)
      obtain ⟨T1, hT1⟩ : ∃ k, tn ||| 1 = k := ⟨_, rfl⟩
      have hT1l : T1 < 256 := by rw [← hT1]; exact Nat.or_lt_two_pow (n := 8) htn (by decide)
      have hor1 : bits .or .u8 (tn : Int) 1 = (T1 : Int) := by rw [← hT1]; exact u8_or_nat tn 1 htn (by decide)
      rw [hT1] at RG HX
      obtain ⟨YY, hYY⟩ : ∃ k, 64 ^^^ T1 = k := ⟨_, rfl⟩
      have hxr1 : bits .xor .u8 64 (T1 : Int) = (YY : Int) := by rw [← hYY]; exact u8_xor_nat 64 T1 (by decide) hT1l
      rw [hYY] at RG HX
      have HYB := Lib.hid (show (YY : Int) = ((UInt8.ofNat YY).toNat : Int) by rw [UInt8.toNat_ofNat', Nat.mod_eq_of_lt HX.out.2])
      have HPB := Lib.hid (show (pn : Int) = ((UInt8.ofNat pn).toNat : Int) by rw [UInt8.toNat_ofNat', Nat.mod_eq_of_lt hpn])
      have hor2 : bits .or .u8 64 32 = 96 := u8_or_nat 64 32 (by decide) (by decide)
      have HHI := Lib.hid (show ((kn : Int) / 256) = ((UInt8.ofNat (kn / 256)).toNat : Int) by rw [UInt8.toNat_ofNat']; omega)
      have HLO := Lib.hid (show ((kn : Int) % 256) = ((UInt8.ofNat (kn % 256)).toNat : Int) by rw [UInt8.toNat_ofNat']; omega)
      have v1 : IntKind.u8.wrap ((kn : Int) / 256) = (kn : Int) / 256 := by rw [IntKind.wrap_u8]; omega
      have v2 : IntKind.u8.wrap (kn : Int) = (kn : Int) % 256 := by rw [IntKind.wrap_u8]
      have b12 : 12 < ML := by omega
      have b13 : 13 < ML := by omega
      have b20 : 20 < ML := by omega
      have b22 : 22 < ML := by omega
      have b23 : 23 < ML := by omega
      have HL1 := Lib.hid (show (M.set 12 (UInt8.ofNat (kn / 256))).length = ML by rw [List.length_set]; exact HL.out)
      have HLA := Lib.hid (show ((M.set 12 (UInt8.ofNat (kn / 256))).set 13 (UInt8.ofNat (kn % 256))).length = ML by rw [List.length_set]; exact HL1.out)
      have HLC := Lib.hid (show (M.set 23 (UInt8.ofNat pn)).length = ML by rw [List.length_set]; exact HL.out)
      have HLC2 := Lib.hid (show (mendL (M.set 23 (UInt8.ofNat pn))).length = ML by rw [mendL_len]; exact HLC.out)
      have HLD := Lib.hid (show (M.set 20 96).length = ML by rw [List.length_set]; exact HL.out)
      have HLD2 := Lib.hid (show (mendL (M.set 20 96)).length = ML by rw [mendL_len]; exact HLD.out)
      have HLG := Lib.hid (show (M.set 22 (UInt8.ofNat YY)).length = ML by rw [List.length_set]; exact HL.out)
      have LA := Lib.hid (show ([] : List UInt8).length + ML ≤ 2000000000 by simp; omega)
      have HE2 := Lib.hid (empty8 (base := w2.heap.size) w2 (Nat.le_refl _))
      have F2 := Lib.hid (fun W => field_kind (kindK 2) W)
      have hMLb : ML ≤ 9223372036854775807 := by omega
      clear hno hyes hov hr2 h0 hok hsz hmkl hih hfrm hfl hp256 hnn hnb hML hM hT1 hT1l hYY F2
      by_cases k0 : kn = 2048
      · have k0a : ((kn : Int) != 2048) = false := by simp; omega
        have k0b : (kn != 2048) = false := by simp; omega
        clear k0
        by_cases p6 : pn = 6
        · have p6a : ((pn : Int) != 6) = false := by simp; omega
          have p6b : (pn != 6) = false := by simp; omega
          clear p6
          go_wp2_with (first
            | ((with_reducible show wpList _ _ _ (⟨some 46, _, _, _, _, _⟩ :: _) _ _); refine wpList_append8 (o := ⟨some 46, _, _, _, _, _⟩) rfl _ _ rfl w2.heap.size _ [] (by rfl) HE2.out _ A2 ML c2 M (by rfl) (HR2.out.alloc (Nat.le_refl _) _) LA.out (by simp) ?_; intro vA wp hoA hgA hqA; clear hqA; rw [List.nil_append] at hoA; have eA : Below w2.heap.size w2 wp := ((Below.refl _ w2).alloc (Nat.le_refl _) (.cells #[] 5)).grown hgA (by simp) HE2.out.lt; obtain ⟨ga, ca, rfl, _, _, hgbA, hglA, _⟩ := hoA.formG HL.out (by omega); have HOA := Lib.hid hoA; have EA := Lib.hid eA; have GBA := Lib.hid hgbA; have GLA := Lib.hid hglA; have HBA := Lib.hid (HB2.out.trans (eA.mono HB2.out.size)); have HRA := Lib.hid ((HR2.out.below eA).more eA.size); clear hoA hgA eA hgbA hglA)
            | ((with_reducible show wpList _ _ _ (⟨none, .store 5 (.tmp 51) _, _, _, _, _⟩ :: _) _ _); refine wpList_storeOG rfl (.tmp 51) _ rfl ga 12 (by rfl) (UInt8.ofNat (kn / 256)) ((kn : Int) / 256) HHI.out (by rfl) M ML ca w2.heap.size HL.out HOA.out (by omega) ?_; intro wq hs hgs; have HOQ := Lib.hid hs; have EQ1 := Lib.hid (EA.out.trans (gb_to_below hgs GBA.out EA.out.size)); clear hs hgs)
            | ((with_reducible show wpList _ _ _ (⟨none, .store 5 (.tmp 55) _, _, _, _, _⟩ :: _) _ _); refine wpList_storeOG rfl (.tmp 55) _ rfl ga 13 (by rfl) (UInt8.ofNat (kn % 256)) ((kn : Int) % 256) HLO.out (by rfl) (M.set 12 (UInt8.ofNat (kn / 256))) ML ca w2.heap.size HL1.out HOQ.out (by omega) ?_; intro wr hs hgs; have HOR := Lib.hid hs; have ER := Lib.hid (EQ1.out.trans (gb_to_below hgs GBA.out EQ1.out.size)); have HBR := Lib.hid (HB2.out.trans (ER.out.mono HB2.out.size)); have HRR := Lib.hid ((HR2.out.below ER.out).more ER.out.size); have HER := Lib.hid (empty8 (base := wr.heap.size) wr (Nat.le_refl _)); clear hs hgs)
            | ((with_reducible show wpList _ _ _ (⟨some 78, _, _, _, _, _⟩ :: _) _ _); refine wpList_append8 (o := ⟨some 78, _, _, _, _, _⟩) rfl _ _ rfl wr.heap.size _ [] (by rfl) HER.out _ A2 ML c2 M (by rfl) (HRR.out.alloc (Nat.le_refl _) _) LA.out (by simp) ?_; intro vC wc hoC hgC hqC; clear hqC; rw [List.nil_append] at hoC; have eC : Below wr.heap.size wr wc := ((Below.refl _ wr).alloc (Nat.le_refl _) (.cells #[] 5)).grown hgC (by simp) HER.out.lt; obtain ⟨gc, cc, rfl, _, _, hgbC, hglC, _⟩ := hoC.formG HL.out (by omega); have HOC := Lib.hid hoC; have EC := Lib.hid eC; have GBC := Lib.hid hgbC; have GLC := Lib.hid hglC; have HBC := Lib.hid (HBR.out.trans (eC.mono HBR.out.size)); have HRC := Lib.hid ((HRR.out.below eC).more eC.size); clear hoC hgC eC hgbC hglC)
            | ((with_reducible show wpList _ _ _ (⟨none, .store 5 (.tmp 81) _, _, _, _, _⟩ :: _) _ _); refine wpList_storeOG rfl (.tmp 81) _ rfl gc 23 (by rfl) (UInt8.ofNat pn) (pn : Int) HPB.out (by rfl) M ML cc wr.heap.size HL.out HOC.out (by omega) ?_; intro wm hs hgs; have HOM := Lib.hid hs; have EM := Lib.hid (EC.out.trans (gb_to_below hgs GBC.out EC.out.size)); have HBM := Lib.hid (HBR.out.trans (EM.out.mono HBR.out.size)); have HRM := Lib.hid ((HRR.out.below EM.out).more EM.out.size); have HEM := Lib.hid (empty8 (base := wm.heap.size) wm (Nat.le_refl _)); clear hs hgs)
            | ((with_reducible show wpList _ _ _ (⟨some 97, _, _, _, _, _⟩ :: _) _ _); refine wpList_append8 (o := ⟨some 97, _, _, _, _, _⟩) rfl _ _ rfl wm.heap.size _ [] (by rfl) HEM.out _ A2 ML c2 M (by rfl) (HRM.out.alloc (Nat.le_refl _) _) LA.out (by simp) ?_; intro vD wd hoD hgD hqD; clear hqD; rw [List.nil_append] at hoD; have eD : Below wm.heap.size wm wd := ((Below.refl _ wm).alloc (Nat.le_refl _) (.cells #[] 5)).grown hgD (by simp) HEM.out.lt; obtain ⟨gd, cd, rfl, _, _, hgbD, hglD, _⟩ := hoD.formG HL.out (by omega); have HOD := Lib.hid hoD; have ED := Lib.hid eD; have GBD := Lib.hid hgbD; have GLD := Lib.hid hglD; have HBD := Lib.hid (HBM.out.trans (eD.mono HBM.out.size)); have HRD := Lib.hid ((HRM.out.below eD).more eD.size); have kd : wd.cell? ⟨gd, 20, none⟩ = some (.int .u8 64) := HOD.out.byte H20.out; clear hoD hgD eD hgbD hglD)
            | ((with_reducible show wpList _ _ _ (⟨none, .store 5 (.tmp 103) _, _, _, _, _⟩ :: _) _ _); refine wpList_storeOG rfl (.tmp 103) _ rfl gd 20 (by rfl) (96 : UInt8) 96 (by rfl) (by rfl) M ML cd wm.heap.size HL.out HOD.out (by omega) ?_; intro we hs hgs; have HOE := Lib.hid hs; have EE := Lib.hid (ED.out.trans (gb_to_below hgs GBD.out ED.out.size)); have HBE := Lib.hid (HBM.out.trans (EE.out.mono HBM.out.size)); have HRE := Lib.hid ((HRM.out.below EE.out).more EE.out.size); have HEE := Lib.hid (empty8 (base := we.heap.size) we (Nat.le_refl _)); have GDE := Lib.hid (show gd < we.heap.size from Nat.lt_of_lt_of_le GLD.out hgs.size); clear kd; clear hs hgs)
            | ((with_reducible show wpList _ _ _ (⟨some 106, _, _, _, _, _⟩ :: _) _ _); refine wpList_append8 (o := ⟨some 106, _, _, _, _, _⟩) rfl _ _ rfl we.heap.size _ [] (by rfl) HEE.out _ A2 ML c2 M (by rfl) (HRE.out.alloc (Nat.le_refl _) _) LA.out (by simp) ?_; intro vG wg hoG hgG hqG; clear hqG; rw [List.nil_append] at hoG; have eG : Below we.heap.size we wg := ((Below.refl _ we).alloc (Nat.le_refl _) (.cells #[] 5)).grown hgG (by simp) HEE.out.lt; obtain ⟨gg, cg, rfl, _, _, hgbG, hglG, _⟩ := hoG.formG HL.out (by omega); have HOG := Lib.hid hoG; have EG := Lib.hid eG; have GBG := Lib.hid hgbG; have GLG := Lib.hid hglG; have HBG := Lib.hid (HBE.out.trans (eG.mono HBE.out.size)); have HRG := Lib.hid ((HRE.out.below eG).more eG.size); have kg : wg.cell? ⟨gg, 22, none⟩ = some (.int .u8 64) := HOG.out.byte H22.out; have HOE2 := Lib.hid (HOE.out.below EG.out); clear hoG hgG eG hgbG hglG)
            | ((with_reducible show wpList _ _ _ (⟨none, .store 5 (.tmp 114) _, _, _, _, _⟩ :: _) _ _); refine wpList_storeOG rfl (.tmp 114) _ rfl gg 22 (by rfl) (UInt8.ofNat YY) (YY : Int) HYB.out (by rfl) M ML cg we.heap.size HL.out HOG.out (by omega) ?_; intro wh hs hgs; have HOH := Lib.hid hs; have HOE3 := Lib.hid (HOE2.out.kept hgs (.inr (fun e => Nat.not_le_of_lt (World.ownsRow.lt HOE.out gg e).2 GBG.out))); have HBH := Lib.hid (HBG.out.trans (gb_to_below hgs (Nat.le_trans HBE.out.size GBG.out) HBG.out.size)); clear kg; clear hs hgs))
          refine (mend_any HOE3.out HLD.out hM34 (by omega)).mono ?_
          rintro e wi ⟨rfl, hom, hgm⟩
          have HOH2 := Lib.hid (own_kept HOH.out hgm GDE.out)
          have HBI := Lib.hid (HBH.out.grown hgm HBH.out.size (fun k hk => by cases hk; exact Nat.le_trans HBM.out.size GBD.out))
          obtain ⟨hcd, hmd, hrm⟩ := hom.rdN' HLD2.out
          have RR := Lib.hid (pread_as RF.out (by omega) hcd hmd hrm)
          clear hom hgm hrm
          go_wp2_with fail
          refine RR.out.mono ?_
          rintro e wj ⟨rfl, hbj⟩
          have HBJ := Lib.hid (HBI.out.trans (hbj.mono HBI.out.size))
          obtain ⟨hcg, hmg, hrg⟩ := (HOH2.out.below hbj).rdN' HLG.out
          have RR2 := Lib.hid (pread_as RG.out (by omega) hcg hmg hrg)
          clear hbj hrg
          have f4 := fun W => field_kind (kindK 4) W
          have f3 := fun W => field_kind (kindK 3) W
          change ∀ W : World, (Instr.field 30 (pkC (kindK 4)) 0).run Try.prog W = .ok (.int .i64 4) W at f4
          change ∀ W : World, (Instr.field 30 (pkC (kindK 3)) 0).run Try.prog W = .ok (.int .i64 3) W at f3
          go_wp2_with fail
          refine RR2.out.mono ?_
          rintro e wk ⟨rfl, hbk⟩
          go_wp2_with fail
          go_ret
          exact ⟨rfl, HBJ.out.trans (hbk.mono HBJ.out.size)⟩
        · by_cases p17 : pn = 17
          · have p6a : ((pn : Int) != 6) = true := by simp; omega
            have p6b : (pn != 6) = true := by simp; omega
            have p17a : ((pn : Int) != 17) = false := by simp; omega
            have p17b : (pn != 17) = false := by simp; omega
            clear p6 p17
            go_wp2_with (first
              | ((with_reducible show wpList _ _ _ (⟨some 46, _, _, _, _, _⟩ :: _) _ _); refine wpList_append8 (o := ⟨some 46, _, _, _, _, _⟩) rfl _ _ rfl w2.heap.size _ [] (by rfl) HE2.out _ A2 ML c2 M (by rfl) (HR2.out.alloc (Nat.le_refl _) _) LA.out (by simp) ?_; intro vA wp hoA hgA hqA; clear hqA; rw [List.nil_append] at hoA; have eA : Below w2.heap.size w2 wp := ((Below.refl _ w2).alloc (Nat.le_refl _) (.cells #[] 5)).grown hgA (by simp) HE2.out.lt; obtain ⟨ga, ca, rfl, _, _, hgbA, hglA, _⟩ := hoA.formG HL.out (by omega); have HOA := Lib.hid hoA; have EA := Lib.hid eA; have GBA := Lib.hid hgbA; have GLA := Lib.hid hglA; have HBA := Lib.hid (HB2.out.trans (eA.mono HB2.out.size)); have HRA := Lib.hid ((HR2.out.below eA).more eA.size); clear hoA hgA eA hgbA hglA)
              | ((with_reducible show wpList _ _ _ (⟨none, .store 5 (.tmp 51) _, _, _, _, _⟩ :: _) _ _); refine wpList_storeOG rfl (.tmp 51) _ rfl ga 12 (by rfl) (UInt8.ofNat (kn / 256)) ((kn : Int) / 256) HHI.out (by rfl) M ML ca w2.heap.size HL.out HOA.out (by omega) ?_; intro wq hs hgs; have HOQ := Lib.hid hs; have EQ1 := Lib.hid (EA.out.trans (gb_to_below hgs GBA.out EA.out.size)); clear hs hgs)
              | ((with_reducible show wpList _ _ _ (⟨none, .store 5 (.tmp 55) _, _, _, _, _⟩ :: _) _ _); refine wpList_storeOG rfl (.tmp 55) _ rfl ga 13 (by rfl) (UInt8.ofNat (kn % 256)) ((kn : Int) % 256) HLO.out (by rfl) (M.set 12 (UInt8.ofNat (kn / 256))) ML ca w2.heap.size HL1.out HOQ.out (by omega) ?_; intro wr hs hgs; have HOR := Lib.hid hs; have ER := Lib.hid (EQ1.out.trans (gb_to_below hgs GBA.out EQ1.out.size)); have HBR := Lib.hid (HB2.out.trans (ER.out.mono HB2.out.size)); have HRR := Lib.hid ((HR2.out.below ER.out).more ER.out.size); have HER := Lib.hid (empty8 (base := wr.heap.size) wr (Nat.le_refl _)); clear hs hgs)
              | ((with_reducible show wpList _ _ _ (⟨some 78, _, _, _, _, _⟩ :: _) _ _); refine wpList_append8 (o := ⟨some 78, _, _, _, _, _⟩) rfl _ _ rfl wr.heap.size _ [] (by rfl) HER.out _ A2 ML c2 M (by rfl) (HRR.out.alloc (Nat.le_refl _) _) LA.out (by simp) ?_; intro vC wc hoC hgC hqC; clear hqC; rw [List.nil_append] at hoC; have eC : Below wr.heap.size wr wc := ((Below.refl _ wr).alloc (Nat.le_refl _) (.cells #[] 5)).grown hgC (by simp) HER.out.lt; obtain ⟨gc, cc, rfl, _, _, hgbC, hglC, _⟩ := hoC.formG HL.out (by omega); have HOC := Lib.hid hoC; have EC := Lib.hid eC; have GBC := Lib.hid hgbC; have GLC := Lib.hid hglC; have HBC := Lib.hid (HBR.out.trans (eC.mono HBR.out.size)); have HRC := Lib.hid ((HRR.out.below eC).more eC.size); clear hoC hgC eC hgbC hglC)
              | ((with_reducible show wpList _ _ _ (⟨none, .store 5 (.tmp 81) _, _, _, _, _⟩ :: _) _ _); refine wpList_storeOG rfl (.tmp 81) _ rfl gc 23 (by rfl) (UInt8.ofNat pn) (pn : Int) HPB.out (by rfl) M ML cc wr.heap.size HL.out HOC.out (by omega) ?_; intro wm hs hgs; have HOM := Lib.hid hs; have EM := Lib.hid (EC.out.trans (gb_to_below hgs GBC.out EC.out.size)); have HBM := Lib.hid (HBR.out.trans (EM.out.mono HBR.out.size)); have HRM := Lib.hid ((HRR.out.below EM.out).more EM.out.size); have HEM := Lib.hid (empty8 (base := wm.heap.size) wm (Nat.le_refl _)); clear hs hgs)
              | ((with_reducible show wpList _ _ _ (⟨some 97, _, _, _, _, _⟩ :: _) _ _); refine wpList_append8 (o := ⟨some 97, _, _, _, _, _⟩) rfl _ _ rfl wm.heap.size _ [] (by rfl) HEM.out _ A2 ML c2 M (by rfl) (HRM.out.alloc (Nat.le_refl _) _) LA.out (by simp) ?_; intro vD wd hoD hgD hqD; clear hqD; rw [List.nil_append] at hoD; have eD : Below wm.heap.size wm wd := ((Below.refl _ wm).alloc (Nat.le_refl _) (.cells #[] 5)).grown hgD (by simp) HEM.out.lt; obtain ⟨gd, cd, rfl, _, _, hgbD, hglD, _⟩ := hoD.formG HL.out (by omega); have HOD := Lib.hid hoD; have ED := Lib.hid eD; have GBD := Lib.hid hgbD; have GLD := Lib.hid hglD; have HBD := Lib.hid (HBM.out.trans (eD.mono HBM.out.size)); have HRD := Lib.hid ((HRM.out.below eD).more eD.size); have kd : wd.cell? ⟨gd, 20, none⟩ = some (.int .u8 64) := HOD.out.byte H20.out; clear hoD hgD eD hgbD hglD)
              | ((with_reducible show wpList _ _ _ (⟨none, .store 5 (.tmp 103) _, _, _, _, _⟩ :: _) _ _); refine wpList_storeOG rfl (.tmp 103) _ rfl gd 20 (by rfl) (96 : UInt8) 96 (by rfl) (by rfl) M ML cd wm.heap.size HL.out HOD.out (by omega) ?_; intro we hs hgs; have HOE := Lib.hid hs; have EE := Lib.hid (ED.out.trans (gb_to_below hgs GBD.out ED.out.size)); have HBE := Lib.hid (HBM.out.trans (EE.out.mono HBM.out.size)); have HRE := Lib.hid ((HRM.out.below EE.out).more EE.out.size); have HEE := Lib.hid (empty8 (base := we.heap.size) we (Nat.le_refl _)); have GDE := Lib.hid (show gd < we.heap.size from Nat.lt_of_lt_of_le GLD.out hgs.size); clear kd; clear hs hgs)
              | ((with_reducible show wpList _ _ _ (⟨some 106, _, _, _, _, _⟩ :: _) _ _); refine wpList_append8 (o := ⟨some 106, _, _, _, _, _⟩) rfl _ _ rfl we.heap.size _ [] (by rfl) HEE.out _ A2 ML c2 M (by rfl) (HRE.out.alloc (Nat.le_refl _) _) LA.out (by simp) ?_; intro vG wg hoG hgG hqG; clear hqG; rw [List.nil_append] at hoG; have eG : Below we.heap.size we wg := ((Below.refl _ we).alloc (Nat.le_refl _) (.cells #[] 5)).grown hgG (by simp) HEE.out.lt; obtain ⟨gg, cg, rfl, _, _, hgbG, hglG, _⟩ := hoG.formG HL.out (by omega); have HOG := Lib.hid hoG; have EG := Lib.hid eG; have GBG := Lib.hid hgbG; have GLG := Lib.hid hglG; have HBG := Lib.hid (HBE.out.trans (eG.mono HBE.out.size)); have HRG := Lib.hid ((HRE.out.below eG).more eG.size); have kg : wg.cell? ⟨gg, 22, none⟩ = some (.int .u8 64) := HOG.out.byte H22.out; have HOE2 := Lib.hid (HOE.out.below EG.out); clear hoG hgG eG hgbG hglG)
              | ((with_reducible show wpList _ _ _ (⟨none, .store 5 (.tmp 114) _, _, _, _, _⟩ :: _) _ _); refine wpList_storeOG rfl (.tmp 114) _ rfl gg 22 (by rfl) (UInt8.ofNat YY) (YY : Int) HYB.out (by rfl) M ML cg we.heap.size HL.out HOG.out (by omega) ?_; intro wh hs hgs; have HOH := Lib.hid hs; have HOE3 := Lib.hid (HOE2.out.kept hgs (.inr (fun e => Nat.not_le_of_lt (World.ownsRow.lt HOE.out gg e).2 GBG.out))); have HBH := Lib.hid (HBG.out.trans (gb_to_below hgs (Nat.le_trans HBE.out.size GBG.out) HBG.out.size)); clear kg; clear hs hgs))
            refine (mend_any HOE3.out HLD.out hM34 (by omega)).mono ?_
            rintro e wi ⟨rfl, hom, hgm⟩
            have HOH2 := Lib.hid (own_kept HOH.out hgm GDE.out)
            have HBI := Lib.hid (HBH.out.grown hgm HBH.out.size (fun k hk => by cases hk; exact Nat.le_trans HBM.out.size GBD.out))
            obtain ⟨hcd, hmd, hrm⟩ := hom.rdN' HLD2.out
            have RR := Lib.hid (pread_as RF.out (by omega) hcd hmd hrm)
            clear hom hgm hrm
            go_wp2_with fail
            refine RR.out.mono ?_
            rintro e wj ⟨rfl, hbj⟩
            have HBJ := Lib.hid (HBI.out.trans (hbj.mono HBI.out.size))
            obtain ⟨hcg, hmg, hrg⟩ := (HOH2.out.below hbj).rdN' HLG.out
            have RR2 := Lib.hid (pread_as RG.out (by omega) hcg hmg hrg)
            clear hbj hrg
            have f4 := fun W => field_kind (kindK 4) W
            have f3 := fun W => field_kind (kindK 3) W
            change ∀ W : World, (Instr.field 30 (pkC (kindK 4)) 0).run Try.prog W = .ok (.int .i64 4) W at f4
            change ∀ W : World, (Instr.field 30 (pkC (kindK 3)) 0).run Try.prog W = .ok (.int .i64 3) W at f3
            go_wp2_with fail
            refine RR2.out.mono ?_
            rintro e wk ⟨rfl, hbk⟩
            go_wp2_with fail
            go_ret
            exact ⟨rfl, HBJ.out.trans (hbk.mono HBJ.out.size)⟩
          · have p6a : ((pn : Int) != 6) = true := by simp; omega
            have p6b : (pn != 6) = true := by simp; omega
            have p17a : ((pn : Int) != 17) = true := by simp; omega
            have p17b : (pn != 17) = true := by simp; omega
            have HRCX := Lib.hid (RC.out p6 p17)
            clear p6 p17
            go_wp2_with (first
              | ((with_reducible show wpList _ _ _ (⟨some 46, _, _, _, _, _⟩ :: _) _ _); refine wpList_append8 (o := ⟨some 46, _, _, _, _, _⟩) rfl _ _ rfl w2.heap.size _ [] (by rfl) HE2.out _ A2 ML c2 M (by rfl) (HR2.out.alloc (Nat.le_refl _) _) LA.out (by simp) ?_; intro vA wp hoA hgA hqA; clear hqA; rw [List.nil_append] at hoA; have eA : Below w2.heap.size w2 wp := ((Below.refl _ w2).alloc (Nat.le_refl _) (.cells #[] 5)).grown hgA (by simp) HE2.out.lt; obtain ⟨ga, ca, rfl, _, _, hgbA, hglA, _⟩ := hoA.formG HL.out (by omega); have HOA := Lib.hid hoA; have EA := Lib.hid eA; have GBA := Lib.hid hgbA; have GLA := Lib.hid hglA; have HBA := Lib.hid (HB2.out.trans (eA.mono HB2.out.size)); have HRA := Lib.hid ((HR2.out.below eA).more eA.size); clear hoA hgA eA hgbA hglA)
              | ((with_reducible show wpList _ _ _ (⟨none, .store 5 (.tmp 51) _, _, _, _, _⟩ :: _) _ _); refine wpList_storeOG rfl (.tmp 51) _ rfl ga 12 (by rfl) (UInt8.ofNat (kn / 256)) ((kn : Int) / 256) HHI.out (by rfl) M ML ca w2.heap.size HL.out HOA.out (by omega) ?_; intro wq hs hgs; have HOQ := Lib.hid hs; have EQ1 := Lib.hid (EA.out.trans (gb_to_below hgs GBA.out EA.out.size)); clear hs hgs)
              | ((with_reducible show wpList _ _ _ (⟨none, .store 5 (.tmp 55) _, _, _, _, _⟩ :: _) _ _); refine wpList_storeOG rfl (.tmp 55) _ rfl ga 13 (by rfl) (UInt8.ofNat (kn % 256)) ((kn : Int) % 256) HLO.out (by rfl) (M.set 12 (UInt8.ofNat (kn / 256))) ML ca w2.heap.size HL1.out HOQ.out (by omega) ?_; intro wr hs hgs; have HOR := Lib.hid hs; have ER := Lib.hid (EQ1.out.trans (gb_to_below hgs GBA.out EQ1.out.size)); have HBR := Lib.hid (HB2.out.trans (ER.out.mono HB2.out.size)); have HRR := Lib.hid ((HR2.out.below ER.out).more ER.out.size); have HER := Lib.hid (empty8 (base := wr.heap.size) wr (Nat.le_refl _)); clear hs hgs)
              | ((with_reducible show wpList _ _ _ (⟨some 78, _, _, _, _, _⟩ :: _) _ _); refine wpList_append8 (o := ⟨some 78, _, _, _, _, _⟩) rfl _ _ rfl wr.heap.size _ [] (by rfl) HER.out _ A2 ML c2 M (by rfl) (HRR.out.alloc (Nat.le_refl _) _) LA.out (by simp) ?_; intro vC wc hoC hgC hqC; clear hqC; rw [List.nil_append] at hoC; have eC : Below wr.heap.size wr wc := ((Below.refl _ wr).alloc (Nat.le_refl _) (.cells #[] 5)).grown hgC (by simp) HER.out.lt; obtain ⟨gc, cc, rfl, _, _, hgbC, hglC, _⟩ := hoC.formG HL.out (by omega); have HOC := Lib.hid hoC; have EC := Lib.hid eC; have GBC := Lib.hid hgbC; have GLC := Lib.hid hglC; have HBC := Lib.hid (HBR.out.trans (eC.mono HBR.out.size)); have HRC := Lib.hid ((HRR.out.below eC).more eC.size); clear hoC hgC eC hgbC hglC)
              | ((with_reducible show wpList _ _ _ (⟨none, .store 5 (.tmp 81) _, _, _, _, _⟩ :: _) _ _); refine wpList_storeOG rfl (.tmp 81) _ rfl gc 23 (by rfl) (UInt8.ofNat pn) (pn : Int) HPB.out (by rfl) M ML cc wr.heap.size HL.out HOC.out (by omega) ?_; intro wm hs hgs; have HOM := Lib.hid hs; have EM := Lib.hid (EC.out.trans (gb_to_below hgs GBC.out EC.out.size)); have HBM := Lib.hid (HBR.out.trans (EM.out.mono HBR.out.size)); have HRM := Lib.hid ((HRR.out.below EM.out).more EM.out.size); have HEM := Lib.hid (empty8 (base := wm.heap.size) wm (Nat.le_refl _)); clear hs hgs))
            refine (mend_any HOM.out HLC.out hM34 (by omega)).mono ?_
            rintro e wn ⟨rfl, hom, hgm⟩
            have EN := Lib.hid (EM.out.trans (gb_to_below hgm GBC.out EM.out.size))
            obtain ⟨hcc, hmc, hrm⟩ := hom.rdN' HLC2.out
            have RR := Lib.hid (pread_as HRCX.out (by omega) hcc hmc hrm)
            clear hom hgm hrm
            go_wp2_with fail
            refine RR.out.mono ?_
            rintro e wo ⟨rfl, hbo⟩
            have EO := Lib.hid (EN.out.trans (hbo.mono EN.out.size))
            have HBO := Lib.hid (HBR.out.trans (EO.out.mono HBR.out.size))
            have HRO := Lib.hid ((HRR.out.below EO.out).more EO.out.size)
            have HEO := Lib.hid (empty8 (base := wo.heap.size) wo (Nat.le_refl _))
            clear hbo
            have f5 : ∀ W : World, (Instr.field 30 (pkC (kindK 5)) 0).run Try.prog W = .ok (.int .i64 5) W := fun W => field_kind (kindK 5) W
            go_wp2_with (first
              | ((with_reducible show wpList _ _ _ (⟨some 97, _, _, _, _, _⟩ :: _) _ _); refine wpList_append8 (o := ⟨some 97, _, _, _, _, _⟩) rfl _ _ rfl wo.heap.size _ [] (by rfl) HEO.out _ A2 ML c2 M (by rfl) (HRO.out.alloc (Nat.le_refl _) _) LA.out (by simp) ?_; intro vD wd hoD hgD hqD; clear hqD; rw [List.nil_append] at hoD; have eD : Below wo.heap.size wo wd := ((Below.refl _ wo).alloc (Nat.le_refl _) (.cells #[] 5)).grown hgD (by simp) HEO.out.lt; obtain ⟨gd, cd, rfl, _, _, hgbD, hglD, _⟩ := hoD.formG HL.out (by omega); have HOD := Lib.hid hoD; have ED := Lib.hid eD; have GBD := Lib.hid hgbD; have GLD := Lib.hid hglD; have HBD := Lib.hid (HBO.out.trans (eD.mono HBO.out.size)); have HRD := Lib.hid ((HRO.out.below eD).more eD.size); have kd : wd.cell? ⟨gd, 20, none⟩ = some (.int .u8 64) := HOD.out.byte H20.out; clear hoD hgD eD hgbD hglD)
              | ((with_reducible show wpList _ _ _ (⟨none, .store 5 (.tmp 103) _, _, _, _, _⟩ :: _) _ _); refine wpList_storeOG rfl (.tmp 103) _ rfl gd 20 (by rfl) (96 : UInt8) 96 (by rfl) (by rfl) M ML cd wo.heap.size HL.out HOD.out (by omega) ?_; intro we hs hgs; have HOE := Lib.hid hs; have EE := Lib.hid (ED.out.trans (gb_to_below hgs GBD.out ED.out.size)); have HBE := Lib.hid (HBO.out.trans (EE.out.mono HBO.out.size)); have HRE := Lib.hid ((HRO.out.below EE.out).more EE.out.size); have HEE := Lib.hid (empty8 (base := we.heap.size) we (Nat.le_refl _)); have GDE := Lib.hid (show gd < we.heap.size from Nat.lt_of_lt_of_le GLD.out hgs.size); clear kd; clear hs hgs)
              | ((with_reducible show wpList _ _ _ (⟨some 106, _, _, _, _, _⟩ :: _) _ _); refine wpList_append8 (o := ⟨some 106, _, _, _, _, _⟩) rfl _ _ rfl we.heap.size _ [] (by rfl) HEE.out _ A2 ML c2 M (by rfl) (HRE.out.alloc (Nat.le_refl _) _) LA.out (by simp) ?_; intro vG wg hoG hgG hqG; clear hqG; rw [List.nil_append] at hoG; have eG : Below we.heap.size we wg := ((Below.refl _ we).alloc (Nat.le_refl _) (.cells #[] 5)).grown hgG (by simp) HEE.out.lt; obtain ⟨gg, cg, rfl, _, _, hgbG, hglG, _⟩ := hoG.formG HL.out (by omega); have HOG := Lib.hid hoG; have EG := Lib.hid eG; have GBG := Lib.hid hgbG; have GLG := Lib.hid hglG; have HBG := Lib.hid (HBE.out.trans (eG.mono HBE.out.size)); have HRG := Lib.hid ((HRE.out.below eG).more eG.size); have kg : wg.cell? ⟨gg, 22, none⟩ = some (.int .u8 64) := HOG.out.byte H22.out; have HOE2 := Lib.hid (HOE.out.below EG.out); clear hoG hgG eG hgbG hglG)
              | ((with_reducible show wpList _ _ _ (⟨none, .store 5 (.tmp 114) _, _, _, _, _⟩ :: _) _ _); refine wpList_storeOG rfl (.tmp 114) _ rfl gg 22 (by rfl) (UInt8.ofNat YY) (YY : Int) HYB.out (by rfl) M ML cg we.heap.size HL.out HOG.out (by omega) ?_; intro wh hs hgs; have HOH := Lib.hid hs; have HOE3 := Lib.hid (HOE2.out.kept hgs (.inr (fun e => Nat.not_le_of_lt (World.ownsRow.lt HOE.out gg e).2 GBG.out))); have HBH := Lib.hid (HBG.out.trans (gb_to_below hgs (Nat.le_trans HBE.out.size GBG.out) HBG.out.size)); clear kg; clear hs hgs))
            refine (mend_any HOE3.out HLD.out hM34 (by omega)).mono ?_
            rintro e wi ⟨rfl, hom, hgm⟩
            have HOH2 := Lib.hid (own_kept HOH.out hgm GDE.out)
            have HBI := Lib.hid (HBH.out.grown hgm HBH.out.size (fun k hk => by cases hk; exact Nat.le_trans HBO.out.size GBD.out))
            obtain ⟨hcd, hmd, hrm⟩ := hom.rdN' HLD2.out
            have RR := Lib.hid (pread_as RF.out (by omega) hcd hmd hrm)
            clear hom hgm hrm
            go_wp2_with fail
            refine RR.out.mono ?_
            rintro e wj ⟨rfl, hbj⟩
            have HBJ := Lib.hid (HBI.out.trans (hbj.mono HBI.out.size))
            obtain ⟨hcg, hmg, hrg⟩ := (HOH2.out.below hbj).rdN' HLG.out
            have RR2 := Lib.hid (pread_as RG.out (by omega) hcg hmg hrg)
            clear hbj hrg
            have f4 := fun W => field_kind (kindK 4) W
            have f3 := fun W => field_kind (kindK 3) W
            change ∀ W : World, (Instr.field 30 (pkC (kindK 4)) 0).run Try.prog W = .ok (.int .i64 4) W at f4
            change ∀ W : World, (Instr.field 30 (pkC (kindK 3)) 0).run Try.prog W = .ok (.int .i64 3) W at f3
            go_wp2_with fail
            refine RR2.out.mono ?_
            rintro e wk ⟨rfl, hbk⟩
            go_wp2_with fail
            go_ret
            exact ⟨rfl, HBJ.out.trans (hbk.mono HBJ.out.size)⟩
      · by_cases k1 : kn = 34525
        · have k0a : ((kn : Int) != 2048) = true := by simp; omega
          have k0b : (kn != 2048) = true := by simp; omega
          have k1a : ((kn : Int) != 34525) = false := by simp; omega
          have k1b : (kn != 34525) = false := by simp; omega
          clear k0 k1
          by_cases p6 : pn = 6
          · have p6a : ((pn : Int) != 6) = false := by simp; omega
            have p6b : (pn != 6) = false := by simp; omega
            clear p6
            go_wp2_with (first
              | ((with_reducible show wpList _ _ _ (⟨some 46, _, _, _, _, _⟩ :: _) _ _); refine wpList_append8 (o := ⟨some 46, _, _, _, _, _⟩) rfl _ _ rfl w2.heap.size _ [] (by rfl) HE2.out _ A2 ML c2 M (by rfl) (HR2.out.alloc (Nat.le_refl _) _) LA.out (by simp) ?_; intro vA wp hoA hgA hqA; clear hqA; rw [List.nil_append] at hoA; have eA : Below w2.heap.size w2 wp := ((Below.refl _ w2).alloc (Nat.le_refl _) (.cells #[] 5)).grown hgA (by simp) HE2.out.lt; obtain ⟨ga, ca, rfl, _, _, hgbA, hglA, _⟩ := hoA.formG HL.out (by omega); have HOA := Lib.hid hoA; have EA := Lib.hid eA; have GBA := Lib.hid hgbA; have GLA := Lib.hid hglA; have HBA := Lib.hid (HB2.out.trans (eA.mono HB2.out.size)); have HRA := Lib.hid ((HR2.out.below eA).more eA.size); clear hoA hgA eA hgbA hglA)
              | ((with_reducible show wpList _ _ _ (⟨none, .store 5 (.tmp 51) _, _, _, _, _⟩ :: _) _ _); refine wpList_storeOG rfl (.tmp 51) _ rfl ga 12 (by rfl) (UInt8.ofNat (kn / 256)) ((kn : Int) / 256) HHI.out (by rfl) M ML ca w2.heap.size HL.out HOA.out (by omega) ?_; intro wq hs hgs; have HOQ := Lib.hid hs; have EQ1 := Lib.hid (EA.out.trans (gb_to_below hgs GBA.out EA.out.size)); clear hs hgs)
              | ((with_reducible show wpList _ _ _ (⟨none, .store 5 (.tmp 55) _, _, _, _, _⟩ :: _) _ _); refine wpList_storeOG rfl (.tmp 55) _ rfl ga 13 (by rfl) (UInt8.ofNat (kn % 256)) ((kn : Int) % 256) HLO.out (by rfl) (M.set 12 (UInt8.ofNat (kn / 256))) ML ca w2.heap.size HL1.out HOQ.out (by omega) ?_; intro wr hs hgs; have HOR := Lib.hid hs; have ER := Lib.hid (EQ1.out.trans (gb_to_below hgs GBA.out EQ1.out.size)); have HBR := Lib.hid (HB2.out.trans (ER.out.mono HB2.out.size)); have HRR := Lib.hid ((HR2.out.below ER.out).more ER.out.size); have HER := Lib.hid (empty8 (base := wr.heap.size) wr (Nat.le_refl _)); clear hs hgs)
              | ((with_reducible show wpList _ _ _ (⟨some 78, _, _, _, _, _⟩ :: _) _ _); refine wpList_append8 (o := ⟨some 78, _, _, _, _, _⟩) rfl _ _ rfl wr.heap.size _ [] (by rfl) HER.out _ A2 ML c2 M (by rfl) (HRR.out.alloc (Nat.le_refl _) _) LA.out (by simp) ?_; intro vC wc hoC hgC hqC; clear hqC; rw [List.nil_append] at hoC; have eC : Below wr.heap.size wr wc := ((Below.refl _ wr).alloc (Nat.le_refl _) (.cells #[] 5)).grown hgC (by simp) HER.out.lt; obtain ⟨gc, cc, rfl, _, _, hgbC, hglC, _⟩ := hoC.formG HL.out (by omega); have HOC := Lib.hid hoC; have EC := Lib.hid eC; have GBC := Lib.hid hgbC; have GLC := Lib.hid hglC; have HBC := Lib.hid (HBR.out.trans (eC.mono HBR.out.size)); have HRC := Lib.hid ((HRR.out.below eC).more eC.size); clear hoC hgC eC hgbC hglC)
              | ((with_reducible show wpList _ _ _ (⟨none, .store 5 (.tmp 81) _, _, _, _, _⟩ :: _) _ _); refine wpList_storeOG rfl (.tmp 81) _ rfl gc 23 (by rfl) (UInt8.ofNat pn) (pn : Int) HPB.out (by rfl) M ML cc wr.heap.size HL.out HOC.out (by omega) ?_; intro wm hs hgs; have HOM := Lib.hid hs; have EM := Lib.hid (EC.out.trans (gb_to_below hgs GBC.out EC.out.size)); have HBM := Lib.hid (HBR.out.trans (EM.out.mono HBR.out.size)); have HRM := Lib.hid ((HRR.out.below EM.out).more EM.out.size); have HEM := Lib.hid (empty8 (base := wm.heap.size) wm (Nat.le_refl _)); clear hs hgs)
              | ((with_reducible show wpList _ _ _ (⟨some 97, _, _, _, _, _⟩ :: _) _ _); refine wpList_append8 (o := ⟨some 97, _, _, _, _, _⟩) rfl _ _ rfl wm.heap.size _ [] (by rfl) HEM.out _ A2 ML c2 M (by rfl) (HRM.out.alloc (Nat.le_refl _) _) LA.out (by simp) ?_; intro vD wd hoD hgD hqD; clear hqD; rw [List.nil_append] at hoD; have eD : Below wm.heap.size wm wd := ((Below.refl _ wm).alloc (Nat.le_refl _) (.cells #[] 5)).grown hgD (by simp) HEM.out.lt; obtain ⟨gd, cd, rfl, _, _, hgbD, hglD, _⟩ := hoD.formG HL.out (by omega); have HOD := Lib.hid hoD; have ED := Lib.hid eD; have GBD := Lib.hid hgbD; have GLD := Lib.hid hglD; have HBD := Lib.hid (HBM.out.trans (eD.mono HBM.out.size)); have HRD := Lib.hid ((HRM.out.below eD).more eD.size); have kd : wd.cell? ⟨gd, 20, none⟩ = some (.int .u8 64) := HOD.out.byte H20.out; clear hoD hgD eD hgbD hglD)
              | ((with_reducible show wpList _ _ _ (⟨none, .store 5 (.tmp 103) _, _, _, _, _⟩ :: _) _ _); refine wpList_storeOG rfl (.tmp 103) _ rfl gd 20 (by rfl) (96 : UInt8) 96 (by rfl) (by rfl) M ML cd wm.heap.size HL.out HOD.out (by omega) ?_; intro we hs hgs; have HOE := Lib.hid hs; have EE := Lib.hid (ED.out.trans (gb_to_below hgs GBD.out ED.out.size)); have HBE := Lib.hid (HBM.out.trans (EE.out.mono HBM.out.size)); have HRE := Lib.hid ((HRM.out.below EE.out).more EE.out.size); have HEE := Lib.hid (empty8 (base := we.heap.size) we (Nat.le_refl _)); have GDE := Lib.hid (show gd < we.heap.size from Nat.lt_of_lt_of_le GLD.out hgs.size); clear kd; clear hs hgs)
              | ((with_reducible show wpList _ _ _ (⟨some 106, _, _, _, _, _⟩ :: _) _ _); refine wpList_append8 (o := ⟨some 106, _, _, _, _, _⟩) rfl _ _ rfl we.heap.size _ [] (by rfl) HEE.out _ A2 ML c2 M (by rfl) (HRE.out.alloc (Nat.le_refl _) _) LA.out (by simp) ?_; intro vG wg hoG hgG hqG; clear hqG; rw [List.nil_append] at hoG; have eG : Below we.heap.size we wg := ((Below.refl _ we).alloc (Nat.le_refl _) (.cells #[] 5)).grown hgG (by simp) HEE.out.lt; obtain ⟨gg, cg, rfl, _, _, hgbG, hglG, _⟩ := hoG.formG HL.out (by omega); have HOG := Lib.hid hoG; have EG := Lib.hid eG; have GBG := Lib.hid hgbG; have GLG := Lib.hid hglG; have HBG := Lib.hid (HBE.out.trans (eG.mono HBE.out.size)); have HRG := Lib.hid ((HRE.out.below eG).more eG.size); have kg : wg.cell? ⟨gg, 22, none⟩ = some (.int .u8 64) := HOG.out.byte H22.out; have HOE2 := Lib.hid (HOE.out.below EG.out); clear hoG hgG eG hgbG hglG)
              | ((with_reducible show wpList _ _ _ (⟨none, .store 5 (.tmp 114) _, _, _, _, _⟩ :: _) _ _); refine wpList_storeOG rfl (.tmp 114) _ rfl gg 22 (by rfl) (UInt8.ofNat YY) (YY : Int) HYB.out (by rfl) M ML cg we.heap.size HL.out HOG.out (by omega) ?_; intro wh hs hgs; have HOH := Lib.hid hs; have HOE3 := Lib.hid (HOE2.out.kept hgs (.inr (fun e => Nat.not_le_of_lt (World.ownsRow.lt HOE.out gg e).2 GBG.out))); have HBH := Lib.hid (HBG.out.trans (gb_to_below hgs (Nat.le_trans HBE.out.size GBG.out) HBG.out.size)); clear kg; clear hs hgs))
            refine (mend_any HOE3.out HLD.out hM34 (by omega)).mono ?_
            rintro e wi ⟨rfl, hom, hgm⟩
            have HOH2 := Lib.hid (own_kept HOH.out hgm GDE.out)
            have HBI := Lib.hid (HBH.out.grown hgm HBH.out.size (fun k hk => by cases hk; exact Nat.le_trans HBM.out.size GBD.out))
            obtain ⟨hcd, hmd, hrm⟩ := hom.rdN' HLD2.out
            have RR := Lib.hid (pread_as RF.out (by omega) hcd hmd hrm)
            clear hom hgm hrm
            go_wp2_with fail
            refine RR.out.mono ?_
            rintro e wj ⟨rfl, hbj⟩
            have HBJ := Lib.hid (HBI.out.trans (hbj.mono HBI.out.size))
            obtain ⟨hcg, hmg, hrg⟩ := (HOH2.out.below hbj).rdN' HLG.out
            have RR2 := Lib.hid (pread_as RG.out (by omega) hcg hmg hrg)
            clear hbj hrg
            have f4 := fun W => field_kind (kindK 4) W
            have f3 := fun W => field_kind (kindK 3) W
            change ∀ W : World, (Instr.field 30 (pkC (kindK 4)) 0).run Try.prog W = .ok (.int .i64 4) W at f4
            change ∀ W : World, (Instr.field 30 (pkC (kindK 3)) 0).run Try.prog W = .ok (.int .i64 3) W at f3
            go_wp2_with fail
            refine RR2.out.mono ?_
            rintro e wk ⟨rfl, hbk⟩
            go_wp2_with fail
            go_ret
            exact ⟨rfl, HBJ.out.trans (hbk.mono HBJ.out.size)⟩
          · by_cases p17 : pn = 17
            · have p6a : ((pn : Int) != 6) = true := by simp; omega
              have p6b : (pn != 6) = true := by simp; omega
              have p17a : ((pn : Int) != 17) = false := by simp; omega
              have p17b : (pn != 17) = false := by simp; omega
              clear p6 p17
              go_wp2_with (first
                | ((with_reducible show wpList _ _ _ (⟨some 46, _, _, _, _, _⟩ :: _) _ _); refine wpList_append8 (o := ⟨some 46, _, _, _, _, _⟩) rfl _ _ rfl w2.heap.size _ [] (by rfl) HE2.out _ A2 ML c2 M (by rfl) (HR2.out.alloc (Nat.le_refl _) _) LA.out (by simp) ?_; intro vA wp hoA hgA hqA; clear hqA; rw [List.nil_append] at hoA; have eA : Below w2.heap.size w2 wp := ((Below.refl _ w2).alloc (Nat.le_refl _) (.cells #[] 5)).grown hgA (by simp) HE2.out.lt; obtain ⟨ga, ca, rfl, _, _, hgbA, hglA, _⟩ := hoA.formG HL.out (by omega); have HOA := Lib.hid hoA; have EA := Lib.hid eA; have GBA := Lib.hid hgbA; have GLA := Lib.hid hglA; have HBA := Lib.hid (HB2.out.trans (eA.mono HB2.out.size)); have HRA := Lib.hid ((HR2.out.below eA).more eA.size); clear hoA hgA eA hgbA hglA)
                | ((with_reducible show wpList _ _ _ (⟨none, .store 5 (.tmp 51) _, _, _, _, _⟩ :: _) _ _); refine wpList_storeOG rfl (.tmp 51) _ rfl ga 12 (by rfl) (UInt8.ofNat (kn / 256)) ((kn : Int) / 256) HHI.out (by rfl) M ML ca w2.heap.size HL.out HOA.out (by omega) ?_; intro wq hs hgs; have HOQ := Lib.hid hs; have EQ1 := Lib.hid (EA.out.trans (gb_to_below hgs GBA.out EA.out.size)); clear hs hgs)
                | ((with_reducible show wpList _ _ _ (⟨none, .store 5 (.tmp 55) _, _, _, _, _⟩ :: _) _ _); refine wpList_storeOG rfl (.tmp 55) _ rfl ga 13 (by rfl) (UInt8.ofNat (kn % 256)) ((kn : Int) % 256) HLO.out (by rfl) (M.set 12 (UInt8.ofNat (kn / 256))) ML ca w2.heap.size HL1.out HOQ.out (by omega) ?_; intro wr hs hgs; have HOR := Lib.hid hs; have ER := Lib.hid (EQ1.out.trans (gb_to_below hgs GBA.out EQ1.out.size)); have HBR := Lib.hid (HB2.out.trans (ER.out.mono HB2.out.size)); have HRR := Lib.hid ((HR2.out.below ER.out).more ER.out.size); have HER := Lib.hid (empty8 (base := wr.heap.size) wr (Nat.le_refl _)); clear hs hgs)
                | ((with_reducible show wpList _ _ _ (⟨some 78, _, _, _, _, _⟩ :: _) _ _); refine wpList_append8 (o := ⟨some 78, _, _, _, _, _⟩) rfl _ _ rfl wr.heap.size _ [] (by rfl) HER.out _ A2 ML c2 M (by rfl) (HRR.out.alloc (Nat.le_refl _) _) LA.out (by simp) ?_; intro vC wc hoC hgC hqC; clear hqC; rw [List.nil_append] at hoC; have eC : Below wr.heap.size wr wc := ((Below.refl _ wr).alloc (Nat.le_refl _) (.cells #[] 5)).grown hgC (by simp) HER.out.lt; obtain ⟨gc, cc, rfl, _, _, hgbC, hglC, _⟩ := hoC.formG HL.out (by omega); have HOC := Lib.hid hoC; have EC := Lib.hid eC; have GBC := Lib.hid hgbC; have GLC := Lib.hid hglC; have HBC := Lib.hid (HBR.out.trans (eC.mono HBR.out.size)); have HRC := Lib.hid ((HRR.out.below eC).more eC.size); clear hoC hgC eC hgbC hglC)
                | ((with_reducible show wpList _ _ _ (⟨none, .store 5 (.tmp 81) _, _, _, _, _⟩ :: _) _ _); refine wpList_storeOG rfl (.tmp 81) _ rfl gc 23 (by rfl) (UInt8.ofNat pn) (pn : Int) HPB.out (by rfl) M ML cc wr.heap.size HL.out HOC.out (by omega) ?_; intro wm hs hgs; have HOM := Lib.hid hs; have EM := Lib.hid (EC.out.trans (gb_to_below hgs GBC.out EC.out.size)); have HBM := Lib.hid (HBR.out.trans (EM.out.mono HBR.out.size)); have HRM := Lib.hid ((HRR.out.below EM.out).more EM.out.size); have HEM := Lib.hid (empty8 (base := wm.heap.size) wm (Nat.le_refl _)); clear hs hgs)
                | ((with_reducible show wpList _ _ _ (⟨some 97, _, _, _, _, _⟩ :: _) _ _); refine wpList_append8 (o := ⟨some 97, _, _, _, _, _⟩) rfl _ _ rfl wm.heap.size _ [] (by rfl) HEM.out _ A2 ML c2 M (by rfl) (HRM.out.alloc (Nat.le_refl _) _) LA.out (by simp) ?_; intro vD wd hoD hgD hqD; clear hqD; rw [List.nil_append] at hoD; have eD : Below wm.heap.size wm wd := ((Below.refl _ wm).alloc (Nat.le_refl _) (.cells #[] 5)).grown hgD (by simp) HEM.out.lt; obtain ⟨gd, cd, rfl, _, _, hgbD, hglD, _⟩ := hoD.formG HL.out (by omega); have HOD := Lib.hid hoD; have ED := Lib.hid eD; have GBD := Lib.hid hgbD; have GLD := Lib.hid hglD; have HBD := Lib.hid (HBM.out.trans (eD.mono HBM.out.size)); have HRD := Lib.hid ((HRM.out.below eD).more eD.size); have kd : wd.cell? ⟨gd, 20, none⟩ = some (.int .u8 64) := HOD.out.byte H20.out; clear hoD hgD eD hgbD hglD)
                | ((with_reducible show wpList _ _ _ (⟨none, .store 5 (.tmp 103) _, _, _, _, _⟩ :: _) _ _); refine wpList_storeOG rfl (.tmp 103) _ rfl gd 20 (by rfl) (96 : UInt8) 96 (by rfl) (by rfl) M ML cd wm.heap.size HL.out HOD.out (by omega) ?_; intro we hs hgs; have HOE := Lib.hid hs; have EE := Lib.hid (ED.out.trans (gb_to_below hgs GBD.out ED.out.size)); have HBE := Lib.hid (HBM.out.trans (EE.out.mono HBM.out.size)); have HRE := Lib.hid ((HRM.out.below EE.out).more EE.out.size); have HEE := Lib.hid (empty8 (base := we.heap.size) we (Nat.le_refl _)); have GDE := Lib.hid (show gd < we.heap.size from Nat.lt_of_lt_of_le GLD.out hgs.size); clear kd; clear hs hgs)
                | ((with_reducible show wpList _ _ _ (⟨some 106, _, _, _, _, _⟩ :: _) _ _); refine wpList_append8 (o := ⟨some 106, _, _, _, _, _⟩) rfl _ _ rfl we.heap.size _ [] (by rfl) HEE.out _ A2 ML c2 M (by rfl) (HRE.out.alloc (Nat.le_refl _) _) LA.out (by simp) ?_; intro vG wg hoG hgG hqG; clear hqG; rw [List.nil_append] at hoG; have eG : Below we.heap.size we wg := ((Below.refl _ we).alloc (Nat.le_refl _) (.cells #[] 5)).grown hgG (by simp) HEE.out.lt; obtain ⟨gg, cg, rfl, _, _, hgbG, hglG, _⟩ := hoG.formG HL.out (by omega); have HOG := Lib.hid hoG; have EG := Lib.hid eG; have GBG := Lib.hid hgbG; have GLG := Lib.hid hglG; have HBG := Lib.hid (HBE.out.trans (eG.mono HBE.out.size)); have HRG := Lib.hid ((HRE.out.below eG).more eG.size); have kg : wg.cell? ⟨gg, 22, none⟩ = some (.int .u8 64) := HOG.out.byte H22.out; have HOE2 := Lib.hid (HOE.out.below EG.out); clear hoG hgG eG hgbG hglG)
                | ((with_reducible show wpList _ _ _ (⟨none, .store 5 (.tmp 114) _, _, _, _, _⟩ :: _) _ _); refine wpList_storeOG rfl (.tmp 114) _ rfl gg 22 (by rfl) (UInt8.ofNat YY) (YY : Int) HYB.out (by rfl) M ML cg we.heap.size HL.out HOG.out (by omega) ?_; intro wh hs hgs; have HOH := Lib.hid hs; have HOE3 := Lib.hid (HOE2.out.kept hgs (.inr (fun e => Nat.not_le_of_lt (World.ownsRow.lt HOE.out gg e).2 GBG.out))); have HBH := Lib.hid (HBG.out.trans (gb_to_below hgs (Nat.le_trans HBE.out.size GBG.out) HBG.out.size)); clear kg; clear hs hgs))
              refine (mend_any HOE3.out HLD.out hM34 (by omega)).mono ?_
              rintro e wi ⟨rfl, hom, hgm⟩
              have HOH2 := Lib.hid (own_kept HOH.out hgm GDE.out)
              have HBI := Lib.hid (HBH.out.grown hgm HBH.out.size (fun k hk => by cases hk; exact Nat.le_trans HBM.out.size GBD.out))
              obtain ⟨hcd, hmd, hrm⟩ := hom.rdN' HLD2.out
              have RR := Lib.hid (pread_as RF.out (by omega) hcd hmd hrm)
              clear hom hgm hrm
              go_wp2_with fail
              refine RR.out.mono ?_
              rintro e wj ⟨rfl, hbj⟩
              have HBJ := Lib.hid (HBI.out.trans (hbj.mono HBI.out.size))
              obtain ⟨hcg, hmg, hrg⟩ := (HOH2.out.below hbj).rdN' HLG.out
              have RR2 := Lib.hid (pread_as RG.out (by omega) hcg hmg hrg)
              clear hbj hrg
              have f4 := fun W => field_kind (kindK 4) W
              have f3 := fun W => field_kind (kindK 3) W
              change ∀ W : World, (Instr.field 30 (pkC (kindK 4)) 0).run Try.prog W = .ok (.int .i64 4) W at f4
              change ∀ W : World, (Instr.field 30 (pkC (kindK 3)) 0).run Try.prog W = .ok (.int .i64 3) W at f3
              go_wp2_with fail
              refine RR2.out.mono ?_
              rintro e wk ⟨rfl, hbk⟩
              go_wp2_with fail
              go_ret
              exact ⟨rfl, HBJ.out.trans (hbk.mono HBJ.out.size)⟩
            · have p6a : ((pn : Int) != 6) = true := by simp; omega
              have p6b : (pn != 6) = true := by simp; omega
              have p17a : ((pn : Int) != 17) = true := by simp; omega
              have p17b : (pn != 17) = true := by simp; omega
              have HRCX := Lib.hid (RC.out p6 p17)
              clear p6 p17
              go_wp2_with (first
                | ((with_reducible show wpList _ _ _ (⟨some 46, _, _, _, _, _⟩ :: _) _ _); refine wpList_append8 (o := ⟨some 46, _, _, _, _, _⟩) rfl _ _ rfl w2.heap.size _ [] (by rfl) HE2.out _ A2 ML c2 M (by rfl) (HR2.out.alloc (Nat.le_refl _) _) LA.out (by simp) ?_; intro vA wp hoA hgA hqA; clear hqA; rw [List.nil_append] at hoA; have eA : Below w2.heap.size w2 wp := ((Below.refl _ w2).alloc (Nat.le_refl _) (.cells #[] 5)).grown hgA (by simp) HE2.out.lt; obtain ⟨ga, ca, rfl, _, _, hgbA, hglA, _⟩ := hoA.formG HL.out (by omega); have HOA := Lib.hid hoA; have EA := Lib.hid eA; have GBA := Lib.hid hgbA; have GLA := Lib.hid hglA; have HBA := Lib.hid (HB2.out.trans (eA.mono HB2.out.size)); have HRA := Lib.hid ((HR2.out.below eA).more eA.size); clear hoA hgA eA hgbA hglA)
                | ((with_reducible show wpList _ _ _ (⟨none, .store 5 (.tmp 51) _, _, _, _, _⟩ :: _) _ _); refine wpList_storeOG rfl (.tmp 51) _ rfl ga 12 (by rfl) (UInt8.ofNat (kn / 256)) ((kn : Int) / 256) HHI.out (by rfl) M ML ca w2.heap.size HL.out HOA.out (by omega) ?_; intro wq hs hgs; have HOQ := Lib.hid hs; have EQ1 := Lib.hid (EA.out.trans (gb_to_below hgs GBA.out EA.out.size)); clear hs hgs)
                | ((with_reducible show wpList _ _ _ (⟨none, .store 5 (.tmp 55) _, _, _, _, _⟩ :: _) _ _); refine wpList_storeOG rfl (.tmp 55) _ rfl ga 13 (by rfl) (UInt8.ofNat (kn % 256)) ((kn : Int) % 256) HLO.out (by rfl) (M.set 12 (UInt8.ofNat (kn / 256))) ML ca w2.heap.size HL1.out HOQ.out (by omega) ?_; intro wr hs hgs; have HOR := Lib.hid hs; have ER := Lib.hid (EQ1.out.trans (gb_to_below hgs GBA.out EQ1.out.size)); have HBR := Lib.hid (HB2.out.trans (ER.out.mono HB2.out.size)); have HRR := Lib.hid ((HR2.out.below ER.out).more ER.out.size); have HER := Lib.hid (empty8 (base := wr.heap.size) wr (Nat.le_refl _)); clear hs hgs)
                | ((with_reducible show wpList _ _ _ (⟨some 78, _, _, _, _, _⟩ :: _) _ _); refine wpList_append8 (o := ⟨some 78, _, _, _, _, _⟩) rfl _ _ rfl wr.heap.size _ [] (by rfl) HER.out _ A2 ML c2 M (by rfl) (HRR.out.alloc (Nat.le_refl _) _) LA.out (by simp) ?_; intro vC wc hoC hgC hqC; clear hqC; rw [List.nil_append] at hoC; have eC : Below wr.heap.size wr wc := ((Below.refl _ wr).alloc (Nat.le_refl _) (.cells #[] 5)).grown hgC (by simp) HER.out.lt; obtain ⟨gc, cc, rfl, _, _, hgbC, hglC, _⟩ := hoC.formG HL.out (by omega); have HOC := Lib.hid hoC; have EC := Lib.hid eC; have GBC := Lib.hid hgbC; have GLC := Lib.hid hglC; have HBC := Lib.hid (HBR.out.trans (eC.mono HBR.out.size)); have HRC := Lib.hid ((HRR.out.below eC).more eC.size); clear hoC hgC eC hgbC hglC)
                | ((with_reducible show wpList _ _ _ (⟨none, .store 5 (.tmp 81) _, _, _, _, _⟩ :: _) _ _); refine wpList_storeOG rfl (.tmp 81) _ rfl gc 23 (by rfl) (UInt8.ofNat pn) (pn : Int) HPB.out (by rfl) M ML cc wr.heap.size HL.out HOC.out (by omega) ?_; intro wm hs hgs; have HOM := Lib.hid hs; have EM := Lib.hid (EC.out.trans (gb_to_below hgs GBC.out EC.out.size)); have HBM := Lib.hid (HBR.out.trans (EM.out.mono HBR.out.size)); have HRM := Lib.hid ((HRR.out.below EM.out).more EM.out.size); have HEM := Lib.hid (empty8 (base := wm.heap.size) wm (Nat.le_refl _)); clear hs hgs))
              refine (mend_any HOM.out HLC.out hM34 (by omega)).mono ?_
              rintro e wn ⟨rfl, hom, hgm⟩
              have EN := Lib.hid (EM.out.trans (gb_to_below hgm GBC.out EM.out.size))
              obtain ⟨hcc, hmc, hrm⟩ := hom.rdN' HLC2.out
              have RR := Lib.hid (pread_as HRCX.out (by omega) hcc hmc hrm)
              clear hom hgm hrm
              go_wp2_with fail
              refine RR.out.mono ?_
              rintro e wo ⟨rfl, hbo⟩
              have EO := Lib.hid (EN.out.trans (hbo.mono EN.out.size))
              have HBO := Lib.hid (HBR.out.trans (EO.out.mono HBR.out.size))
              have HRO := Lib.hid ((HRR.out.below EO.out).more EO.out.size)
              have HEO := Lib.hid (empty8 (base := wo.heap.size) wo (Nat.le_refl _))
              clear hbo
              have f5 : ∀ W : World, (Instr.field 30 (pkC (kindK 5)) 0).run Try.prog W = .ok (.int .i64 5) W := fun W => field_kind (kindK 5) W
              go_wp2_with (first
                | ((with_reducible show wpList _ _ _ (⟨some 97, _, _, _, _, _⟩ :: _) _ _); refine wpList_append8 (o := ⟨some 97, _, _, _, _, _⟩) rfl _ _ rfl wo.heap.size _ [] (by rfl) HEO.out _ A2 ML c2 M (by rfl) (HRO.out.alloc (Nat.le_refl _) _) LA.out (by simp) ?_; intro vD wd hoD hgD hqD; clear hqD; rw [List.nil_append] at hoD; have eD : Below wo.heap.size wo wd := ((Below.refl _ wo).alloc (Nat.le_refl _) (.cells #[] 5)).grown hgD (by simp) HEO.out.lt; obtain ⟨gd, cd, rfl, _, _, hgbD, hglD, _⟩ := hoD.formG HL.out (by omega); have HOD := Lib.hid hoD; have ED := Lib.hid eD; have GBD := Lib.hid hgbD; have GLD := Lib.hid hglD; have HBD := Lib.hid (HBO.out.trans (eD.mono HBO.out.size)); have HRD := Lib.hid ((HRO.out.below eD).more eD.size); have kd : wd.cell? ⟨gd, 20, none⟩ = some (.int .u8 64) := HOD.out.byte H20.out; clear hoD hgD eD hgbD hglD)
                | ((with_reducible show wpList _ _ _ (⟨none, .store 5 (.tmp 103) _, _, _, _, _⟩ :: _) _ _); refine wpList_storeOG rfl (.tmp 103) _ rfl gd 20 (by rfl) (96 : UInt8) 96 (by rfl) (by rfl) M ML cd wo.heap.size HL.out HOD.out (by omega) ?_; intro we hs hgs; have HOE := Lib.hid hs; have EE := Lib.hid (ED.out.trans (gb_to_below hgs GBD.out ED.out.size)); have HBE := Lib.hid (HBO.out.trans (EE.out.mono HBO.out.size)); have HRE := Lib.hid ((HRO.out.below EE.out).more EE.out.size); have HEE := Lib.hid (empty8 (base := we.heap.size) we (Nat.le_refl _)); have GDE := Lib.hid (show gd < we.heap.size from Nat.lt_of_lt_of_le GLD.out hgs.size); clear kd; clear hs hgs)
                | ((with_reducible show wpList _ _ _ (⟨some 106, _, _, _, _, _⟩ :: _) _ _); refine wpList_append8 (o := ⟨some 106, _, _, _, _, _⟩) rfl _ _ rfl we.heap.size _ [] (by rfl) HEE.out _ A2 ML c2 M (by rfl) (HRE.out.alloc (Nat.le_refl _) _) LA.out (by simp) ?_; intro vG wg hoG hgG hqG; clear hqG; rw [List.nil_append] at hoG; have eG : Below we.heap.size we wg := ((Below.refl _ we).alloc (Nat.le_refl _) (.cells #[] 5)).grown hgG (by simp) HEE.out.lt; obtain ⟨gg, cg, rfl, _, _, hgbG, hglG, _⟩ := hoG.formG HL.out (by omega); have HOG := Lib.hid hoG; have EG := Lib.hid eG; have GBG := Lib.hid hgbG; have GLG := Lib.hid hglG; have HBG := Lib.hid (HBE.out.trans (eG.mono HBE.out.size)); have HRG := Lib.hid ((HRE.out.below eG).more eG.size); have kg : wg.cell? ⟨gg, 22, none⟩ = some (.int .u8 64) := HOG.out.byte H22.out; have HOE2 := Lib.hid (HOE.out.below EG.out); clear hoG hgG eG hgbG hglG)
                | ((with_reducible show wpList _ _ _ (⟨none, .store 5 (.tmp 114) _, _, _, _, _⟩ :: _) _ _); refine wpList_storeOG rfl (.tmp 114) _ rfl gg 22 (by rfl) (UInt8.ofNat YY) (YY : Int) HYB.out (by rfl) M ML cg we.heap.size HL.out HOG.out (by omega) ?_; intro wh hs hgs; have HOH := Lib.hid hs; have HOE3 := Lib.hid (HOE2.out.kept hgs (.inr (fun e => Nat.not_le_of_lt (World.ownsRow.lt HOE.out gg e).2 GBG.out))); have HBH := Lib.hid (HBG.out.trans (gb_to_below hgs (Nat.le_trans HBE.out.size GBG.out) HBG.out.size)); clear kg; clear hs hgs))
              refine (mend_any HOE3.out HLD.out hM34 (by omega)).mono ?_
              rintro e wi ⟨rfl, hom, hgm⟩
              have HOH2 := Lib.hid (own_kept HOH.out hgm GDE.out)
              have HBI := Lib.hid (HBH.out.grown hgm HBH.out.size (fun k hk => by cases hk; exact Nat.le_trans HBO.out.size GBD.out))
              obtain ⟨hcd, hmd, hrm⟩ := hom.rdN' HLD2.out
              have RR := Lib.hid (pread_as RF.out (by omega) hcd hmd hrm)
              clear hom hgm hrm
              go_wp2_with fail
              refine RR.out.mono ?_
              rintro e wj ⟨rfl, hbj⟩
              have HBJ := Lib.hid (HBI.out.trans (hbj.mono HBI.out.size))
              obtain ⟨hcg, hmg, hrg⟩ := (HOH2.out.below hbj).rdN' HLG.out
              have RR2 := Lib.hid (pread_as RG.out (by omega) hcg hmg hrg)
              clear hbj hrg
              have f4 := fun W => field_kind (kindK 4) W
              have f3 := fun W => field_kind (kindK 3) W
              change ∀ W : World, (Instr.field 30 (pkC (kindK 4)) 0).run Try.prog W = .ok (.int .i64 4) W at f4
              change ∀ W : World, (Instr.field 30 (pkC (kindK 3)) 0).run Try.prog W = .ok (.int .i64 3) W at f3
              go_wp2_with fail
              refine RR2.out.mono ?_
              rintro e wk ⟨rfl, hbk⟩
              go_wp2_with fail
              go_ret
              exact ⟨rfl, HBJ.out.trans (hbk.mono HBJ.out.size)⟩
        · by_cases k2 : kn = 33024
          · have k0a : ((kn : Int) != 2048) = true := by simp; omega
            have k0b : (kn != 2048) = true := by simp; omega
            have k1a : ((kn : Int) != 34525) = true := by simp; omega
            have k1b : (kn != 34525) = true := by simp; omega
            have k2a : ((kn : Int) != 33024) = false := by simp; omega
            have k2b : (kn != 33024) = false := by simp; omega
            clear k0 k1 k2
            by_cases p6 : pn = 6
            · have p6a : ((pn : Int) != 6) = false := by simp; omega
              have p6b : (pn != 6) = false := by simp; omega
              clear p6
              go_wp2_with (first
                | ((with_reducible show wpList _ _ _ (⟨some 46, _, _, _, _, _⟩ :: _) _ _); refine wpList_append8 (o := ⟨some 46, _, _, _, _, _⟩) rfl _ _ rfl w2.heap.size _ [] (by rfl) HE2.out _ A2 ML c2 M (by rfl) (HR2.out.alloc (Nat.le_refl _) _) LA.out (by simp) ?_; intro vA wp hoA hgA hqA; clear hqA; rw [List.nil_append] at hoA; have eA : Below w2.heap.size w2 wp := ((Below.refl _ w2).alloc (Nat.le_refl _) (.cells #[] 5)).grown hgA (by simp) HE2.out.lt; obtain ⟨ga, ca, rfl, _, _, hgbA, hglA, _⟩ := hoA.formG HL.out (by omega); have HOA := Lib.hid hoA; have EA := Lib.hid eA; have GBA := Lib.hid hgbA; have GLA := Lib.hid hglA; have HBA := Lib.hid (HB2.out.trans (eA.mono HB2.out.size)); have HRA := Lib.hid ((HR2.out.below eA).more eA.size); clear hoA hgA eA hgbA hglA)
                | ((with_reducible show wpList _ _ _ (⟨none, .store 5 (.tmp 51) _, _, _, _, _⟩ :: _) _ _); refine wpList_storeOG rfl (.tmp 51) _ rfl ga 12 (by rfl) (UInt8.ofNat (kn / 256)) ((kn : Int) / 256) HHI.out (by rfl) M ML ca w2.heap.size HL.out HOA.out (by omega) ?_; intro wq hs hgs; have HOQ := Lib.hid hs; have EQ1 := Lib.hid (EA.out.trans (gb_to_below hgs GBA.out EA.out.size)); clear hs hgs)
                | ((with_reducible show wpList _ _ _ (⟨none, .store 5 (.tmp 55) _, _, _, _, _⟩ :: _) _ _); refine wpList_storeOG rfl (.tmp 55) _ rfl ga 13 (by rfl) (UInt8.ofNat (kn % 256)) ((kn : Int) % 256) HLO.out (by rfl) (M.set 12 (UInt8.ofNat (kn / 256))) ML ca w2.heap.size HL1.out HOQ.out (by omega) ?_; intro wr hs hgs; have HOR := Lib.hid hs; have ER := Lib.hid (EQ1.out.trans (gb_to_below hgs GBA.out EQ1.out.size)); have HBR := Lib.hid (HB2.out.trans (ER.out.mono HB2.out.size)); have HRR := Lib.hid ((HR2.out.below ER.out).more ER.out.size); have HER := Lib.hid (empty8 (base := wr.heap.size) wr (Nat.le_refl _)); clear hs hgs)
                | ((with_reducible show wpList _ _ _ (⟨some 78, _, _, _, _, _⟩ :: _) _ _); refine wpList_append8 (o := ⟨some 78, _, _, _, _, _⟩) rfl _ _ rfl wr.heap.size _ [] (by rfl) HER.out _ A2 ML c2 M (by rfl) (HRR.out.alloc (Nat.le_refl _) _) LA.out (by simp) ?_; intro vC wc hoC hgC hqC; clear hqC; rw [List.nil_append] at hoC; have eC : Below wr.heap.size wr wc := ((Below.refl _ wr).alloc (Nat.le_refl _) (.cells #[] 5)).grown hgC (by simp) HER.out.lt; obtain ⟨gc, cc, rfl, _, _, hgbC, hglC, _⟩ := hoC.formG HL.out (by omega); have HOC := Lib.hid hoC; have EC := Lib.hid eC; have GBC := Lib.hid hgbC; have GLC := Lib.hid hglC; have HBC := Lib.hid (HBR.out.trans (eC.mono HBR.out.size)); have HRC := Lib.hid ((HRR.out.below eC).more eC.size); clear hoC hgC eC hgbC hglC)
                | ((with_reducible show wpList _ _ _ (⟨none, .store 5 (.tmp 81) _, _, _, _, _⟩ :: _) _ _); refine wpList_storeOG rfl (.tmp 81) _ rfl gc 23 (by rfl) (UInt8.ofNat pn) (pn : Int) HPB.out (by rfl) M ML cc wr.heap.size HL.out HOC.out (by omega) ?_; intro wm hs hgs; have HOM := Lib.hid hs; have EM := Lib.hid (EC.out.trans (gb_to_below hgs GBC.out EC.out.size)); have HBM := Lib.hid (HBR.out.trans (EM.out.mono HBR.out.size)); have HRM := Lib.hid ((HRR.out.below EM.out).more EM.out.size); have HEM := Lib.hid (empty8 (base := wm.heap.size) wm (Nat.le_refl _)); clear hs hgs)
                | ((with_reducible show wpList _ _ _ (⟨some 97, _, _, _, _, _⟩ :: _) _ _); refine wpList_append8 (o := ⟨some 97, _, _, _, _, _⟩) rfl _ _ rfl wm.heap.size _ [] (by rfl) HEM.out _ A2 ML c2 M (by rfl) (HRM.out.alloc (Nat.le_refl _) _) LA.out (by simp) ?_; intro vD wd hoD hgD hqD; clear hqD; rw [List.nil_append] at hoD; have eD : Below wm.heap.size wm wd := ((Below.refl _ wm).alloc (Nat.le_refl _) (.cells #[] 5)).grown hgD (by simp) HEM.out.lt; obtain ⟨gd, cd, rfl, _, _, hgbD, hglD, _⟩ := hoD.formG HL.out (by omega); have HOD := Lib.hid hoD; have ED := Lib.hid eD; have GBD := Lib.hid hgbD; have GLD := Lib.hid hglD; have HBD := Lib.hid (HBM.out.trans (eD.mono HBM.out.size)); have HRD := Lib.hid ((HRM.out.below eD).more eD.size); have kd : wd.cell? ⟨gd, 20, none⟩ = some (.int .u8 64) := HOD.out.byte H20.out; clear hoD hgD eD hgbD hglD)
                | ((with_reducible show wpList _ _ _ (⟨none, .store 5 (.tmp 103) _, _, _, _, _⟩ :: _) _ _); refine wpList_storeOG rfl (.tmp 103) _ rfl gd 20 (by rfl) (96 : UInt8) 96 (by rfl) (by rfl) M ML cd wm.heap.size HL.out HOD.out (by omega) ?_; intro we hs hgs; have HOE := Lib.hid hs; have EE := Lib.hid (ED.out.trans (gb_to_below hgs GBD.out ED.out.size)); have HBE := Lib.hid (HBM.out.trans (EE.out.mono HBM.out.size)); have HRE := Lib.hid ((HRM.out.below EE.out).more EE.out.size); have HEE := Lib.hid (empty8 (base := we.heap.size) we (Nat.le_refl _)); have GDE := Lib.hid (show gd < we.heap.size from Nat.lt_of_lt_of_le GLD.out hgs.size); clear kd; clear hs hgs)
                | ((with_reducible show wpList _ _ _ (⟨some 106, _, _, _, _, _⟩ :: _) _ _); refine wpList_append8 (o := ⟨some 106, _, _, _, _, _⟩) rfl _ _ rfl we.heap.size _ [] (by rfl) HEE.out _ A2 ML c2 M (by rfl) (HRE.out.alloc (Nat.le_refl _) _) LA.out (by simp) ?_; intro vG wg hoG hgG hqG; clear hqG; rw [List.nil_append] at hoG; have eG : Below we.heap.size we wg := ((Below.refl _ we).alloc (Nat.le_refl _) (.cells #[] 5)).grown hgG (by simp) HEE.out.lt; obtain ⟨gg, cg, rfl, _, _, hgbG, hglG, _⟩ := hoG.formG HL.out (by omega); have HOG := Lib.hid hoG; have EG := Lib.hid eG; have GBG := Lib.hid hgbG; have GLG := Lib.hid hglG; have HBG := Lib.hid (HBE.out.trans (eG.mono HBE.out.size)); have HRG := Lib.hid ((HRE.out.below eG).more eG.size); have kg : wg.cell? ⟨gg, 22, none⟩ = some (.int .u8 64) := HOG.out.byte H22.out; have HOE2 := Lib.hid (HOE.out.below EG.out); clear hoG hgG eG hgbG hglG)
                | ((with_reducible show wpList _ _ _ (⟨none, .store 5 (.tmp 114) _, _, _, _, _⟩ :: _) _ _); refine wpList_storeOG rfl (.tmp 114) _ rfl gg 22 (by rfl) (UInt8.ofNat YY) (YY : Int) HYB.out (by rfl) M ML cg we.heap.size HL.out HOG.out (by omega) ?_; intro wh hs hgs; have HOH := Lib.hid hs; have HOE3 := Lib.hid (HOE2.out.kept hgs (.inr (fun e => Nat.not_le_of_lt (World.ownsRow.lt HOE.out gg e).2 GBG.out))); have HBH := Lib.hid (HBG.out.trans (gb_to_below hgs (Nat.le_trans HBE.out.size GBG.out) HBG.out.size)); clear kg; clear hs hgs))
              refine (mend_any HOE3.out HLD.out hM34 (by omega)).mono ?_
              rintro e wi ⟨rfl, hom, hgm⟩
              have HOH2 := Lib.hid (own_kept HOH.out hgm GDE.out)
              have HBI := Lib.hid (HBH.out.grown hgm HBH.out.size (fun k hk => by cases hk; exact Nat.le_trans HBM.out.size GBD.out))
              obtain ⟨hcd, hmd, hrm⟩ := hom.rdN' HLD2.out
              have RR := Lib.hid (pread_as RF.out (by omega) hcd hmd hrm)
              clear hom hgm hrm
              go_wp2_with fail
              refine RR.out.mono ?_
              rintro e wj ⟨rfl, hbj⟩
              have HBJ := Lib.hid (HBI.out.trans (hbj.mono HBI.out.size))
              obtain ⟨hcg, hmg, hrg⟩ := (HOH2.out.below hbj).rdN' HLG.out
              have RR2 := Lib.hid (pread_as RG.out (by omega) hcg hmg hrg)
              clear hbj hrg
              have f4 := fun W => field_kind (kindK 4) W
              have f3 := fun W => field_kind (kindK 3) W
              change ∀ W : World, (Instr.field 30 (pkC (kindK 4)) 0).run Try.prog W = .ok (.int .i64 4) W at f4
              change ∀ W : World, (Instr.field 30 (pkC (kindK 3)) 0).run Try.prog W = .ok (.int .i64 3) W at f3
              go_wp2_with fail
              refine RR2.out.mono ?_
              rintro e wk ⟨rfl, hbk⟩
              go_wp2_with fail
              go_ret
              exact ⟨rfl, HBJ.out.trans (hbk.mono HBJ.out.size)⟩
            · by_cases p17 : pn = 17
              · have p6a : ((pn : Int) != 6) = true := by simp; omega
                have p6b : (pn != 6) = true := by simp; omega
                have p17a : ((pn : Int) != 17) = false := by simp; omega
                have p17b : (pn != 17) = false := by simp; omega
                clear p6 p17
                go_wp2_with (first
                  | ((with_reducible show wpList _ _ _ (⟨some 46, _, _, _, _, _⟩ :: _) _ _); refine wpList_append8 (o := ⟨some 46, _, _, _, _, _⟩) rfl _ _ rfl w2.heap.size _ [] (by rfl) HE2.out _ A2 ML c2 M (by rfl) (HR2.out.alloc (Nat.le_refl _) _) LA.out (by simp) ?_; intro vA wp hoA hgA hqA; clear hqA; rw [List.nil_append] at hoA; have eA : Below w2.heap.size w2 wp := ((Below.refl _ w2).alloc (Nat.le_refl _) (.cells #[] 5)).grown hgA (by simp) HE2.out.lt; obtain ⟨ga, ca, rfl, _, _, hgbA, hglA, _⟩ := hoA.formG HL.out (by omega); have HOA := Lib.hid hoA; have EA := Lib.hid eA; have GBA := Lib.hid hgbA; have GLA := Lib.hid hglA; have HBA := Lib.hid (HB2.out.trans (eA.mono HB2.out.size)); have HRA := Lib.hid ((HR2.out.below eA).more eA.size); clear hoA hgA eA hgbA hglA)
                  | ((with_reducible show wpList _ _ _ (⟨none, .store 5 (.tmp 51) _, _, _, _, _⟩ :: _) _ _); refine wpList_storeOG rfl (.tmp 51) _ rfl ga 12 (by rfl) (UInt8.ofNat (kn / 256)) ((kn : Int) / 256) HHI.out (by rfl) M ML ca w2.heap.size HL.out HOA.out (by omega) ?_; intro wq hs hgs; have HOQ := Lib.hid hs; have EQ1 := Lib.hid (EA.out.trans (gb_to_below hgs GBA.out EA.out.size)); clear hs hgs)
                  | ((with_reducible show wpList _ _ _ (⟨none, .store 5 (.tmp 55) _, _, _, _, _⟩ :: _) _ _); refine wpList_storeOG rfl (.tmp 55) _ rfl ga 13 (by rfl) (UInt8.ofNat (kn % 256)) ((kn : Int) % 256) HLO.out (by rfl) (M.set 12 (UInt8.ofNat (kn / 256))) ML ca w2.heap.size HL1.out HOQ.out (by omega) ?_; intro wr hs hgs; have HOR := Lib.hid hs; have ER := Lib.hid (EQ1.out.trans (gb_to_below hgs GBA.out EQ1.out.size)); have HBR := Lib.hid (HB2.out.trans (ER.out.mono HB2.out.size)); have HRR := Lib.hid ((HR2.out.below ER.out).more ER.out.size); have HER := Lib.hid (empty8 (base := wr.heap.size) wr (Nat.le_refl _)); clear hs hgs)
                  | ((with_reducible show wpList _ _ _ (⟨some 78, _, _, _, _, _⟩ :: _) _ _); refine wpList_append8 (o := ⟨some 78, _, _, _, _, _⟩) rfl _ _ rfl wr.heap.size _ [] (by rfl) HER.out _ A2 ML c2 M (by rfl) (HRR.out.alloc (Nat.le_refl _) _) LA.out (by simp) ?_; intro vC wc hoC hgC hqC; clear hqC; rw [List.nil_append] at hoC; have eC : Below wr.heap.size wr wc := ((Below.refl _ wr).alloc (Nat.le_refl _) (.cells #[] 5)).grown hgC (by simp) HER.out.lt; obtain ⟨gc, cc, rfl, _, _, hgbC, hglC, _⟩ := hoC.formG HL.out (by omega); have HOC := Lib.hid hoC; have EC := Lib.hid eC; have GBC := Lib.hid hgbC; have GLC := Lib.hid hglC; have HBC := Lib.hid (HBR.out.trans (eC.mono HBR.out.size)); have HRC := Lib.hid ((HRR.out.below eC).more eC.size); clear hoC hgC eC hgbC hglC)
                  | ((with_reducible show wpList _ _ _ (⟨none, .store 5 (.tmp 81) _, _, _, _, _⟩ :: _) _ _); refine wpList_storeOG rfl (.tmp 81) _ rfl gc 23 (by rfl) (UInt8.ofNat pn) (pn : Int) HPB.out (by rfl) M ML cc wr.heap.size HL.out HOC.out (by omega) ?_; intro wm hs hgs; have HOM := Lib.hid hs; have EM := Lib.hid (EC.out.trans (gb_to_below hgs GBC.out EC.out.size)); have HBM := Lib.hid (HBR.out.trans (EM.out.mono HBR.out.size)); have HRM := Lib.hid ((HRR.out.below EM.out).more EM.out.size); have HEM := Lib.hid (empty8 (base := wm.heap.size) wm (Nat.le_refl _)); clear hs hgs)
                  | ((with_reducible show wpList _ _ _ (⟨some 97, _, _, _, _, _⟩ :: _) _ _); refine wpList_append8 (o := ⟨some 97, _, _, _, _, _⟩) rfl _ _ rfl wm.heap.size _ [] (by rfl) HEM.out _ A2 ML c2 M (by rfl) (HRM.out.alloc (Nat.le_refl _) _) LA.out (by simp) ?_; intro vD wd hoD hgD hqD; clear hqD; rw [List.nil_append] at hoD; have eD : Below wm.heap.size wm wd := ((Below.refl _ wm).alloc (Nat.le_refl _) (.cells #[] 5)).grown hgD (by simp) HEM.out.lt; obtain ⟨gd, cd, rfl, _, _, hgbD, hglD, _⟩ := hoD.formG HL.out (by omega); have HOD := Lib.hid hoD; have ED := Lib.hid eD; have GBD := Lib.hid hgbD; have GLD := Lib.hid hglD; have HBD := Lib.hid (HBM.out.trans (eD.mono HBM.out.size)); have HRD := Lib.hid ((HRM.out.below eD).more eD.size); have kd : wd.cell? ⟨gd, 20, none⟩ = some (.int .u8 64) := HOD.out.byte H20.out; clear hoD hgD eD hgbD hglD)
                  | ((with_reducible show wpList _ _ _ (⟨none, .store 5 (.tmp 103) _, _, _, _, _⟩ :: _) _ _); refine wpList_storeOG rfl (.tmp 103) _ rfl gd 20 (by rfl) (96 : UInt8) 96 (by rfl) (by rfl) M ML cd wm.heap.size HL.out HOD.out (by omega) ?_; intro we hs hgs; have HOE := Lib.hid hs; have EE := Lib.hid (ED.out.trans (gb_to_below hgs GBD.out ED.out.size)); have HBE := Lib.hid (HBM.out.trans (EE.out.mono HBM.out.size)); have HRE := Lib.hid ((HRM.out.below EE.out).more EE.out.size); have HEE := Lib.hid (empty8 (base := we.heap.size) we (Nat.le_refl _)); have GDE := Lib.hid (show gd < we.heap.size from Nat.lt_of_lt_of_le GLD.out hgs.size); clear kd; clear hs hgs)
                  | ((with_reducible show wpList _ _ _ (⟨some 106, _, _, _, _, _⟩ :: _) _ _); refine wpList_append8 (o := ⟨some 106, _, _, _, _, _⟩) rfl _ _ rfl we.heap.size _ [] (by rfl) HEE.out _ A2 ML c2 M (by rfl) (HRE.out.alloc (Nat.le_refl _) _) LA.out (by simp) ?_; intro vG wg hoG hgG hqG; clear hqG; rw [List.nil_append] at hoG; have eG : Below we.heap.size we wg := ((Below.refl _ we).alloc (Nat.le_refl _) (.cells #[] 5)).grown hgG (by simp) HEE.out.lt; obtain ⟨gg, cg, rfl, _, _, hgbG, hglG, _⟩ := hoG.formG HL.out (by omega); have HOG := Lib.hid hoG; have EG := Lib.hid eG; have GBG := Lib.hid hgbG; have GLG := Lib.hid hglG; have HBG := Lib.hid (HBE.out.trans (eG.mono HBE.out.size)); have HRG := Lib.hid ((HRE.out.below eG).more eG.size); have kg : wg.cell? ⟨gg, 22, none⟩ = some (.int .u8 64) := HOG.out.byte H22.out; have HOE2 := Lib.hid (HOE.out.below EG.out); clear hoG hgG eG hgbG hglG)
                  | ((with_reducible show wpList _ _ _ (⟨none, .store 5 (.tmp 114) _, _, _, _, _⟩ :: _) _ _); refine wpList_storeOG rfl (.tmp 114) _ rfl gg 22 (by rfl) (UInt8.ofNat YY) (YY : Int) HYB.out (by rfl) M ML cg we.heap.size HL.out HOG.out (by omega) ?_; intro wh hs hgs; have HOH := Lib.hid hs; have HOE3 := Lib.hid (HOE2.out.kept hgs (.inr (fun e => Nat.not_le_of_lt (World.ownsRow.lt HOE.out gg e).2 GBG.out))); have HBH := Lib.hid (HBG.out.trans (gb_to_below hgs (Nat.le_trans HBE.out.size GBG.out) HBG.out.size)); clear kg; clear hs hgs))
                refine (mend_any HOE3.out HLD.out hM34 (by omega)).mono ?_
                rintro e wi ⟨rfl, hom, hgm⟩
                have HOH2 := Lib.hid (own_kept HOH.out hgm GDE.out)
                have HBI := Lib.hid (HBH.out.grown hgm HBH.out.size (fun k hk => by cases hk; exact Nat.le_trans HBM.out.size GBD.out))
                obtain ⟨hcd, hmd, hrm⟩ := hom.rdN' HLD2.out
                have RR := Lib.hid (pread_as RF.out (by omega) hcd hmd hrm)
                clear hom hgm hrm
                go_wp2_with fail
                refine RR.out.mono ?_
                rintro e wj ⟨rfl, hbj⟩
                have HBJ := Lib.hid (HBI.out.trans (hbj.mono HBI.out.size))
                obtain ⟨hcg, hmg, hrg⟩ := (HOH2.out.below hbj).rdN' HLG.out
                have RR2 := Lib.hid (pread_as RG.out (by omega) hcg hmg hrg)
                clear hbj hrg
                have f4 := fun W => field_kind (kindK 4) W
                have f3 := fun W => field_kind (kindK 3) W
                change ∀ W : World, (Instr.field 30 (pkC (kindK 4)) 0).run Try.prog W = .ok (.int .i64 4) W at f4
                change ∀ W : World, (Instr.field 30 (pkC (kindK 3)) 0).run Try.prog W = .ok (.int .i64 3) W at f3
                go_wp2_with fail
                refine RR2.out.mono ?_
                rintro e wk ⟨rfl, hbk⟩
                go_wp2_with fail
                go_ret
                exact ⟨rfl, HBJ.out.trans (hbk.mono HBJ.out.size)⟩
              · have p6a : ((pn : Int) != 6) = true := by simp; omega
                have p6b : (pn != 6) = true := by simp; omega
                have p17a : ((pn : Int) != 17) = true := by simp; omega
                have p17b : (pn != 17) = true := by simp; omega
                have HRCX := Lib.hid (RC.out p6 p17)
                clear p6 p17
                go_wp2_with (first
                  | ((with_reducible show wpList _ _ _ (⟨some 46, _, _, _, _, _⟩ :: _) _ _); refine wpList_append8 (o := ⟨some 46, _, _, _, _, _⟩) rfl _ _ rfl w2.heap.size _ [] (by rfl) HE2.out _ A2 ML c2 M (by rfl) (HR2.out.alloc (Nat.le_refl _) _) LA.out (by simp) ?_; intro vA wp hoA hgA hqA; clear hqA; rw [List.nil_append] at hoA; have eA : Below w2.heap.size w2 wp := ((Below.refl _ w2).alloc (Nat.le_refl _) (.cells #[] 5)).grown hgA (by simp) HE2.out.lt; obtain ⟨ga, ca, rfl, _, _, hgbA, hglA, _⟩ := hoA.formG HL.out (by omega); have HOA := Lib.hid hoA; have EA := Lib.hid eA; have GBA := Lib.hid hgbA; have GLA := Lib.hid hglA; have HBA := Lib.hid (HB2.out.trans (eA.mono HB2.out.size)); have HRA := Lib.hid ((HR2.out.below eA).more eA.size); clear hoA hgA eA hgbA hglA)
                  | ((with_reducible show wpList _ _ _ (⟨none, .store 5 (.tmp 51) _, _, _, _, _⟩ :: _) _ _); refine wpList_storeOG rfl (.tmp 51) _ rfl ga 12 (by rfl) (UInt8.ofNat (kn / 256)) ((kn : Int) / 256) HHI.out (by rfl) M ML ca w2.heap.size HL.out HOA.out (by omega) ?_; intro wq hs hgs; have HOQ := Lib.hid hs; have EQ1 := Lib.hid (EA.out.trans (gb_to_below hgs GBA.out EA.out.size)); clear hs hgs)
                  | ((with_reducible show wpList _ _ _ (⟨none, .store 5 (.tmp 55) _, _, _, _, _⟩ :: _) _ _); refine wpList_storeOG rfl (.tmp 55) _ rfl ga 13 (by rfl) (UInt8.ofNat (kn % 256)) ((kn : Int) % 256) HLO.out (by rfl) (M.set 12 (UInt8.ofNat (kn / 256))) ML ca w2.heap.size HL1.out HOQ.out (by omega) ?_; intro wr hs hgs; have HOR := Lib.hid hs; have ER := Lib.hid (EQ1.out.trans (gb_to_below hgs GBA.out EQ1.out.size)); have HBR := Lib.hid (HB2.out.trans (ER.out.mono HB2.out.size)); have HRR := Lib.hid ((HR2.out.below ER.out).more ER.out.size); have HER := Lib.hid (empty8 (base := wr.heap.size) wr (Nat.le_refl _)); clear hs hgs)
                  | ((with_reducible show wpList _ _ _ (⟨some 78, _, _, _, _, _⟩ :: _) _ _); refine wpList_append8 (o := ⟨some 78, _, _, _, _, _⟩) rfl _ _ rfl wr.heap.size _ [] (by rfl) HER.out _ A2 ML c2 M (by rfl) (HRR.out.alloc (Nat.le_refl _) _) LA.out (by simp) ?_; intro vC wc hoC hgC hqC; clear hqC; rw [List.nil_append] at hoC; have eC : Below wr.heap.size wr wc := ((Below.refl _ wr).alloc (Nat.le_refl _) (.cells #[] 5)).grown hgC (by simp) HER.out.lt; obtain ⟨gc, cc, rfl, _, _, hgbC, hglC, _⟩ := hoC.formG HL.out (by omega); have HOC := Lib.hid hoC; have EC := Lib.hid eC; have GBC := Lib.hid hgbC; have GLC := Lib.hid hglC; have HBC := Lib.hid (HBR.out.trans (eC.mono HBR.out.size)); have HRC := Lib.hid ((HRR.out.below eC).more eC.size); clear hoC hgC eC hgbC hglC)
                  | ((with_reducible show wpList _ _ _ (⟨none, .store 5 (.tmp 81) _, _, _, _, _⟩ :: _) _ _); refine wpList_storeOG rfl (.tmp 81) _ rfl gc 23 (by rfl) (UInt8.ofNat pn) (pn : Int) HPB.out (by rfl) M ML cc wr.heap.size HL.out HOC.out (by omega) ?_; intro wm hs hgs; have HOM := Lib.hid hs; have EM := Lib.hid (EC.out.trans (gb_to_below hgs GBC.out EC.out.size)); have HBM := Lib.hid (HBR.out.trans (EM.out.mono HBR.out.size)); have HRM := Lib.hid ((HRR.out.below EM.out).more EM.out.size); have HEM := Lib.hid (empty8 (base := wm.heap.size) wm (Nat.le_refl _)); clear hs hgs))
                refine (mend_any HOM.out HLC.out hM34 (by omega)).mono ?_
                rintro e wn ⟨rfl, hom, hgm⟩
                have EN := Lib.hid (EM.out.trans (gb_to_below hgm GBC.out EM.out.size))
                obtain ⟨hcc, hmc, hrm⟩ := hom.rdN' HLC2.out
                have RR := Lib.hid (pread_as HRCX.out (by omega) hcc hmc hrm)
                clear hom hgm hrm
                go_wp2_with fail
                refine RR.out.mono ?_
                rintro e wo ⟨rfl, hbo⟩
                have EO := Lib.hid (EN.out.trans (hbo.mono EN.out.size))
                have HBO := Lib.hid (HBR.out.trans (EO.out.mono HBR.out.size))
                have HRO := Lib.hid ((HRR.out.below EO.out).more EO.out.size)
                have HEO := Lib.hid (empty8 (base := wo.heap.size) wo (Nat.le_refl _))
                clear hbo
                have f5 : ∀ W : World, (Instr.field 30 (pkC (kindK 5)) 0).run Try.prog W = .ok (.int .i64 5) W := fun W => field_kind (kindK 5) W
                go_wp2_with (first
                  | ((with_reducible show wpList _ _ _ (⟨some 97, _, _, _, _, _⟩ :: _) _ _); refine wpList_append8 (o := ⟨some 97, _, _, _, _, _⟩) rfl _ _ rfl wo.heap.size _ [] (by rfl) HEO.out _ A2 ML c2 M (by rfl) (HRO.out.alloc (Nat.le_refl _) _) LA.out (by simp) ?_; intro vD wd hoD hgD hqD; clear hqD; rw [List.nil_append] at hoD; have eD : Below wo.heap.size wo wd := ((Below.refl _ wo).alloc (Nat.le_refl _) (.cells #[] 5)).grown hgD (by simp) HEO.out.lt; obtain ⟨gd, cd, rfl, _, _, hgbD, hglD, _⟩ := hoD.formG HL.out (by omega); have HOD := Lib.hid hoD; have ED := Lib.hid eD; have GBD := Lib.hid hgbD; have GLD := Lib.hid hglD; have HBD := Lib.hid (HBO.out.trans (eD.mono HBO.out.size)); have HRD := Lib.hid ((HRO.out.below eD).more eD.size); have kd : wd.cell? ⟨gd, 20, none⟩ = some (.int .u8 64) := HOD.out.byte H20.out; clear hoD hgD eD hgbD hglD)
                  | ((with_reducible show wpList _ _ _ (⟨none, .store 5 (.tmp 103) _, _, _, _, _⟩ :: _) _ _); refine wpList_storeOG rfl (.tmp 103) _ rfl gd 20 (by rfl) (96 : UInt8) 96 (by rfl) (by rfl) M ML cd wo.heap.size HL.out HOD.out (by omega) ?_; intro we hs hgs; have HOE := Lib.hid hs; have EE := Lib.hid (ED.out.trans (gb_to_below hgs GBD.out ED.out.size)); have HBE := Lib.hid (HBO.out.trans (EE.out.mono HBO.out.size)); have HRE := Lib.hid ((HRO.out.below EE.out).more EE.out.size); have HEE := Lib.hid (empty8 (base := we.heap.size) we (Nat.le_refl _)); have GDE := Lib.hid (show gd < we.heap.size from Nat.lt_of_lt_of_le GLD.out hgs.size); clear kd; clear hs hgs)
                  | ((with_reducible show wpList _ _ _ (⟨some 106, _, _, _, _, _⟩ :: _) _ _); refine wpList_append8 (o := ⟨some 106, _, _, _, _, _⟩) rfl _ _ rfl we.heap.size _ [] (by rfl) HEE.out _ A2 ML c2 M (by rfl) (HRE.out.alloc (Nat.le_refl _) _) LA.out (by simp) ?_; intro vG wg hoG hgG hqG; clear hqG; rw [List.nil_append] at hoG; have eG : Below we.heap.size we wg := ((Below.refl _ we).alloc (Nat.le_refl _) (.cells #[] 5)).grown hgG (by simp) HEE.out.lt; obtain ⟨gg, cg, rfl, _, _, hgbG, hglG, _⟩ := hoG.formG HL.out (by omega); have HOG := Lib.hid hoG; have EG := Lib.hid eG; have GBG := Lib.hid hgbG; have GLG := Lib.hid hglG; have HBG := Lib.hid (HBE.out.trans (eG.mono HBE.out.size)); have HRG := Lib.hid ((HRE.out.below eG).more eG.size); have kg : wg.cell? ⟨gg, 22, none⟩ = some (.int .u8 64) := HOG.out.byte H22.out; have HOE2 := Lib.hid (HOE.out.below EG.out); clear hoG hgG eG hgbG hglG)
                  | ((with_reducible show wpList _ _ _ (⟨none, .store 5 (.tmp 114) _, _, _, _, _⟩ :: _) _ _); refine wpList_storeOG rfl (.tmp 114) _ rfl gg 22 (by rfl) (UInt8.ofNat YY) (YY : Int) HYB.out (by rfl) M ML cg we.heap.size HL.out HOG.out (by omega) ?_; intro wh hs hgs; have HOH := Lib.hid hs; have HOE3 := Lib.hid (HOE2.out.kept hgs (.inr (fun e => Nat.not_le_of_lt (World.ownsRow.lt HOE.out gg e).2 GBG.out))); have HBH := Lib.hid (HBG.out.trans (gb_to_below hgs (Nat.le_trans HBE.out.size GBG.out) HBG.out.size)); clear kg; clear hs hgs))
                refine (mend_any HOE3.out HLD.out hM34 (by omega)).mono ?_
                rintro e wi ⟨rfl, hom, hgm⟩
                have HOH2 := Lib.hid (own_kept HOH.out hgm GDE.out)
                have HBI := Lib.hid (HBH.out.grown hgm HBH.out.size (fun k hk => by cases hk; exact Nat.le_trans HBO.out.size GBD.out))
                obtain ⟨hcd, hmd, hrm⟩ := hom.rdN' HLD2.out
                have RR := Lib.hid (pread_as RF.out (by omega) hcd hmd hrm)
                clear hom hgm hrm
                go_wp2_with fail
                refine RR.out.mono ?_
                rintro e wj ⟨rfl, hbj⟩
                have HBJ := Lib.hid (HBI.out.trans (hbj.mono HBI.out.size))
                obtain ⟨hcg, hmg, hrg⟩ := (HOH2.out.below hbj).rdN' HLG.out
                have RR2 := Lib.hid (pread_as RG.out (by omega) hcg hmg hrg)
                clear hbj hrg
                have f4 := fun W => field_kind (kindK 4) W
                have f3 := fun W => field_kind (kindK 3) W
                change ∀ W : World, (Instr.field 30 (pkC (kindK 4)) 0).run Try.prog W = .ok (.int .i64 4) W at f4
                change ∀ W : World, (Instr.field 30 (pkC (kindK 3)) 0).run Try.prog W = .ok (.int .i64 3) W at f3
                go_wp2_with fail
                refine RR2.out.mono ?_
                rintro e wk ⟨rfl, hbk⟩
                go_wp2_with fail
                go_ret
                exact ⟨rfl, HBJ.out.trans (hbk.mono HBJ.out.size)⟩
          · by_cases k3 : kn = 34984
            · have k0a : ((kn : Int) != 2048) = true := by simp; omega
              have k0b : (kn != 2048) = true := by simp; omega
              have k1a : ((kn : Int) != 34525) = true := by simp; omega
              have k1b : (kn != 34525) = true := by simp; omega
              have k2a : ((kn : Int) != 33024) = true := by simp; omega
              have k2b : (kn != 33024) = true := by simp; omega
              have k3a : ((kn : Int) != 34984) = false := by simp; omega
              have k3b : (kn != 34984) = false := by simp; omega
              clear k0 k1 k2 k3
              by_cases p6 : pn = 6
              · have p6a : ((pn : Int) != 6) = false := by simp; omega
                have p6b : (pn != 6) = false := by simp; omega
                clear p6
                go_wp2_with (first
                  | ((with_reducible show wpList _ _ _ (⟨some 46, _, _, _, _, _⟩ :: _) _ _); refine wpList_append8 (o := ⟨some 46, _, _, _, _, _⟩) rfl _ _ rfl w2.heap.size _ [] (by rfl) HE2.out _ A2 ML c2 M (by rfl) (HR2.out.alloc (Nat.le_refl _) _) LA.out (by simp) ?_; intro vA wp hoA hgA hqA; clear hqA; rw [List.nil_append] at hoA; have eA : Below w2.heap.size w2 wp := ((Below.refl _ w2).alloc (Nat.le_refl _) (.cells #[] 5)).grown hgA (by simp) HE2.out.lt; obtain ⟨ga, ca, rfl, _, _, hgbA, hglA, _⟩ := hoA.formG HL.out (by omega); have HOA := Lib.hid hoA; have EA := Lib.hid eA; have GBA := Lib.hid hgbA; have GLA := Lib.hid hglA; have HBA := Lib.hid (HB2.out.trans (eA.mono HB2.out.size)); have HRA := Lib.hid ((HR2.out.below eA).more eA.size); clear hoA hgA eA hgbA hglA)
                  | ((with_reducible show wpList _ _ _ (⟨none, .store 5 (.tmp 51) _, _, _, _, _⟩ :: _) _ _); refine wpList_storeOG rfl (.tmp 51) _ rfl ga 12 (by rfl) (UInt8.ofNat (kn / 256)) ((kn : Int) / 256) HHI.out (by rfl) M ML ca w2.heap.size HL.out HOA.out (by omega) ?_; intro wq hs hgs; have HOQ := Lib.hid hs; have EQ1 := Lib.hid (EA.out.trans (gb_to_below hgs GBA.out EA.out.size)); clear hs hgs)
                  | ((with_reducible show wpList _ _ _ (⟨none, .store 5 (.tmp 55) _, _, _, _, _⟩ :: _) _ _); refine wpList_storeOG rfl (.tmp 55) _ rfl ga 13 (by rfl) (UInt8.ofNat (kn % 256)) ((kn : Int) % 256) HLO.out (by rfl) (M.set 12 (UInt8.ofNat (kn / 256))) ML ca w2.heap.size HL1.out HOQ.out (by omega) ?_; intro wr hs hgs; have HOR := Lib.hid hs; have ER := Lib.hid (EQ1.out.trans (gb_to_below hgs GBA.out EQ1.out.size)); have HBR := Lib.hid (HB2.out.trans (ER.out.mono HB2.out.size)); have HRR := Lib.hid ((HR2.out.below ER.out).more ER.out.size); have HER := Lib.hid (empty8 (base := wr.heap.size) wr (Nat.le_refl _)); clear hs hgs)
                  | ((with_reducible show wpList _ _ _ (⟨some 78, _, _, _, _, _⟩ :: _) _ _); refine wpList_append8 (o := ⟨some 78, _, _, _, _, _⟩) rfl _ _ rfl wr.heap.size _ [] (by rfl) HER.out _ A2 ML c2 M (by rfl) (HRR.out.alloc (Nat.le_refl _) _) LA.out (by simp) ?_; intro vC wc hoC hgC hqC; clear hqC; rw [List.nil_append] at hoC; have eC : Below wr.heap.size wr wc := ((Below.refl _ wr).alloc (Nat.le_refl _) (.cells #[] 5)).grown hgC (by simp) HER.out.lt; obtain ⟨gc, cc, rfl, _, _, hgbC, hglC, _⟩ := hoC.formG HL.out (by omega); have HOC := Lib.hid hoC; have EC := Lib.hid eC; have GBC := Lib.hid hgbC; have GLC := Lib.hid hglC; have HBC := Lib.hid (HBR.out.trans (eC.mono HBR.out.size)); have HRC := Lib.hid ((HRR.out.below eC).more eC.size); clear hoC hgC eC hgbC hglC)
                  | ((with_reducible show wpList _ _ _ (⟨none, .store 5 (.tmp 81) _, _, _, _, _⟩ :: _) _ _); refine wpList_storeOG rfl (.tmp 81) _ rfl gc 23 (by rfl) (UInt8.ofNat pn) (pn : Int) HPB.out (by rfl) M ML cc wr.heap.size HL.out HOC.out (by omega) ?_; intro wm hs hgs; have HOM := Lib.hid hs; have EM := Lib.hid (EC.out.trans (gb_to_below hgs GBC.out EC.out.size)); have HBM := Lib.hid (HBR.out.trans (EM.out.mono HBR.out.size)); have HRM := Lib.hid ((HRR.out.below EM.out).more EM.out.size); have HEM := Lib.hid (empty8 (base := wm.heap.size) wm (Nat.le_refl _)); clear hs hgs)
                  | ((with_reducible show wpList _ _ _ (⟨some 97, _, _, _, _, _⟩ :: _) _ _); refine wpList_append8 (o := ⟨some 97, _, _, _, _, _⟩) rfl _ _ rfl wm.heap.size _ [] (by rfl) HEM.out _ A2 ML c2 M (by rfl) (HRM.out.alloc (Nat.le_refl _) _) LA.out (by simp) ?_; intro vD wd hoD hgD hqD; clear hqD; rw [List.nil_append] at hoD; have eD : Below wm.heap.size wm wd := ((Below.refl _ wm).alloc (Nat.le_refl _) (.cells #[] 5)).grown hgD (by simp) HEM.out.lt; obtain ⟨gd, cd, rfl, _, _, hgbD, hglD, _⟩ := hoD.formG HL.out (by omega); have HOD := Lib.hid hoD; have ED := Lib.hid eD; have GBD := Lib.hid hgbD; have GLD := Lib.hid hglD; have HBD := Lib.hid (HBM.out.trans (eD.mono HBM.out.size)); have HRD := Lib.hid ((HRM.out.below eD).more eD.size); have kd : wd.cell? ⟨gd, 20, none⟩ = some (.int .u8 64) := HOD.out.byte H20.out; clear hoD hgD eD hgbD hglD)
                  | ((with_reducible show wpList _ _ _ (⟨none, .store 5 (.tmp 103) _, _, _, _, _⟩ :: _) _ _); refine wpList_storeOG rfl (.tmp 103) _ rfl gd 20 (by rfl) (96 : UInt8) 96 (by rfl) (by rfl) M ML cd wm.heap.size HL.out HOD.out (by omega) ?_; intro we hs hgs; have HOE := Lib.hid hs; have EE := Lib.hid (ED.out.trans (gb_to_below hgs GBD.out ED.out.size)); have HBE := Lib.hid (HBM.out.trans (EE.out.mono HBM.out.size)); have HRE := Lib.hid ((HRM.out.below EE.out).more EE.out.size); have HEE := Lib.hid (empty8 (base := we.heap.size) we (Nat.le_refl _)); have GDE := Lib.hid (show gd < we.heap.size from Nat.lt_of_lt_of_le GLD.out hgs.size); clear kd; clear hs hgs)
                  | ((with_reducible show wpList _ _ _ (⟨some 106, _, _, _, _, _⟩ :: _) _ _); refine wpList_append8 (o := ⟨some 106, _, _, _, _, _⟩) rfl _ _ rfl we.heap.size _ [] (by rfl) HEE.out _ A2 ML c2 M (by rfl) (HRE.out.alloc (Nat.le_refl _) _) LA.out (by simp) ?_; intro vG wg hoG hgG hqG; clear hqG; rw [List.nil_append] at hoG; have eG : Below we.heap.size we wg := ((Below.refl _ we).alloc (Nat.le_refl _) (.cells #[] 5)).grown hgG (by simp) HEE.out.lt; obtain ⟨gg, cg, rfl, _, _, hgbG, hglG, _⟩ := hoG.formG HL.out (by omega); have HOG := Lib.hid hoG; have EG := Lib.hid eG; have GBG := Lib.hid hgbG; have GLG := Lib.hid hglG; have HBG := Lib.hid (HBE.out.trans (eG.mono HBE.out.size)); have HRG := Lib.hid ((HRE.out.below eG).more eG.size); have kg : wg.cell? ⟨gg, 22, none⟩ = some (.int .u8 64) := HOG.out.byte H22.out; have HOE2 := Lib.hid (HOE.out.below EG.out); clear hoG hgG eG hgbG hglG)
                  | ((with_reducible show wpList _ _ _ (⟨none, .store 5 (.tmp 114) _, _, _, _, _⟩ :: _) _ _); refine wpList_storeOG rfl (.tmp 114) _ rfl gg 22 (by rfl) (UInt8.ofNat YY) (YY : Int) HYB.out (by rfl) M ML cg we.heap.size HL.out HOG.out (by omega) ?_; intro wh hs hgs; have HOH := Lib.hid hs; have HOE3 := Lib.hid (HOE2.out.kept hgs (.inr (fun e => Nat.not_le_of_lt (World.ownsRow.lt HOE.out gg e).2 GBG.out))); have HBH := Lib.hid (HBG.out.trans (gb_to_below hgs (Nat.le_trans HBE.out.size GBG.out) HBG.out.size)); clear kg; clear hs hgs))
                refine (mend_any HOE3.out HLD.out hM34 (by omega)).mono ?_
                rintro e wi ⟨rfl, hom, hgm⟩
                have HOH2 := Lib.hid (own_kept HOH.out hgm GDE.out)
                have HBI := Lib.hid (HBH.out.grown hgm HBH.out.size (fun k hk => by cases hk; exact Nat.le_trans HBM.out.size GBD.out))
                obtain ⟨hcd, hmd, hrm⟩ := hom.rdN' HLD2.out
                have RR := Lib.hid (pread_as RF.out (by omega) hcd hmd hrm)
                clear hom hgm hrm
                go_wp2_with fail
                refine RR.out.mono ?_
                rintro e wj ⟨rfl, hbj⟩
                have HBJ := Lib.hid (HBI.out.trans (hbj.mono HBI.out.size))
                obtain ⟨hcg, hmg, hrg⟩ := (HOH2.out.below hbj).rdN' HLG.out
                have RR2 := Lib.hid (pread_as RG.out (by omega) hcg hmg hrg)
                clear hbj hrg
                have f4 := fun W => field_kind (kindK 4) W
                have f3 := fun W => field_kind (kindK 3) W
                change ∀ W : World, (Instr.field 30 (pkC (kindK 4)) 0).run Try.prog W = .ok (.int .i64 4) W at f4
                change ∀ W : World, (Instr.field 30 (pkC (kindK 3)) 0).run Try.prog W = .ok (.int .i64 3) W at f3
                go_wp2_with fail
                refine RR2.out.mono ?_
                rintro e wk ⟨rfl, hbk⟩
                go_wp2_with fail
                go_ret
                exact ⟨rfl, HBJ.out.trans (hbk.mono HBJ.out.size)⟩
              · by_cases p17 : pn = 17
                · have p6a : ((pn : Int) != 6) = true := by simp; omega
                  have p6b : (pn != 6) = true := by simp; omega
                  have p17a : ((pn : Int) != 17) = false := by simp; omega
                  have p17b : (pn != 17) = false := by simp; omega
                  clear p6 p17
                  go_wp2_with (first
                    | ((with_reducible show wpList _ _ _ (⟨some 46, _, _, _, _, _⟩ :: _) _ _); refine wpList_append8 (o := ⟨some 46, _, _, _, _, _⟩) rfl _ _ rfl w2.heap.size _ [] (by rfl) HE2.out _ A2 ML c2 M (by rfl) (HR2.out.alloc (Nat.le_refl _) _) LA.out (by simp) ?_; intro vA wp hoA hgA hqA; clear hqA; rw [List.nil_append] at hoA; have eA : Below w2.heap.size w2 wp := ((Below.refl _ w2).alloc (Nat.le_refl _) (.cells #[] 5)).grown hgA (by simp) HE2.out.lt; obtain ⟨ga, ca, rfl, _, _, hgbA, hglA, _⟩ := hoA.formG HL.out (by omega); have HOA := Lib.hid hoA; have EA := Lib.hid eA; have GBA := Lib.hid hgbA; have GLA := Lib.hid hglA; have HBA := Lib.hid (HB2.out.trans (eA.mono HB2.out.size)); have HRA := Lib.hid ((HR2.out.below eA).more eA.size); clear hoA hgA eA hgbA hglA)
                    | ((with_reducible show wpList _ _ _ (⟨none, .store 5 (.tmp 51) _, _, _, _, _⟩ :: _) _ _); refine wpList_storeOG rfl (.tmp 51) _ rfl ga 12 (by rfl) (UInt8.ofNat (kn / 256)) ((kn : Int) / 256) HHI.out (by rfl) M ML ca w2.heap.size HL.out HOA.out (by omega) ?_; intro wq hs hgs; have HOQ := Lib.hid hs; have EQ1 := Lib.hid (EA.out.trans (gb_to_below hgs GBA.out EA.out.size)); clear hs hgs)
                    | ((with_reducible show wpList _ _ _ (⟨none, .store 5 (.tmp 55) _, _, _, _, _⟩ :: _) _ _); refine wpList_storeOG rfl (.tmp 55) _ rfl ga 13 (by rfl) (UInt8.ofNat (kn % 256)) ((kn : Int) % 256) HLO.out (by rfl) (M.set 12 (UInt8.ofNat (kn / 256))) ML ca w2.heap.size HL1.out HOQ.out (by omega) ?_; intro wr hs hgs; have HOR := Lib.hid hs; have ER := Lib.hid (EQ1.out.trans (gb_to_below hgs GBA.out EQ1.out.size)); have HBR := Lib.hid (HB2.out.trans (ER.out.mono HB2.out.size)); have HRR := Lib.hid ((HR2.out.below ER.out).more ER.out.size); have HER := Lib.hid (empty8 (base := wr.heap.size) wr (Nat.le_refl _)); clear hs hgs)
                    | ((with_reducible show wpList _ _ _ (⟨some 78, _, _, _, _, _⟩ :: _) _ _); refine wpList_append8 (o := ⟨some 78, _, _, _, _, _⟩) rfl _ _ rfl wr.heap.size _ [] (by rfl) HER.out _ A2 ML c2 M (by rfl) (HRR.out.alloc (Nat.le_refl _) _) LA.out (by simp) ?_; intro vC wc hoC hgC hqC; clear hqC; rw [List.nil_append] at hoC; have eC : Below wr.heap.size wr wc := ((Below.refl _ wr).alloc (Nat.le_refl _) (.cells #[] 5)).grown hgC (by simp) HER.out.lt; obtain ⟨gc, cc, rfl, _, _, hgbC, hglC, _⟩ := hoC.formG HL.out (by omega); have HOC := Lib.hid hoC; have EC := Lib.hid eC; have GBC := Lib.hid hgbC; have GLC := Lib.hid hglC; have HBC := Lib.hid (HBR.out.trans (eC.mono HBR.out.size)); have HRC := Lib.hid ((HRR.out.below eC).more eC.size); clear hoC hgC eC hgbC hglC)
                    | ((with_reducible show wpList _ _ _ (⟨none, .store 5 (.tmp 81) _, _, _, _, _⟩ :: _) _ _); refine wpList_storeOG rfl (.tmp 81) _ rfl gc 23 (by rfl) (UInt8.ofNat pn) (pn : Int) HPB.out (by rfl) M ML cc wr.heap.size HL.out HOC.out (by omega) ?_; intro wm hs hgs; have HOM := Lib.hid hs; have EM := Lib.hid (EC.out.trans (gb_to_below hgs GBC.out EC.out.size)); have HBM := Lib.hid (HBR.out.trans (EM.out.mono HBR.out.size)); have HRM := Lib.hid ((HRR.out.below EM.out).more EM.out.size); have HEM := Lib.hid (empty8 (base := wm.heap.size) wm (Nat.le_refl _)); clear hs hgs)
                    | ((with_reducible show wpList _ _ _ (⟨some 97, _, _, _, _, _⟩ :: _) _ _); refine wpList_append8 (o := ⟨some 97, _, _, _, _, _⟩) rfl _ _ rfl wm.heap.size _ [] (by rfl) HEM.out _ A2 ML c2 M (by rfl) (HRM.out.alloc (Nat.le_refl _) _) LA.out (by simp) ?_; intro vD wd hoD hgD hqD; clear hqD; rw [List.nil_append] at hoD; have eD : Below wm.heap.size wm wd := ((Below.refl _ wm).alloc (Nat.le_refl _) (.cells #[] 5)).grown hgD (by simp) HEM.out.lt; obtain ⟨gd, cd, rfl, _, _, hgbD, hglD, _⟩ := hoD.formG HL.out (by omega); have HOD := Lib.hid hoD; have ED := Lib.hid eD; have GBD := Lib.hid hgbD; have GLD := Lib.hid hglD; have HBD := Lib.hid (HBM.out.trans (eD.mono HBM.out.size)); have HRD := Lib.hid ((HRM.out.below eD).more eD.size); have kd : wd.cell? ⟨gd, 20, none⟩ = some (.int .u8 64) := HOD.out.byte H20.out; clear hoD hgD eD hgbD hglD)
                    | ((with_reducible show wpList _ _ _ (⟨none, .store 5 (.tmp 103) _, _, _, _, _⟩ :: _) _ _); refine wpList_storeOG rfl (.tmp 103) _ rfl gd 20 (by rfl) (96 : UInt8) 96 (by rfl) (by rfl) M ML cd wm.heap.size HL.out HOD.out (by omega) ?_; intro we hs hgs; have HOE := Lib.hid hs; have EE := Lib.hid (ED.out.trans (gb_to_below hgs GBD.out ED.out.size)); have HBE := Lib.hid (HBM.out.trans (EE.out.mono HBM.out.size)); have HRE := Lib.hid ((HRM.out.below EE.out).more EE.out.size); have HEE := Lib.hid (empty8 (base := we.heap.size) we (Nat.le_refl _)); have GDE := Lib.hid (show gd < we.heap.size from Nat.lt_of_lt_of_le GLD.out hgs.size); clear kd; clear hs hgs)
                    | ((with_reducible show wpList _ _ _ (⟨some 106, _, _, _, _, _⟩ :: _) _ _); refine wpList_append8 (o := ⟨some 106, _, _, _, _, _⟩) rfl _ _ rfl we.heap.size _ [] (by rfl) HEE.out _ A2 ML c2 M (by rfl) (HRE.out.alloc (Nat.le_refl _) _) LA.out (by simp) ?_; intro vG wg hoG hgG hqG; clear hqG; rw [List.nil_append] at hoG; have eG : Below we.heap.size we wg := ((Below.refl _ we).alloc (Nat.le_refl _) (.cells #[] 5)).grown hgG (by simp) HEE.out.lt; obtain ⟨gg, cg, rfl, _, _, hgbG, hglG, _⟩ := hoG.formG HL.out (by omega); have HOG := Lib.hid hoG; have EG := Lib.hid eG; have GBG := Lib.hid hgbG; have GLG := Lib.hid hglG; have HBG := Lib.hid (HBE.out.trans (eG.mono HBE.out.size)); have HRG := Lib.hid ((HRE.out.below eG).more eG.size); have kg : wg.cell? ⟨gg, 22, none⟩ = some (.int .u8 64) := HOG.out.byte H22.out; have HOE2 := Lib.hid (HOE.out.below EG.out); clear hoG hgG eG hgbG hglG)
                    | ((with_reducible show wpList _ _ _ (⟨none, .store 5 (.tmp 114) _, _, _, _, _⟩ :: _) _ _); refine wpList_storeOG rfl (.tmp 114) _ rfl gg 22 (by rfl) (UInt8.ofNat YY) (YY : Int) HYB.out (by rfl) M ML cg we.heap.size HL.out HOG.out (by omega) ?_; intro wh hs hgs; have HOH := Lib.hid hs; have HOE3 := Lib.hid (HOE2.out.kept hgs (.inr (fun e => Nat.not_le_of_lt (World.ownsRow.lt HOE.out gg e).2 GBG.out))); have HBH := Lib.hid (HBG.out.trans (gb_to_below hgs (Nat.le_trans HBE.out.size GBG.out) HBG.out.size)); clear kg; clear hs hgs))
                  refine (mend_any HOE3.out HLD.out hM34 (by omega)).mono ?_
                  rintro e wi ⟨rfl, hom, hgm⟩
                  have HOH2 := Lib.hid (own_kept HOH.out hgm GDE.out)
                  have HBI := Lib.hid (HBH.out.grown hgm HBH.out.size (fun k hk => by cases hk; exact Nat.le_trans HBM.out.size GBD.out))
                  obtain ⟨hcd, hmd, hrm⟩ := hom.rdN' HLD2.out
                  have RR := Lib.hid (pread_as RF.out (by omega) hcd hmd hrm)
                  clear hom hgm hrm
                  go_wp2_with fail
                  refine RR.out.mono ?_
                  rintro e wj ⟨rfl, hbj⟩
                  have HBJ := Lib.hid (HBI.out.trans (hbj.mono HBI.out.size))
                  obtain ⟨hcg, hmg, hrg⟩ := (HOH2.out.below hbj).rdN' HLG.out
                  have RR2 := Lib.hid (pread_as RG.out (by omega) hcg hmg hrg)
                  clear hbj hrg
                  have f4 := fun W => field_kind (kindK 4) W
                  have f3 := fun W => field_kind (kindK 3) W
                  change ∀ W : World, (Instr.field 30 (pkC (kindK 4)) 0).run Try.prog W = .ok (.int .i64 4) W at f4
                  change ∀ W : World, (Instr.field 30 (pkC (kindK 3)) 0).run Try.prog W = .ok (.int .i64 3) W at f3
                  go_wp2_with fail
                  refine RR2.out.mono ?_
                  rintro e wk ⟨rfl, hbk⟩
                  go_wp2_with fail
                  go_ret
                  exact ⟨rfl, HBJ.out.trans (hbk.mono HBJ.out.size)⟩
                · have p6a : ((pn : Int) != 6) = true := by simp; omega
                  have p6b : (pn != 6) = true := by simp; omega
                  have p17a : ((pn : Int) != 17) = true := by simp; omega
                  have p17b : (pn != 17) = true := by simp; omega
                  have HRCX := Lib.hid (RC.out p6 p17)
                  clear p6 p17
                  go_wp2_with (first
                    | ((with_reducible show wpList _ _ _ (⟨some 46, _, _, _, _, _⟩ :: _) _ _); refine wpList_append8 (o := ⟨some 46, _, _, _, _, _⟩) rfl _ _ rfl w2.heap.size _ [] (by rfl) HE2.out _ A2 ML c2 M (by rfl) (HR2.out.alloc (Nat.le_refl _) _) LA.out (by simp) ?_; intro vA wp hoA hgA hqA; clear hqA; rw [List.nil_append] at hoA; have eA : Below w2.heap.size w2 wp := ((Below.refl _ w2).alloc (Nat.le_refl _) (.cells #[] 5)).grown hgA (by simp) HE2.out.lt; obtain ⟨ga, ca, rfl, _, _, hgbA, hglA, _⟩ := hoA.formG HL.out (by omega); have HOA := Lib.hid hoA; have EA := Lib.hid eA; have GBA := Lib.hid hgbA; have GLA := Lib.hid hglA; have HBA := Lib.hid (HB2.out.trans (eA.mono HB2.out.size)); have HRA := Lib.hid ((HR2.out.below eA).more eA.size); clear hoA hgA eA hgbA hglA)
                    | ((with_reducible show wpList _ _ _ (⟨none, .store 5 (.tmp 51) _, _, _, _, _⟩ :: _) _ _); refine wpList_storeOG rfl (.tmp 51) _ rfl ga 12 (by rfl) (UInt8.ofNat (kn / 256)) ((kn : Int) / 256) HHI.out (by rfl) M ML ca w2.heap.size HL.out HOA.out (by omega) ?_; intro wq hs hgs; have HOQ := Lib.hid hs; have EQ1 := Lib.hid (EA.out.trans (gb_to_below hgs GBA.out EA.out.size)); clear hs hgs)
                    | ((with_reducible show wpList _ _ _ (⟨none, .store 5 (.tmp 55) _, _, _, _, _⟩ :: _) _ _); refine wpList_storeOG rfl (.tmp 55) _ rfl ga 13 (by rfl) (UInt8.ofNat (kn % 256)) ((kn : Int) % 256) HLO.out (by rfl) (M.set 12 (UInt8.ofNat (kn / 256))) ML ca w2.heap.size HL1.out HOQ.out (by omega) ?_; intro wr hs hgs; have HOR := Lib.hid hs; have ER := Lib.hid (EQ1.out.trans (gb_to_below hgs GBA.out EQ1.out.size)); have HBR := Lib.hid (HB2.out.trans (ER.out.mono HB2.out.size)); have HRR := Lib.hid ((HR2.out.below ER.out).more ER.out.size); have HER := Lib.hid (empty8 (base := wr.heap.size) wr (Nat.le_refl _)); clear hs hgs)
                    | ((with_reducible show wpList _ _ _ (⟨some 78, _, _, _, _, _⟩ :: _) _ _); refine wpList_append8 (o := ⟨some 78, _, _, _, _, _⟩) rfl _ _ rfl wr.heap.size _ [] (by rfl) HER.out _ A2 ML c2 M (by rfl) (HRR.out.alloc (Nat.le_refl _) _) LA.out (by simp) ?_; intro vC wc hoC hgC hqC; clear hqC; rw [List.nil_append] at hoC; have eC : Below wr.heap.size wr wc := ((Below.refl _ wr).alloc (Nat.le_refl _) (.cells #[] 5)).grown hgC (by simp) HER.out.lt; obtain ⟨gc, cc, rfl, _, _, hgbC, hglC, _⟩ := hoC.formG HL.out (by omega); have HOC := Lib.hid hoC; have EC := Lib.hid eC; have GBC := Lib.hid hgbC; have GLC := Lib.hid hglC; have HBC := Lib.hid (HBR.out.trans (eC.mono HBR.out.size)); have HRC := Lib.hid ((HRR.out.below eC).more eC.size); clear hoC hgC eC hgbC hglC)
                    | ((with_reducible show wpList _ _ _ (⟨none, .store 5 (.tmp 81) _, _, _, _, _⟩ :: _) _ _); refine wpList_storeOG rfl (.tmp 81) _ rfl gc 23 (by rfl) (UInt8.ofNat pn) (pn : Int) HPB.out (by rfl) M ML cc wr.heap.size HL.out HOC.out (by omega) ?_; intro wm hs hgs; have HOM := Lib.hid hs; have EM := Lib.hid (EC.out.trans (gb_to_below hgs GBC.out EC.out.size)); have HBM := Lib.hid (HBR.out.trans (EM.out.mono HBR.out.size)); have HRM := Lib.hid ((HRR.out.below EM.out).more EM.out.size); have HEM := Lib.hid (empty8 (base := wm.heap.size) wm (Nat.le_refl _)); clear hs hgs))
                  refine (mend_any HOM.out HLC.out hM34 (by omega)).mono ?_
                  rintro e wn ⟨rfl, hom, hgm⟩
                  have EN := Lib.hid (EM.out.trans (gb_to_below hgm GBC.out EM.out.size))
                  obtain ⟨hcc, hmc, hrm⟩ := hom.rdN' HLC2.out
                  have RR := Lib.hid (pread_as HRCX.out (by omega) hcc hmc hrm)
                  clear hom hgm hrm
                  go_wp2_with fail
                  refine RR.out.mono ?_
                  rintro e wo ⟨rfl, hbo⟩
                  have EO := Lib.hid (EN.out.trans (hbo.mono EN.out.size))
                  have HBO := Lib.hid (HBR.out.trans (EO.out.mono HBR.out.size))
                  have HRO := Lib.hid ((HRR.out.below EO.out).more EO.out.size)
                  have HEO := Lib.hid (empty8 (base := wo.heap.size) wo (Nat.le_refl _))
                  clear hbo
                  have f5 : ∀ W : World, (Instr.field 30 (pkC (kindK 5)) 0).run Try.prog W = .ok (.int .i64 5) W := fun W => field_kind (kindK 5) W
                  go_wp2_with (first
                    | ((with_reducible show wpList _ _ _ (⟨some 97, _, _, _, _, _⟩ :: _) _ _); refine wpList_append8 (o := ⟨some 97, _, _, _, _, _⟩) rfl _ _ rfl wo.heap.size _ [] (by rfl) HEO.out _ A2 ML c2 M (by rfl) (HRO.out.alloc (Nat.le_refl _) _) LA.out (by simp) ?_; intro vD wd hoD hgD hqD; clear hqD; rw [List.nil_append] at hoD; have eD : Below wo.heap.size wo wd := ((Below.refl _ wo).alloc (Nat.le_refl _) (.cells #[] 5)).grown hgD (by simp) HEO.out.lt; obtain ⟨gd, cd, rfl, _, _, hgbD, hglD, _⟩ := hoD.formG HL.out (by omega); have HOD := Lib.hid hoD; have ED := Lib.hid eD; have GBD := Lib.hid hgbD; have GLD := Lib.hid hglD; have HBD := Lib.hid (HBO.out.trans (eD.mono HBO.out.size)); have HRD := Lib.hid ((HRO.out.below eD).more eD.size); have kd : wd.cell? ⟨gd, 20, none⟩ = some (.int .u8 64) := HOD.out.byte H20.out; clear hoD hgD eD hgbD hglD)
                    | ((with_reducible show wpList _ _ _ (⟨none, .store 5 (.tmp 103) _, _, _, _, _⟩ :: _) _ _); refine wpList_storeOG rfl (.tmp 103) _ rfl gd 20 (by rfl) (96 : UInt8) 96 (by rfl) (by rfl) M ML cd wo.heap.size HL.out HOD.out (by omega) ?_; intro we hs hgs; have HOE := Lib.hid hs; have EE := Lib.hid (ED.out.trans (gb_to_below hgs GBD.out ED.out.size)); have HBE := Lib.hid (HBO.out.trans (EE.out.mono HBO.out.size)); have HRE := Lib.hid ((HRO.out.below EE.out).more EE.out.size); have HEE := Lib.hid (empty8 (base := we.heap.size) we (Nat.le_refl _)); have GDE := Lib.hid (show gd < we.heap.size from Nat.lt_of_lt_of_le GLD.out hgs.size); clear kd; clear hs hgs)
                    | ((with_reducible show wpList _ _ _ (⟨some 106, _, _, _, _, _⟩ :: _) _ _); refine wpList_append8 (o := ⟨some 106, _, _, _, _, _⟩) rfl _ _ rfl we.heap.size _ [] (by rfl) HEE.out _ A2 ML c2 M (by rfl) (HRE.out.alloc (Nat.le_refl _) _) LA.out (by simp) ?_; intro vG wg hoG hgG hqG; clear hqG; rw [List.nil_append] at hoG; have eG : Below we.heap.size we wg := ((Below.refl _ we).alloc (Nat.le_refl _) (.cells #[] 5)).grown hgG (by simp) HEE.out.lt; obtain ⟨gg, cg, rfl, _, _, hgbG, hglG, _⟩ := hoG.formG HL.out (by omega); have HOG := Lib.hid hoG; have EG := Lib.hid eG; have GBG := Lib.hid hgbG; have GLG := Lib.hid hglG; have HBG := Lib.hid (HBE.out.trans (eG.mono HBE.out.size)); have HRG := Lib.hid ((HRE.out.below eG).more eG.size); have kg : wg.cell? ⟨gg, 22, none⟩ = some (.int .u8 64) := HOG.out.byte H22.out; have HOE2 := Lib.hid (HOE.out.below EG.out); clear hoG hgG eG hgbG hglG)
                    | ((with_reducible show wpList _ _ _ (⟨none, .store 5 (.tmp 114) _, _, _, _, _⟩ :: _) _ _); refine wpList_storeOG rfl (.tmp 114) _ rfl gg 22 (by rfl) (UInt8.ofNat YY) (YY : Int) HYB.out (by rfl) M ML cg we.heap.size HL.out HOG.out (by omega) ?_; intro wh hs hgs; have HOH := Lib.hid hs; have HOE3 := Lib.hid (HOE2.out.kept hgs (.inr (fun e => Nat.not_le_of_lt (World.ownsRow.lt HOE.out gg e).2 GBG.out))); have HBH := Lib.hid (HBG.out.trans (gb_to_below hgs (Nat.le_trans HBE.out.size GBG.out) HBG.out.size)); clear kg; clear hs hgs))
                  refine (mend_any HOE3.out HLD.out hM34 (by omega)).mono ?_
                  rintro e wi ⟨rfl, hom, hgm⟩
                  have HOH2 := Lib.hid (own_kept HOH.out hgm GDE.out)
                  have HBI := Lib.hid (HBH.out.grown hgm HBH.out.size (fun k hk => by cases hk; exact Nat.le_trans HBO.out.size GBD.out))
                  obtain ⟨hcd, hmd, hrm⟩ := hom.rdN' HLD2.out
                  have RR := Lib.hid (pread_as RF.out (by omega) hcd hmd hrm)
                  clear hom hgm hrm
                  go_wp2_with fail
                  refine RR.out.mono ?_
                  rintro e wj ⟨rfl, hbj⟩
                  have HBJ := Lib.hid (HBI.out.trans (hbj.mono HBI.out.size))
                  obtain ⟨hcg, hmg, hrg⟩ := (HOH2.out.below hbj).rdN' HLG.out
                  have RR2 := Lib.hid (pread_as RG.out (by omega) hcg hmg hrg)
                  clear hbj hrg
                  have f4 := fun W => field_kind (kindK 4) W
                  have f3 := fun W => field_kind (kindK 3) W
                  change ∀ W : World, (Instr.field 30 (pkC (kindK 4)) 0).run Try.prog W = .ok (.int .i64 4) W at f4
                  change ∀ W : World, (Instr.field 30 (pkC (kindK 3)) 0).run Try.prog W = .ok (.int .i64 3) W at f3
                  go_wp2_with fail
                  refine RR2.out.mono ?_
                  rintro e wk ⟨rfl, hbk⟩
                  go_wp2_with fail
                  go_ret
                  exact ⟨rfl, HBJ.out.trans (hbk.mono HBJ.out.size)⟩
            · have k0a : ((kn : Int) != 2048) = true := by simp; omega
              have k0b : (kn != 2048) = true := by simp; omega
              have k1a : ((kn : Int) != 34525) = true := by simp; omega
              have k1b : (kn != 34525) = true := by simp; omega
              have k2a : ((kn : Int) != 33024) = true := by simp; omega
              have k2b : (kn != 33024) = true := by simp; omega
              have k3a : ((kn : Int) != 34984) = true := by simp; omega
              have k3b : (kn != 34984) = true := by simp; omega
              have HRA2 := Lib.hid (RA.out k0 k1 k2 k3)
              clear k0 k1 k2 k3
              go_wp2_with (first
                | ((with_reducible show wpList _ _ _ (⟨some 46, _, _, _, _, _⟩ :: _) _ _); refine wpList_append8 (o := ⟨some 46, _, _, _, _, _⟩) rfl _ _ rfl w2.heap.size _ [] (by rfl) HE2.out _ A2 ML c2 M (by rfl) (HR2.out.alloc (Nat.le_refl _) _) LA.out (by simp) ?_; intro vA wp hoA hgA hqA; clear hqA; rw [List.nil_append] at hoA; have eA : Below w2.heap.size w2 wp := ((Below.refl _ w2).alloc (Nat.le_refl _) (.cells #[] 5)).grown hgA (by simp) HE2.out.lt; obtain ⟨ga, ca, rfl, _, _, hgbA, hglA, _⟩ := hoA.formG HL.out (by omega); have HOA := Lib.hid hoA; have EA := Lib.hid eA; have GBA := Lib.hid hgbA; have GLA := Lib.hid hglA; have HBA := Lib.hid (HB2.out.trans (eA.mono HB2.out.size)); have HRA := Lib.hid ((HR2.out.below eA).more eA.size); clear hoA hgA eA hgbA hglA)
                | ((with_reducible show wpList _ _ _ (⟨none, .store 5 (.tmp 51) _, _, _, _, _⟩ :: _) _ _); refine wpList_storeOG rfl (.tmp 51) _ rfl ga 12 (by rfl) (UInt8.ofNat (kn / 256)) ((kn : Int) / 256) HHI.out (by rfl) M ML ca w2.heap.size HL.out HOA.out (by omega) ?_; intro wq hs hgs; have HOQ := Lib.hid hs; have EQ1 := Lib.hid (EA.out.trans (gb_to_below hgs GBA.out EA.out.size)); clear hs hgs)
                | ((with_reducible show wpList _ _ _ (⟨none, .store 5 (.tmp 55) _, _, _, _, _⟩ :: _) _ _); refine wpList_storeOG rfl (.tmp 55) _ rfl ga 13 (by rfl) (UInt8.ofNat (kn % 256)) ((kn : Int) % 256) HLO.out (by rfl) (M.set 12 (UInt8.ofNat (kn / 256))) ML ca w2.heap.size HL1.out HOQ.out (by omega) ?_; intro wr hs hgs; have HOR := Lib.hid hs; have ER := Lib.hid (EQ1.out.trans (gb_to_below hgs GBA.out EQ1.out.size)); have HBR := Lib.hid (HB2.out.trans (ER.out.mono HB2.out.size)); have HRR := Lib.hid ((HR2.out.below ER.out).more ER.out.size); have HER := Lib.hid (empty8 (base := wr.heap.size) wr (Nat.le_refl _)); clear hs hgs))
              obtain ⟨hca, hma, hra⟩ := HOR.out.rdN' HLA.out
              refine (pread_as HRA2.out (by omega) hca hma hra).mono ?_
              rintro e ws ⟨rfl, hbs⟩
              have ES := Lib.hid (ER.out.trans (hbs.mono ER.out.size))
              have HBS := Lib.hid (HB2.out.trans (ES.out.mono HB2.out.size))
              have HRS := Lib.hid ((HR2.out.below ES.out).more ES.out.size)
              have HES := Lib.hid (empty8 (base := ws.heap.size) ws (Nat.le_refl _))
              clear hbs hra
              have f2 : ∀ W : World, (Instr.field 30 (pkC (kindK 2)) 0).run Try.prog W = .ok (.int .i64 2) W := fun W => field_kind (kindK 2) W
              by_cases p6 : pn = 6
              · have p6a : ((pn : Int) != 6) = false := by simp; omega
                have p6b : (pn != 6) = false := by simp; omega
                clear p6
                go_wp2_with (first
                  | ((with_reducible show wpList _ _ _ (⟨some 78, _, _, _, _, _⟩ :: _) _ _); refine wpList_append8 (o := ⟨some 78, _, _, _, _, _⟩) rfl _ _ rfl ws.heap.size _ [] (by rfl) HES.out _ A2 ML c2 M (by rfl) (HRS.out.alloc (Nat.le_refl _) _) LA.out (by simp) ?_; intro vC wc hoC hgC hqC; clear hqC; rw [List.nil_append] at hoC; have eC : Below ws.heap.size ws wc := ((Below.refl _ ws).alloc (Nat.le_refl _) (.cells #[] 5)).grown hgC (by simp) HES.out.lt; obtain ⟨gc, cc, rfl, _, _, hgbC, hglC, _⟩ := hoC.formG HL.out (by omega); have HOC := Lib.hid hoC; have EC := Lib.hid eC; have GBC := Lib.hid hgbC; have GLC := Lib.hid hglC; have HBC := Lib.hid (HBS.out.trans (eC.mono HBS.out.size)); have HRC := Lib.hid ((HRS.out.below eC).more eC.size); clear hoC hgC eC hgbC hglC)
                  | ((with_reducible show wpList _ _ _ (⟨none, .store 5 (.tmp 81) _, _, _, _, _⟩ :: _) _ _); refine wpList_storeOG rfl (.tmp 81) _ rfl gc 23 (by rfl) (UInt8.ofNat pn) (pn : Int) HPB.out (by rfl) M ML cc ws.heap.size HL.out HOC.out (by omega) ?_; intro wm hs hgs; have HOM := Lib.hid hs; have EM := Lib.hid (EC.out.trans (gb_to_below hgs GBC.out EC.out.size)); have HBM := Lib.hid (HBS.out.trans (EM.out.mono HBS.out.size)); have HRM := Lib.hid ((HRS.out.below EM.out).more EM.out.size); have HEM := Lib.hid (empty8 (base := wm.heap.size) wm (Nat.le_refl _)); clear hs hgs)
                  | ((with_reducible show wpList _ _ _ (⟨some 97, _, _, _, _, _⟩ :: _) _ _); refine wpList_append8 (o := ⟨some 97, _, _, _, _, _⟩) rfl _ _ rfl wm.heap.size _ [] (by rfl) HEM.out _ A2 ML c2 M (by rfl) (HRM.out.alloc (Nat.le_refl _) _) LA.out (by simp) ?_; intro vD wd hoD hgD hqD; clear hqD; rw [List.nil_append] at hoD; have eD : Below wm.heap.size wm wd := ((Below.refl _ wm).alloc (Nat.le_refl _) (.cells #[] 5)).grown hgD (by simp) HEM.out.lt; obtain ⟨gd, cd, rfl, _, _, hgbD, hglD, _⟩ := hoD.formG HL.out (by omega); have HOD := Lib.hid hoD; have ED := Lib.hid eD; have GBD := Lib.hid hgbD; have GLD := Lib.hid hglD; have HBD := Lib.hid (HBM.out.trans (eD.mono HBM.out.size)); have HRD := Lib.hid ((HRM.out.below eD).more eD.size); have kd : wd.cell? ⟨gd, 20, none⟩ = some (.int .u8 64) := HOD.out.byte H20.out; clear hoD hgD eD hgbD hglD)
                  | ((with_reducible show wpList _ _ _ (⟨none, .store 5 (.tmp 103) _, _, _, _, _⟩ :: _) _ _); refine wpList_storeOG rfl (.tmp 103) _ rfl gd 20 (by rfl) (96 : UInt8) 96 (by rfl) (by rfl) M ML cd wm.heap.size HL.out HOD.out (by omega) ?_; intro we hs hgs; have HOE := Lib.hid hs; have EE := Lib.hid (ED.out.trans (gb_to_below hgs GBD.out ED.out.size)); have HBE := Lib.hid (HBM.out.trans (EE.out.mono HBM.out.size)); have HRE := Lib.hid ((HRM.out.below EE.out).more EE.out.size); have HEE := Lib.hid (empty8 (base := we.heap.size) we (Nat.le_refl _)); have GDE := Lib.hid (show gd < we.heap.size from Nat.lt_of_lt_of_le GLD.out hgs.size); clear kd; clear hs hgs)
                  | ((with_reducible show wpList _ _ _ (⟨some 106, _, _, _, _, _⟩ :: _) _ _); refine wpList_append8 (o := ⟨some 106, _, _, _, _, _⟩) rfl _ _ rfl we.heap.size _ [] (by rfl) HEE.out _ A2 ML c2 M (by rfl) (HRE.out.alloc (Nat.le_refl _) _) LA.out (by simp) ?_; intro vG wg hoG hgG hqG; clear hqG; rw [List.nil_append] at hoG; have eG : Below we.heap.size we wg := ((Below.refl _ we).alloc (Nat.le_refl _) (.cells #[] 5)).grown hgG (by simp) HEE.out.lt; obtain ⟨gg, cg, rfl, _, _, hgbG, hglG, _⟩ := hoG.formG HL.out (by omega); have HOG := Lib.hid hoG; have EG := Lib.hid eG; have GBG := Lib.hid hgbG; have GLG := Lib.hid hglG; have HBG := Lib.hid (HBE.out.trans (eG.mono HBE.out.size)); have HRG := Lib.hid ((HRE.out.below eG).more eG.size); have kg : wg.cell? ⟨gg, 22, none⟩ = some (.int .u8 64) := HOG.out.byte H22.out; have HOE2 := Lib.hid (HOE.out.below EG.out); clear hoG hgG eG hgbG hglG)
                  | ((with_reducible show wpList _ _ _ (⟨none, .store 5 (.tmp 114) _, _, _, _, _⟩ :: _) _ _); refine wpList_storeOG rfl (.tmp 114) _ rfl gg 22 (by rfl) (UInt8.ofNat YY) (YY : Int) HYB.out (by rfl) M ML cg we.heap.size HL.out HOG.out (by omega) ?_; intro wh hs hgs; have HOH := Lib.hid hs; have HOE3 := Lib.hid (HOE2.out.kept hgs (.inr (fun e => Nat.not_le_of_lt (World.ownsRow.lt HOE.out gg e).2 GBG.out))); have HBH := Lib.hid (HBG.out.trans (gb_to_below hgs (Nat.le_trans HBE.out.size GBG.out) HBG.out.size)); clear kg; clear hs hgs))
                refine (mend_any HOE3.out HLD.out hM34 (by omega)).mono ?_
                rintro e wi ⟨rfl, hom, hgm⟩
                have HOH2 := Lib.hid (own_kept HOH.out hgm GDE.out)
                have HBI := Lib.hid (HBH.out.grown hgm HBH.out.size (fun k hk => by cases hk; exact Nat.le_trans HBM.out.size GBD.out))
                obtain ⟨hcd, hmd, hrm⟩ := hom.rdN' HLD2.out
                have RR := Lib.hid (pread_as RF.out (by omega) hcd hmd hrm)
                clear hom hgm hrm
                go_wp2_with fail
                refine RR.out.mono ?_
                rintro e wj ⟨rfl, hbj⟩
                have HBJ := Lib.hid (HBI.out.trans (hbj.mono HBI.out.size))
                obtain ⟨hcg, hmg, hrg⟩ := (HOH2.out.below hbj).rdN' HLG.out
                have RR2 := Lib.hid (pread_as RG.out (by omega) hcg hmg hrg)
                clear hbj hrg
                have f4 := fun W => field_kind (kindK 4) W
                have f3 := fun W => field_kind (kindK 3) W
                change ∀ W : World, (Instr.field 30 (pkC (kindK 4)) 0).run Try.prog W = .ok (.int .i64 4) W at f4
                change ∀ W : World, (Instr.field 30 (pkC (kindK 3)) 0).run Try.prog W = .ok (.int .i64 3) W at f3
                go_wp2_with fail
                refine RR2.out.mono ?_
                rintro e wk ⟨rfl, hbk⟩
                go_wp2_with fail
                go_ret
                exact ⟨rfl, HBJ.out.trans (hbk.mono HBJ.out.size)⟩
              · by_cases p17 : pn = 17
                · have p6a : ((pn : Int) != 6) = true := by simp; omega
                  have p6b : (pn != 6) = true := by simp; omega
                  have p17a : ((pn : Int) != 17) = false := by simp; omega
                  have p17b : (pn != 17) = false := by simp; omega
                  clear p6 p17
                  go_wp2_with (first
                    | ((with_reducible show wpList _ _ _ (⟨some 78, _, _, _, _, _⟩ :: _) _ _); refine wpList_append8 (o := ⟨some 78, _, _, _, _, _⟩) rfl _ _ rfl ws.heap.size _ [] (by rfl) HES.out _ A2 ML c2 M (by rfl) (HRS.out.alloc (Nat.le_refl _) _) LA.out (by simp) ?_; intro vC wc hoC hgC hqC; clear hqC; rw [List.nil_append] at hoC; have eC : Below ws.heap.size ws wc := ((Below.refl _ ws).alloc (Nat.le_refl _) (.cells #[] 5)).grown hgC (by simp) HES.out.lt; obtain ⟨gc, cc, rfl, _, _, hgbC, hglC, _⟩ := hoC.formG HL.out (by omega); have HOC := Lib.hid hoC; have EC := Lib.hid eC; have GBC := Lib.hid hgbC; have GLC := Lib.hid hglC; have HBC := Lib.hid (HBS.out.trans (eC.mono HBS.out.size)); have HRC := Lib.hid ((HRS.out.below eC).more eC.size); clear hoC hgC eC hgbC hglC)
                    | ((with_reducible show wpList _ _ _ (⟨none, .store 5 (.tmp 81) _, _, _, _, _⟩ :: _) _ _); refine wpList_storeOG rfl (.tmp 81) _ rfl gc 23 (by rfl) (UInt8.ofNat pn) (pn : Int) HPB.out (by rfl) M ML cc ws.heap.size HL.out HOC.out (by omega) ?_; intro wm hs hgs; have HOM := Lib.hid hs; have EM := Lib.hid (EC.out.trans (gb_to_below hgs GBC.out EC.out.size)); have HBM := Lib.hid (HBS.out.trans (EM.out.mono HBS.out.size)); have HRM := Lib.hid ((HRS.out.below EM.out).more EM.out.size); have HEM := Lib.hid (empty8 (base := wm.heap.size) wm (Nat.le_refl _)); clear hs hgs)
                    | ((with_reducible show wpList _ _ _ (⟨some 97, _, _, _, _, _⟩ :: _) _ _); refine wpList_append8 (o := ⟨some 97, _, _, _, _, _⟩) rfl _ _ rfl wm.heap.size _ [] (by rfl) HEM.out _ A2 ML c2 M (by rfl) (HRM.out.alloc (Nat.le_refl _) _) LA.out (by simp) ?_; intro vD wd hoD hgD hqD; clear hqD; rw [List.nil_append] at hoD; have eD : Below wm.heap.size wm wd := ((Below.refl _ wm).alloc (Nat.le_refl _) (.cells #[] 5)).grown hgD (by simp) HEM.out.lt; obtain ⟨gd, cd, rfl, _, _, hgbD, hglD, _⟩ := hoD.formG HL.out (by omega); have HOD := Lib.hid hoD; have ED := Lib.hid eD; have GBD := Lib.hid hgbD; have GLD := Lib.hid hglD; have HBD := Lib.hid (HBM.out.trans (eD.mono HBM.out.size)); have HRD := Lib.hid ((HRM.out.below eD).more eD.size); have kd : wd.cell? ⟨gd, 20, none⟩ = some (.int .u8 64) := HOD.out.byte H20.out; clear hoD hgD eD hgbD hglD)
                    | ((with_reducible show wpList _ _ _ (⟨none, .store 5 (.tmp 103) _, _, _, _, _⟩ :: _) _ _); refine wpList_storeOG rfl (.tmp 103) _ rfl gd 20 (by rfl) (96 : UInt8) 96 (by rfl) (by rfl) M ML cd wm.heap.size HL.out HOD.out (by omega) ?_; intro we hs hgs; have HOE := Lib.hid hs; have EE := Lib.hid (ED.out.trans (gb_to_below hgs GBD.out ED.out.size)); have HBE := Lib.hid (HBM.out.trans (EE.out.mono HBM.out.size)); have HRE := Lib.hid ((HRM.out.below EE.out).more EE.out.size); have HEE := Lib.hid (empty8 (base := we.heap.size) we (Nat.le_refl _)); have GDE := Lib.hid (show gd < we.heap.size from Nat.lt_of_lt_of_le GLD.out hgs.size); clear kd; clear hs hgs)
                    | ((with_reducible show wpList _ _ _ (⟨some 106, _, _, _, _, _⟩ :: _) _ _); refine wpList_append8 (o := ⟨some 106, _, _, _, _, _⟩) rfl _ _ rfl we.heap.size _ [] (by rfl) HEE.out _ A2 ML c2 M (by rfl) (HRE.out.alloc (Nat.le_refl _) _) LA.out (by simp) ?_; intro vG wg hoG hgG hqG; clear hqG; rw [List.nil_append] at hoG; have eG : Below we.heap.size we wg := ((Below.refl _ we).alloc (Nat.le_refl _) (.cells #[] 5)).grown hgG (by simp) HEE.out.lt; obtain ⟨gg, cg, rfl, _, _, hgbG, hglG, _⟩ := hoG.formG HL.out (by omega); have HOG := Lib.hid hoG; have EG := Lib.hid eG; have GBG := Lib.hid hgbG; have GLG := Lib.hid hglG; have HBG := Lib.hid (HBE.out.trans (eG.mono HBE.out.size)); have HRG := Lib.hid ((HRE.out.below eG).more eG.size); have kg : wg.cell? ⟨gg, 22, none⟩ = some (.int .u8 64) := HOG.out.byte H22.out; have HOE2 := Lib.hid (HOE.out.below EG.out); clear hoG hgG eG hgbG hglG)
                    | ((with_reducible show wpList _ _ _ (⟨none, .store 5 (.tmp 114) _, _, _, _, _⟩ :: _) _ _); refine wpList_storeOG rfl (.tmp 114) _ rfl gg 22 (by rfl) (UInt8.ofNat YY) (YY : Int) HYB.out (by rfl) M ML cg we.heap.size HL.out HOG.out (by omega) ?_; intro wh hs hgs; have HOH := Lib.hid hs; have HOE3 := Lib.hid (HOE2.out.kept hgs (.inr (fun e => Nat.not_le_of_lt (World.ownsRow.lt HOE.out gg e).2 GBG.out))); have HBH := Lib.hid (HBG.out.trans (gb_to_below hgs (Nat.le_trans HBE.out.size GBG.out) HBG.out.size)); clear kg; clear hs hgs))
                  refine (mend_any HOE3.out HLD.out hM34 (by omega)).mono ?_
                  rintro e wi ⟨rfl, hom, hgm⟩
                  have HOH2 := Lib.hid (own_kept HOH.out hgm GDE.out)
                  have HBI := Lib.hid (HBH.out.grown hgm HBH.out.size (fun k hk => by cases hk; exact Nat.le_trans HBM.out.size GBD.out))
                  obtain ⟨hcd, hmd, hrm⟩ := hom.rdN' HLD2.out
                  have RR := Lib.hid (pread_as RF.out (by omega) hcd hmd hrm)
                  clear hom hgm hrm
                  go_wp2_with fail
                  refine RR.out.mono ?_
                  rintro e wj ⟨rfl, hbj⟩
                  have HBJ := Lib.hid (HBI.out.trans (hbj.mono HBI.out.size))
                  obtain ⟨hcg, hmg, hrg⟩ := (HOH2.out.below hbj).rdN' HLG.out
                  have RR2 := Lib.hid (pread_as RG.out (by omega) hcg hmg hrg)
                  clear hbj hrg
                  have f4 := fun W => field_kind (kindK 4) W
                  have f3 := fun W => field_kind (kindK 3) W
                  change ∀ W : World, (Instr.field 30 (pkC (kindK 4)) 0).run Try.prog W = .ok (.int .i64 4) W at f4
                  change ∀ W : World, (Instr.field 30 (pkC (kindK 3)) 0).run Try.prog W = .ok (.int .i64 3) W at f3
                  go_wp2_with fail
                  refine RR2.out.mono ?_
                  rintro e wk ⟨rfl, hbk⟩
                  go_wp2_with fail
                  go_ret
                  exact ⟨rfl, HBJ.out.trans (hbk.mono HBJ.out.size)⟩
                · have p6a : ((pn : Int) != 6) = true := by simp; omega
                  have p6b : (pn != 6) = true := by simp; omega
                  have p17a : ((pn : Int) != 17) = true := by simp; omega
                  have p17b : (pn != 17) = true := by simp; omega
                  have HRCX := Lib.hid (RC.out p6 p17)
                  clear p6 p17
                  go_wp2_with (first
                    | ((with_reducible show wpList _ _ _ (⟨some 78, _, _, _, _, _⟩ :: _) _ _); refine wpList_append8 (o := ⟨some 78, _, _, _, _, _⟩) rfl _ _ rfl ws.heap.size _ [] (by rfl) HES.out _ A2 ML c2 M (by rfl) (HRS.out.alloc (Nat.le_refl _) _) LA.out (by simp) ?_; intro vC wc hoC hgC hqC; clear hqC; rw [List.nil_append] at hoC; have eC : Below ws.heap.size ws wc := ((Below.refl _ ws).alloc (Nat.le_refl _) (.cells #[] 5)).grown hgC (by simp) HES.out.lt; obtain ⟨gc, cc, rfl, _, _, hgbC, hglC, _⟩ := hoC.formG HL.out (by omega); have HOC := Lib.hid hoC; have EC := Lib.hid eC; have GBC := Lib.hid hgbC; have GLC := Lib.hid hglC; have HBC := Lib.hid (HBS.out.trans (eC.mono HBS.out.size)); have HRC := Lib.hid ((HRS.out.below eC).more eC.size); clear hoC hgC eC hgbC hglC)
                    | ((with_reducible show wpList _ _ _ (⟨none, .store 5 (.tmp 81) _, _, _, _, _⟩ :: _) _ _); refine wpList_storeOG rfl (.tmp 81) _ rfl gc 23 (by rfl) (UInt8.ofNat pn) (pn : Int) HPB.out (by rfl) M ML cc ws.heap.size HL.out HOC.out (by omega) ?_; intro wm hs hgs; have HOM := Lib.hid hs; have EM := Lib.hid (EC.out.trans (gb_to_below hgs GBC.out EC.out.size)); have HBM := Lib.hid (HBS.out.trans (EM.out.mono HBS.out.size)); have HRM := Lib.hid ((HRS.out.below EM.out).more EM.out.size); have HEM := Lib.hid (empty8 (base := wm.heap.size) wm (Nat.le_refl _)); clear hs hgs))
                  refine (mend_any HOM.out HLC.out hM34 (by omega)).mono ?_
                  rintro e wn ⟨rfl, hom, hgm⟩
                  have EN := Lib.hid (EM.out.trans (gb_to_below hgm GBC.out EM.out.size))
                  obtain ⟨hcc, hmc, hrm⟩ := hom.rdN' HLC2.out
                  have RR := Lib.hid (pread_as HRCX.out (by omega) hcc hmc hrm)
                  clear hom hgm hrm
                  go_wp2_with fail
                  refine RR.out.mono ?_
                  rintro e wo ⟨rfl, hbo⟩
                  have EO := Lib.hid (EN.out.trans (hbo.mono EN.out.size))
                  have HBO := Lib.hid (HBS.out.trans (EO.out.mono HBS.out.size))
                  have HRO := Lib.hid ((HRS.out.below EO.out).more EO.out.size)
                  have HEO := Lib.hid (empty8 (base := wo.heap.size) wo (Nat.le_refl _))
                  clear hbo
                  have f5 : ∀ W : World, (Instr.field 30 (pkC (kindK 5)) 0).run Try.prog W = .ok (.int .i64 5) W := fun W => field_kind (kindK 5) W
                  go_wp2_with (first
                    | ((with_reducible show wpList _ _ _ (⟨some 97, _, _, _, _, _⟩ :: _) _ _); refine wpList_append8 (o := ⟨some 97, _, _, _, _, _⟩) rfl _ _ rfl wo.heap.size _ [] (by rfl) HEO.out _ A2 ML c2 M (by rfl) (HRO.out.alloc (Nat.le_refl _) _) LA.out (by simp) ?_; intro vD wd hoD hgD hqD; clear hqD; rw [List.nil_append] at hoD; have eD : Below wo.heap.size wo wd := ((Below.refl _ wo).alloc (Nat.le_refl _) (.cells #[] 5)).grown hgD (by simp) HEO.out.lt; obtain ⟨gd, cd, rfl, _, _, hgbD, hglD, _⟩ := hoD.formG HL.out (by omega); have HOD := Lib.hid hoD; have ED := Lib.hid eD; have GBD := Lib.hid hgbD; have GLD := Lib.hid hglD; have HBD := Lib.hid (HBO.out.trans (eD.mono HBO.out.size)); have HRD := Lib.hid ((HRO.out.below eD).more eD.size); have kd : wd.cell? ⟨gd, 20, none⟩ = some (.int .u8 64) := HOD.out.byte H20.out; clear hoD hgD eD hgbD hglD)
                    | ((with_reducible show wpList _ _ _ (⟨none, .store 5 (.tmp 103) _, _, _, _, _⟩ :: _) _ _); refine wpList_storeOG rfl (.tmp 103) _ rfl gd 20 (by rfl) (96 : UInt8) 96 (by rfl) (by rfl) M ML cd wo.heap.size HL.out HOD.out (by omega) ?_; intro we hs hgs; have HOE := Lib.hid hs; have EE := Lib.hid (ED.out.trans (gb_to_below hgs GBD.out ED.out.size)); have HBE := Lib.hid (HBO.out.trans (EE.out.mono HBO.out.size)); have HRE := Lib.hid ((HRO.out.below EE.out).more EE.out.size); have HEE := Lib.hid (empty8 (base := we.heap.size) we (Nat.le_refl _)); have GDE := Lib.hid (show gd < we.heap.size from Nat.lt_of_lt_of_le GLD.out hgs.size); clear kd; clear hs hgs)
                    | ((with_reducible show wpList _ _ _ (⟨some 106, _, _, _, _, _⟩ :: _) _ _); refine wpList_append8 (o := ⟨some 106, _, _, _, _, _⟩) rfl _ _ rfl we.heap.size _ [] (by rfl) HEE.out _ A2 ML c2 M (by rfl) (HRE.out.alloc (Nat.le_refl _) _) LA.out (by simp) ?_; intro vG wg hoG hgG hqG; clear hqG; rw [List.nil_append] at hoG; have eG : Below we.heap.size we wg := ((Below.refl _ we).alloc (Nat.le_refl _) (.cells #[] 5)).grown hgG (by simp) HEE.out.lt; obtain ⟨gg, cg, rfl, _, _, hgbG, hglG, _⟩ := hoG.formG HL.out (by omega); have HOG := Lib.hid hoG; have EG := Lib.hid eG; have GBG := Lib.hid hgbG; have GLG := Lib.hid hglG; have HBG := Lib.hid (HBE.out.trans (eG.mono HBE.out.size)); have HRG := Lib.hid ((HRE.out.below eG).more eG.size); have kg : wg.cell? ⟨gg, 22, none⟩ = some (.int .u8 64) := HOG.out.byte H22.out; have HOE2 := Lib.hid (HOE.out.below EG.out); clear hoG hgG eG hgbG hglG)
                    | ((with_reducible show wpList _ _ _ (⟨none, .store 5 (.tmp 114) _, _, _, _, _⟩ :: _) _ _); refine wpList_storeOG rfl (.tmp 114) _ rfl gg 22 (by rfl) (UInt8.ofNat YY) (YY : Int) HYB.out (by rfl) M ML cg we.heap.size HL.out HOG.out (by omega) ?_; intro wh hs hgs; have HOH := Lib.hid hs; have HOE3 := Lib.hid (HOE2.out.kept hgs (.inr (fun e => Nat.not_le_of_lt (World.ownsRow.lt HOE.out gg e).2 GBG.out))); have HBH := Lib.hid (HBG.out.trans (gb_to_below hgs (Nat.le_trans HBE.out.size GBG.out) HBG.out.size)); clear kg; clear hs hgs))
                  refine (mend_any HOE3.out HLD.out hM34 (by omega)).mono ?_
                  rintro e wi ⟨rfl, hom, hgm⟩
                  have HOH2 := Lib.hid (own_kept HOH.out hgm GDE.out)
                  have HBI := Lib.hid (HBH.out.grown hgm HBH.out.size (fun k hk => by cases hk; exact Nat.le_trans HBO.out.size GBD.out))
                  obtain ⟨hcd, hmd, hrm⟩ := hom.rdN' HLD2.out
                  have RR := Lib.hid (pread_as RF.out (by omega) hcd hmd hrm)
                  clear hom hgm hrm
                  go_wp2_with fail
                  refine RR.out.mono ?_
                  rintro e wj ⟨rfl, hbj⟩
                  have HBJ := Lib.hid (HBI.out.trans (hbj.mono HBI.out.size))
                  obtain ⟨hcg, hmg, hrg⟩ := (HOH2.out.below hbj).rdN' HLG.out
                  have RR2 := Lib.hid (pread_as RG.out (by omega) hcg hmg hrg)
                  clear hbj hrg
                  have f4 := fun W => field_kind (kindK 4) W
                  have f3 := fun W => field_kind (kindK 3) W
                  change ∀ W : World, (Instr.field 30 (pkC (kindK 4)) 0).run Try.prog W = .ok (.int .i64 4) W at f4
                  change ∀ W : World, (Instr.field 30 (pkC (kindK 3)) 0).run Try.prog W = .ok (.int .i64 3) W at f3
                  go_wp2_with fail
                  refine RR2.out.mono ?_
                  rintro e wk ⟨rfl, hbk⟩
                  go_wp2_with fail
                  go_ret
                  exact ⟨rfl, HBJ.out.trans (hbk.mono HBJ.out.size)⟩
    · have e1 := hno h0
      subst e1
      obtain ⟨K, hK⟩ : ∃ K, whyN Lk.zero T f len = K := ⟨_, rfl⟩
      rw [hK] at h0 ⊢
      have q1 : ((K : Int) != 0) = true := by simp; omega
      have q2 : (K != 0) = true := by simp [h0]
      clear hno hyes hK h0
      go_wp2_with fail
      go_ret
      exact ⟨rfl, HB2.out⟩

theorem packetKinds_walks : WalksTrue 7 Try.f7 := by
  intro H enc W base args ds p hval hA
  rw [Try.params7] at hA hval
  obtain ⟨v0, vs0, d0, ds0, p0, q0, hargs, rfl, rfl, h0, r0⟩ := trodAll_cons hA
  obtain ⟨v1, vs1, d1, ds1, p1, q1, rfl, rfl, rfl, h1, r1⟩ := trodAll_cons r0
  obtain ⟨v2, vs2, d2, ds2, p2, q2, rfl, rfl, rfl, h2, r2⟩ := trodAll_cons r1
  obtain ⟨v3, vs3, d3, ds3, p3, q3, rfl, rfl, rfl, h3, r3⟩ := trodAll_cons r2
  obtain ⟨v4, vs4, d4, ds4, p4, q4, rfl, rfl, rfl, h4, r4⟩ := trodAll_cons r3
  obtain ⟨v5, vs5, d5, ds5, p5, q5, rfl, rfl, rfl, h5, r5⟩ := trodAll_cons r4
  obtain ⟨rfl, rfl, rfl⟩ := trodAll_nil r5
  obtain rfl : args = #[v0, v1, v2, v3, v4, v5] := by cases args; simp_all
  obtain ⟨t0, rfl, o0⟩ := open_tuple (hval 0 28 v0 rfl rfl) h0
  obtain ⟨a1, rfl, rfl, rfl, w1⟩ := open_int Try.underlying3 (hval 1 3 v1 rfl rfl) h1
  obtain ⟨g1a, g1b⟩ := range_i64 w1
  obtain ⟨A2, len2, cap2, xs2, rfl, hc2, hm2, hI2⟩ := open_bytes (hval 2 22 v2 rfl rfl) h2
  obtain ⟨a3, rfl, rfl, rfl, w3⟩ := open_int Try.underlying46 (hval 3 46 v3 rfl rfl) h3
  obtain ⟨g3a, g3b⟩ := range_u16 w3
  obtain ⟨n3, rfl⟩ := Int.eq_ofNat_of_zero_le g3a
  obtain ⟨a4, rfl, rfl, rfl, w4⟩ := open_int Try.underlying5 (hval 4 5 v4 rfl rfl) h4
  obtain ⟨g4a, g4b⟩ := range_u8 w4
  obtain ⟨n4, rfl⟩ := Int.eq_ofNat_of_zero_le g4a
  obtain ⟨a5, rfl, rfl, rfl, w5⟩ := open_int Try.underlying5 (hval 5 5 v5 rfl rfl) h5
  obtain ⟨g5a, g5b⟩ := range_u8 w5
  obtain ⟨n5, rfl⟩ := Int.eq_ofNat_of_zero_le g5a
  exact packetKinds_walk t0 o0 a1 g1a g1b A2 len2 cap2 xs2 hc2 hm2 n3 (by omega) n4 (by omega) n5 (by omega) W hI2

theorem packetKinds_said : Rows.PacketKindsSaid :=
  OpenClaim.holds_of_wide 7 Try.f7 rfl rfl rfl rfl rfl rfl rfl ⟨rfl, rfl, rfl, rfl, rfl⟩ rfl rfl rfl rfl rfl (by kernel_rfl) Try.func7 (by kernel_rfl)
    (of_decide_eq_true (by kernel_rfl)) (by unfold Func.isWrapper; first | (rw [if_pos (by decide +kernel)]; kernel_rfl) | (rw [if_neg (by decide +kernel)]; exact ⟨rfl, rfl⟩))
    (fun os started H enc _ => law_lift (s := Rows.packetKindsSpec) Try.func7 (by kernel_rfl) rfl rfl (by intro H ds hd; match ds, hd with | [_, _, _, _, _, _], _ => exact ⟨rfl, rfl, rfl⟩) (by kernel_rfl) packetKinds_walks os started H enc
      (ChangeSpec.witness6 (enc := enc) (C := Try.checked) false ⟨#[], #[.agg #[.bool false, .int .u8 0, .int .u8 0, .int .u8 0, .int .u8 0, .int .u8 0, .int .u8 0, .int .u8 0, .int .u8 0, .int .u8 0, .int .u8 0, .int .u8 0, .int .u8 0, .int .u8 0, .int .u8 0, .int .u8 0, .int .u8 0, .bool false, .int .u8 0, .int .u8 0, .int .u8 0, .int .u8 0, .int .u8 0, .int .u8 0, .int .u8 0, .int .u8 0, .int .u8 0, .int .u8 0, .int .u8 0, .int .u8 0, .int .u8 0, .int .u8 0, .int .u8 0, .int .u8 0, .int .i64 0, .int .i64 0, .int .i64 0], .int .i64 0, .slice none 0 0, .int .u16 0, .int .u8 0, .int .u8 0], []⟩ 8 (by kernel_rfl) (by kernel_rfl) (by kernel_rfl) (by kernel_rfl)))

end Go.Proofs.Ytdkaaffghendiaa
