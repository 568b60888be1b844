/-
  PROVED HERE: 'TunnelOuterSaid': whatever bytes frame and addresses src and dst are, the Go function TunnelOuter of package wayleavelaw13 returns true, and its arguments read behind the call as they read before. No condition.
-/
import Derived.Deep.DeepCutAuto
import Derived.Test.YtomkfcpellcncaaTSup
import Derived.Test.YtomkfcpellcncaaTAwake
import Derived.Test.YtomkfcpellcncaaTRNet
import Derived.Test.YtomkfcpellcncaaTSame
namespace Go.Proofs.Ytomkfcpellcncaa
set_option maxRecDepth 100000
open Go.RowKit Go.Lib Go.ChangeShapes Go.WideShapes Go.ChangeAt

/-- What is told of a frame that was wrapped. -/
theorem outer_math {xs : List UInt8} {s d : Ad} (hs : s.b.length = 16) (hd : d.b.length = 16) (h : wrapE xs s d = 0) :
    rdOf (wrapL xs s d) = ({ (rdOf xs).1 with ty := tyA s }, 0) ∧ ntK (tyA s) ((wrapL xs s d).drop (atK xs)) = ⟨0, lenT s, lenT s + (fN xs).total, false, asN (rdOf xs).1.ty, s, d⟩ ∧
    (wrapL xs s d).length = atK xs + (lenT s + (fN xs).total) ∧ (wrapL xs s d).drop (atK xs + lenT s) = packK xs := by
  obtain ⟨h0, hf, hm⟩ := wrapE_zero h
  obtain ⟨e1, e2, e3, e4⟩ := wrap_read hs hd h []
  rw [List.append_nil] at e1 e2 e3 e4
  rw [List.append_nil] at e4
  refine ⟨e1, ?_, wrapL_len hs hd h0, ?_⟩
  · have := fN_yes (xs := wrapL xs s d) (by rw [e1])
    rw [e3, e1, e2] at this
    exact this.symm
  · rw [← List.drop_drop, e4, ← headT_len hs hd (asN (rdOf xs).1.ty) (fN xs).total, List.drop_left]
set_option maxHeartbeats 32000000 in
theorem outer_4 (A : Option Addr) (len cap : Nat) (xs : List UInt8) (hca : len ≤ cap) (hma : cap ≤ maxLen) (s : Ad) (hs : s.b.length = 16) (d : Ad) (hd : d.b.length = 16) (hsx : s.six = false) (w : World) (hI : Rd w w.heap.size A len xs) :
    Calls Try.prog 6 #[.slice A len cap, adC s, adC d] w fun e w' => e = .returned (.bool true) ∧ Below w.heap.size w w' := by
  have hml : len ≤ 9223372036854775807 := by unfold maxLen at hma; omega
  obtain ⟨Y, hY, hq, hr, hbel⟩ := box_ads w s d
  have HXL := Lib.hid hI.len
  have HRX := Lib.hid (fun W (hB : Below w.heap.size w W) => (hI.below hB).more hB.size)
  have HCA := Lib.hid hca
  have HMA := Lib.hid hma
  have HS := Lib.hid hs
  have HD := Lib.hid hd
  have HQ := Lib.hid hq
  have HR := Lib.hid hr
  have HB := Lib.hid hbel
  obtain ⟨C0, hC0⟩ : ∃ C, (adL s).toArray = C := ⟨_, rfl⟩
  obtain ⟨C1, hC1⟩ : ∃ C, (adL d).toArray = C := ⟨_, rfl⟩
  have E0 := Lib.hid (show adC s = .agg C0 by rw [← hC0]; rfl)
  have E1 := Lib.hid (show adC d = .agg C1 by rw [← hC1]; rfl)
  rw [E0.out, E1.out]
  rw [hC0, hC1] at hY
  have HC0 := Lib.hid hC0
  have HC1 := Lib.hid hC1
  have HY := Lib.hid hY
  have HRR := Lib.hid (fun (p : Nat) (hp : p ≤ len) => hI.from (l := p) hp cap hca)
  have HCU := Lib.hid (fun (p T : Nat) (hp : p + T ≤ len) => hI.cut (l := p) (n := T) hp cap hca)
  have HSX := Lib.hid (fun W (h : Below Y.heap.size Y W) => show W.cell? ⟨w.heap.size, 0, none⟩ = some (.bool false) from hsx ▸ Blk_10.cell (HQ.out.below HQ.out.lt h) rfl)
  have HSXE := Lib.hid hsx
  clear hI hY hq hr hbel hC0 hC1 hs hd hca hma hsx
  go_enter Try.func6, Try.ntmps6
  go_wp2_with fail
  rw [HY.out]
  refine (awake_any _).mono ?_
  rintro e w1 ⟨rfl, hb1⟩
  have BY1 := Lib.hid hb1
  have HB1 := Lib.hid (HB.out.trans (hb1.mono HB.out.size))
  clear hb1
  by_cases hn : 3000 < len
  · have hn' : (3000 : Int) < (len : Int) := by omega
    have hnb : decide ((3000 : Int) < (len : Int)) = true := decide_eq_true hn'
    clear hn
    go_wp2_with fail
    refine (awake_any _).mono ?_
    rintro e w2 ⟨rfl, hb2⟩
    go_wp2_with fail
    go_ret
    exact ⟨rfl, HB1.out.trans (hb2.mono HB1.out.size)⟩
  · have hn' : ¬ (3000 : Int) < (len : Int) := by omega
    have hnb : decide ((3000 : Int) < (len : Int)) = false := decide_eq_false hn'
    have HN1 := Lib.hid (show len ≤ 3000 by omega)
    clear hn
    have TW := Lib.hid (fun W (h : Below w.heap.size w W) => E1.out ▸ E0.out ▸ twrap_any A len cap xs HS.out HD.out (by have := HN1.out; omega) HCA.out HMA.out W (HRX.out W h))
    obtain ⟨E, hE⟩ : ∃ E, wrapE xs s d = E := ⟨_, rfl⟩
    have HE := Lib.hid hE
    clear hE
    go_wp2_with (first
      | ((with_reducible show wpList _ _ _ (⟨some 35, _, _, _, _, _⟩ :: _) _ _); refine wpList_loadM (op := ⟨some 35, _, _, _, _, _⟩) 25 _ rfl (by rfl) w.heap.size 0 (by rfl) (adL s) (Blk_10.range (HQ.out.below HQ.out.lt BY1.out)) _ Try.underlying25 rfl (sizeAdL HS.out) ?_; rw [HC0.out])
      | ((with_reducible show wpList _ _ _ (⟨some 36, _, _, _, _, _⟩ :: _) _ _); refine wpList_loadM (op := ⟨some 36, _, _, _, _, _⟩) 25 _ rfl (by rfl) (w.heap.size + 1) 0 (by rfl) (adL d) (Blk_10.range (HR.out.below HR.out.lt BY1.out)) _ Try.underlying25 rfl (sizeAdL HD.out) ?_; rw [HC1.out]))
    refine (TW.out _ HB1.out).mono ?_
    rintro e w2 ⟨hy, hno, hb2⟩
    rw [HE.out] at hy hno
    have BY2 := Lib.hid (BY1.out.trans (hb2.mono BY1.out.size))
    have HB2 := Lib.hid (HB1.out.trans (hb2.mono HB1.out.size))
    clear hn' hnb
    by_cases h0 : E = 0
    case neg =>
      obtain rfl := hno h0
      have bE : ((E : Int) == 0) = false := beq_eq_false_iff_ne.2 (by omega)
      have bE2 : (E == 0) = false := beq_eq_false_iff_ne.2 h0
      have bE3 : ((E : Int) != 0) = true := by simp; omega
      clear hy hno hb2 h0
      go_wp2_with fail
      go_ret
      exact ⟨rfl, HB2.out⟩
    obtain ⟨v, rfl, ho⟩ := hy h0
    have h00 : wrapE xs s d = 0 := HE.out.trans h0
    have hF := frame_of (wrapE_zero h00).1
    have hM := outer_math HS.out HD.out h00
    have hlT : lenT s = 20 := by unfold lenT; rw [HSXE.out]; rfl
    have htA : tyA s = 2048 := by unfold tyA; rw [HSXE.out]; rfl
    have hpk : packK xs = (xs.drop (atK xs)).take (fN xs).total := rfl
    rw [hlT, htA] at hM
    obtain ⟨p, hp⟩ : ∃ p, atK xs = p := ⟨_, rfl⟩
    obtain ⟨n, hnn⟩ : ∃ n, fN xs = n := ⟨_, rfl⟩
    obtain ⟨L, hL⟩ : ∃ L, (rdOf xs).1 = L := ⟨_, rfl⟩
    obtain ⟨X, hX⟩ : ∃ X, wrapL xs s d = X := ⟨_, rfl⟩
    rw [hp, hnn, hL] at hF
    rw [hp, hnn, hL, hX] at hM
    rw [hX] at ho
    rw [hp, hnn] at hpk
    obtain ⟨T, hT⟩ : ∃ T, n.total = T := ⟨_, rfl⟩
    have hPT := hF.h2
    rw [hT] at hM hPT hpk
    rw [HXL.out] at hPT
    obtain ⟨m1, m2, m3, m4⟩ := hM
    obtain ⟨Q, hQQ⟩ : ∃ Q, p + 20 = Q := ⟨_, rfl⟩
    obtain ⟨S, hSS⟩ : ∃ S, 20 + T = S := ⟨_, rfl⟩
    obtain ⟨lx, hlx⟩ : ∃ k, X.length = k := ⟨_, rfl⟩
    rw [hQQ] at m4
    rw [hSS] at m2 m3
    rw [hlx] at m3
    obtain ⟨Ax, cx, rfl, hx1, hx2, _⟩ := ho.formN hlx
    have HX := Lib.hid ho
    have HLX := Lib.hid hlx
    have HXR := Lib.hid (fun W (h : Below w2.heap.size w2 W) => ((HX.out.below h).rdN HLX.out).2.2)
    have HN := Lib.hid (show p ≤ 22 ∧ p + T ≤ len ∧ lx = p + S ∧ S = 20 + T ∧ Q = p + 20 ∧ lx - Q = T ∧ Q ≤ lx from ⟨hF.p1, hPT, m3, hSS.symm, hQQ.symm, by omega, by omega⟩)
    have hN := HN.out
    have hHN := HN1.out
    -- the frame's side
    have hRD := rread_any_7 A len cap xs (by omega) w2 (HRX.out w2 HB2.out)
    unfold ReadGave_7 at hRD
    rw [hF.r] at hRD
    have HRD := Lib.hid hRD
    have HRE := Lib.hid (fun W (h : Below w2.heap.size w2 W) => rread_any_7 Ax lx cx X (by omega) W (HXR.out W h))
    unfold ReadGave_7 at HRE
    rw [m1] at HRE
    have H6 := Lib.hid hF.six
    have a1 := hF.at_
    have a2 := hF.p2
    rw [HXL.out] at a2
    have HR0 := HRR.out p a2
    have hcut := fun W => run_from8 A len cap p a2 W
    obtain ⟨RA, hRA⟩ : ∃ R, cutA A cap p = R := ⟨_, rfl⟩
    obtain ⟨rl, hrl⟩ : ∃ n, len - p = n := ⟨_, rfl⟩
    obtain ⟨rc, hrc⟩ : ∃ n, cap - p = n := ⟨_, rfl⟩
    have hrcl : rl ≤ rc := by have := HCA.out; omega
    rw [hRA, hrl, hrc] at hcut
    rw [hRA, hrl] at HR0
    have HR0 := Lib.hid HR0
    have HCUT := Lib.hid hcut
    obtain ⟨ty, hty⟩ : ∃ T, L.ty = T := ⟨_, rfl⟩
    have HTYE := Lib.hid hty
    have HTY := Lib.hid (fun tv => hty ▸ (lk_ty L H6.out tv).1)
    have HAT := Lib.hid (fun tv => show (lkL L tv)[14]? = some (.int .i64 (p : Int)) from a1 ▸ (lk_ty L H6.out tv).2)
    have HTY2 := Lib.hid (fun tv => (lk_ty { L with ty := 2048 } (six_ty H6.out _) tv).1)
    have HAT2 := Lib.hid (fun tv => show (lkL { L with ty := 2048 } tv)[14]? = some (.int .i64 (p : Int)) from a1 ▸ (lk_ty { L with ty := 2048 } (six_ty H6.out _) tv).2)
    have HST := Lib.hid (fun tv => show (lkL { L with ty := 2048 } tv).set 13 (.int .i64 ty) = lkL L tv from hty ▸ lk_set { L with ty := 2048 } (six_ty H6.out _) tv L.ty)
    have HNT := Lib.hid (fun W (hB : Below w.heap.size w W) => rnet_any ty RA rl rc (xs.drop p) (by omega) hrcl W ((HR0.out.below hB).more hB.size))
    rw [← hty, hF.nk, hty] at HNT
    unfold ntV at HNT
    rw [decide_eq_true hF.e, hT] at HNT
    obtain ⟨hh, hhd⟩ : ∃ T, n.head = T := ⟨_, rfl⟩
    obtain ⟨pr, hpr⟩ : ∃ T, n.proto = T := ⟨_, rfl⟩
    obtain ⟨fr, hfr⟩ : ∃ T, n.frag = T := ⟨_, rfl⟩
    rw [hhd, hpr, hfr] at HNT
    -- the wrapped frame's side
    have hxp : p ≤ lx := by omega
    have hcut2 := fun W => run_from8 Ax lx cx p hxp W
    have HXF := Lib.hid (fun W (h : Below w2.heap.size w2 W) => (HXR.out W h).from (l := p) hxp cx hx1)
    obtain ⟨XA, hXA⟩ : ∃ R, cutA Ax cx p = R := ⟨_, rfl⟩
    obtain ⟨xl, hxl⟩ : ∃ n, lx - p = n := ⟨_, rfl⟩
    obtain ⟨xc, hxc⟩ : ∃ n, cx - p = n := ⟨_, rfl⟩
    rw [hXA, hxl, hxc] at hcut2
    rw [hXA, hxl] at HXF
    have HCUT2 := Lib.hid hcut2
    have HNX := Lib.hid (fun (W : World) (hB : Below w2.heap.size w2 W) => show Calls Try.prog 16 #[.int .i64 2048, .slice XA xl xc] W fun e w' => e = .returned (.tuple #[.int .i64 20, .int .i64 (S : Int), .int .i64 (asN L.ty : Int), .bool false, .bool true]) ∧ Below W.heap.size W w' by
      have h := rnet_any 2048 XA xl xc (X.drop p) (by omega) (by omega) W (HXF.out W hB)
      rw [m2] at h
      exact h)
    obtain ⟨as_, has⟩ : ∃ a, asN L.ty = a := ⟨_, rfl⟩
    rw [has] at HNX
    -- the texts that are compared
    have hcut3 := fun W => run_from8 Ax lx cx Q (by omega) W
    have HXQ := Lib.hid (fun W (h : Below w2.heap.size w2 W) => (HXR.out W h).from (l := Q) (by omega) cx hx1)
    rw [m4] at HXQ
    rw [hN.2.2.2.2.2.1] at hcut3 HXQ
    have hcut4 := fun W => run_cut8 A len cap p T (p : Int) ((p : Int) + (T : Int)) rfl (by omega) (by have := HCA.out; omega) W
    have HPK := HCU.out p T hPT
    rw [← hpk] at HPK
    rw [hRA] at hcut4 HPK
    rw [hrc] at hcut4
    obtain ⟨XQ, hXQ⟩ : ∃ R, cutA Ax cx Q = R := ⟨_, rfl⟩
    obtain ⟨qc, hqc⟩ : ∃ R, cx - Q = R := ⟨_, rfl⟩
    rw [hXQ, hqc] at hcut3
    rw [hXQ] at HXQ
    have HPK := Lib.hid HPK
    have HCUT3 := Lib.hid hcut3
    have HCUT4 := Lib.hid hcut4
    have HW1 := Lib.hid (show IntKind.i64.wrap (20 + (T : Int)) = (S : Int) by rw [IntKind.wrap_i64]; omega)
    have HW2 := Lib.hid (show IntKind.i64.wrap ((p : Int) + (S : Int)) = (lx : Int) by rw [IntKind.wrap_i64]; omega)
    have HW3 := Lib.hid (show IntKind.i64.wrap ((lx : Int) - (T : Int)) = (Q : Int) by rw [IntKind.wrap_i64]; omega)
    have HW4 := Lib.hid (show IntKind.i64.wrap ((p : Int) + (T : Int)) = (p : Int) + (T : Int) by rw [IntKind.wrap_i64]; omega)
    have HAS := Lib.hid (show ((as_ : Int) == 41) = (ty == 34525) ∧ (as_ == 41) = (ty == 34525) by
      rw [← has, ← hty]
      rcases ntK_ty (ty := L.ty) (ys := xs.drop p) (by rw [hF.nk]; exact hF.e) with h | h <;> rw [h] <;> exact ⟨rfl, rfl⟩)
    have HTS := Lib.hid (show L.ts.length ≤ 2 from (right_parts hF.right).1)
    clear hy hno hb2 h0 h00 hp hnn hL hF hX ho hpk hT hPT m1 m2 m3 m4 hQQ hSS hlx hx1 hx2 hlT htA hRD a1 a2 hcut hRA hrl hrc hrcl hty hhd hpr hfr hxp hcut2 hXA hxl hxc has hcut3 hcut4 hXQ hqc hN hHN
    go_wp2_with fail
    refine HRD.out.mono ?_
    rintro e y1 ⟨tv, rfl, hown, hb1⟩
    obtain ⟨At, mt, ct, rfl, q1, q2, q3, q4, q5⟩ := hown.sl
    have HTA1 := Lib.hid hown
    have HD1 := Lib.hid hb1
    clear hb1 hown q1 q2 q3 q4 q5
    go_wp2_with (((with_reducible show wpList _ _ _ (⟨none, .store 41 (.tmp 9) (.tmp 48), _, _, _, _⟩ :: _) _ _); refine wpList_storeNewG (op := ⟨none, .store 41 (.tmp 9) (.tmp 48), _, _, _, _⟩) rfl 41 _ _ rfl (by rfl) (lkL L (.slice At mt ct)) (by rfl) (by rw [lkL_len H6.out]; rfl) (sizeLkL H6.out _) (lkL_one L _ rfl) ?_; intro y2 hl2 hb2 hz2; clear hz2; have HD2 := Lib.hid (HD1.out.trans (hb2.mono HD1.out.size)); have HTA2 := Lib.hid (HTA1.out.below hb2); have HLT1 := Lib.hid (fun g hg => (HTA1.out.lt g hg).2); have HK2 := Lib.hid hl2; clear hl2 hb2; generalize y1.heap.size = G1 at HK2 HLT1 ⊢))
    refine (HRE.out _ HD2.out).mono ?_
    rintro e y3 ⟨tv, rfl, hown, hb3⟩
    obtain ⟨Bt, nt, bt, rfl, q1, q2, q3, q4, q5⟩ := hown.sl
    have HTB3 := Lib.hid hown
    have HD3 := Lib.hid (HD2.out.trans (hb3.mono HD2.out.size))
    have HTA3 := Lib.hid (HTA2.out.below hb3)
    have HK3 := Lib.hid (HK2.out.below HK2.out.lt hb3)
    clear hb3 hown q1 q2 q3 q4 q5
    have hpp : ((p : Int) != (p : Int)) = false := by simp
    have hpp2 : (p != p) = false := by simp
    go_upto_region 10 with (((with_reducible show wpList _ _ _ (⟨none, .store 41 (.tmp 11) (.tmp 53), _, _, _, _⟩ :: _) _ _); refine wpList_storeNewG (op := ⟨none, .store 41 (.tmp 11) (.tmp 53), _, _, _, _⟩) rfl 41 _ _ rfl (by rfl) (lkL { L with ty := 2048 } (.slice Bt nt bt)) (by rfl) (by rw [lkL_len (six_ty H6.out _)]; rfl) (sizeLkL (six_ty H6.out _) _) (lkL_one _ _ rfl) ?_; intro y4 hl4 hb4 hz4; clear hz4; have HD4 := Lib.hid (HD3.out.trans (hb4.mono HD3.out.size)); have HTA4 := Lib.hid (HTA3.out.below hb4); have HTB4 := Lib.hid (HTB3.out.below hb4); have HLT3 := Lib.hid (fun g hg => (HTB3.out.lt g hg).2); have HLTA3 := Lib.hid (fun g hg => (HTA3.out.lt g hg).2); have HK4 := Lib.hid (HK3.out.below HK3.out.lt hb4); have HM4 := Lib.hid hl4; have HGG := Lib.hid HK3.out.lt; have HG2S := Lib.hid HD3.out.size; clear hl4 hb4; generalize y3.heap.size = G2 at HM4 HLT3 HLTA3 HGG HG2S ⊢; have c14 := Blk_10.cell HK4.out (HAT.out (.slice At mt ct)); have d14 := Blk_10.cell HM4.out (HAT2.out (.slice Bt nt bt))))
    have HBy4 := Lib.hid (HB2.out.trans (HD4.out.mono HB2.out.size))
    clear hpp hpp2 c14 d14
    have HT13 := Lib.hid (fun W (hW : Below y4.heap.size y4 W) => Blk_10.cell (HK4.out.below HK4.out.lt hW) (HTY.out (.slice At mt ct)))
    have HT14 := Lib.hid (fun W (hW : Below y4.heap.size y4 W) => Blk_10.cell (HK4.out.below HK4.out.lt hW) (HAT.out (.slice At mt ct)))
    refine wp_region_held_drew (S := fun W => Below y4.heap.size y4 W) (by kernel_rfl) ((Below.refl _ _).drew) (fun hHeld => ?_)
    obtain ⟨V, hV⟩ : ∃ V, y4.drew = V := ⟨_, rfl⟩
    rw [hV] at hHeld ⊢
    clear hV
    refine tk 0 69 (.pointer (some ⟨G1, 13, none⟩)) rfl hHeld ?_
    simp only [Act.put, sA, sZ, sS]
    refine tkY 1 70 (.int .i64 ty) rfl (Or.inl ⟨by rfl, fun W hW => by have hc := HT13.out W hW; go_simp⟩) hHeld ?_
    simp only [Act.put, sA, sZ, sS]
    refine tk 2 71 (.slice A len cap) rfl hHeld ?_
    simp only [Act.put, sA, sZ, sS]
    refine tk 3 72 (.pointer (some ⟨G1, 14, none⟩)) rfl hHeld ?_
    simp only [Act.put, sA, sZ, sS]
    refine tkY 4 73 (.int .i64 (p : Int)) rfl (Or.inl ⟨by rfl, fun W hW => by have hc := HT14.out W hW; go_simp⟩) hHeld ?_
    simp only [Act.put, sA, sZ, sS]
    refine tkY 5 74 (.slice RA rl rc) rfl (Or.inl ⟨by rfl, fun W _ => by have hs := HCUT.out W; go_simp⟩) hHeld ?_
    simp only [Act.put, sA, sZ, sS]
    refine wpAnyH_ready (rs := [6]) (by kernel_rfl) (by simp) (AllReadyH.cons (o := ⟨some 75, _, _, _, _, _⟩) rfl (fun K hK => ?_) AllReadyH.nil)
    go_simp
    refine (HNT.out _ (HBy4.out.trans (hHeld.mono HBy4.out.size))).mono ?_
    rintro e y5 ⟨rfl, hb_⟩
    refine hK.out _ _ (hHeld.trans (hb_.mono hHeld.size)) (fun hHeld => ?_)
    clear hK K hb_
    refine tk 7 68 (.tuple #[.int .i64 (hh : Int), .int .i64 (T : Int), .int .i64 (pr : Int), .bool fr, .bool true]) rfl hHeld ?_
    simp only [Act.put, sA, sZ, sS]
    refine tk 8 76 (.int .i64 (hh : Int)) rfl hHeld ?_
    simp only [Act.put, sA, sZ, sS]
    refine tk 9 77 (.int .i64 (T : Int)) rfl hHeld ?_
    simp only [Act.put, sA, sZ, sS]
    refine tk 10 78 (.int .i64 (pr : Int)) rfl hHeld ?_
    simp only [Act.put, sA, sZ, sS]
    refine tk 11 79 (.bool fr) rfl hHeld ?_
    simp only [Act.put, sA, sZ, sS]
    refine tk 12 80 (.bool true) rfl hHeld ?_
    simp only [Act.put, sA, sZ, sS]
    refine tk 13 13 (.int .i64 (hh : Int)) rfl hHeld ?_
    simp only [Act.put, sA, sZ, sS]
    refine tk 14 14 (.int .i64 (T : Int)) rfl hHeld ?_
    simp only [Act.put, sA, sZ, sS]
    refine tk 15 15 (.int .i64 (pr : Int)) rfl hHeld ?_
    simp only [Act.put, sA, sZ, sS]
    refine tk 16 16 (.bool fr) rfl hHeld ?_
    simp only [Act.put, sA, sZ, sS]
    refine tk 17 17 (.bool true) rfl hHeld ?_
    simp only [Act.put, sA, sZ, sS]
    refine wpAnyH_done (by kernel_rfl) ?_ _
    have HD5 := Lib.hid (HD4.out.trans (hHeld.mono HD4.out.size))
    have HE5 := Lib.hid hHeld
    clear hHeld HT13 HT14
    have HK5 := Lib.hid (HK4.out.below HK4.out.lt HE5.out)
    have HM5 := Lib.hid (HM4.out.below HM4.out.lt HE5.out)
    go_upto_region 11 with (fail)
    have HT13 := Lib.hid (fun W (hW : Below y5.heap.size y5 W) => Blk_10.cell (HM5.out.below HM5.out.lt hW) (HTY2.out (.slice Bt nt bt)))
    have HT14 := Lib.hid (fun W (hW : Below y5.heap.size y5 W) => Blk_10.cell (HM5.out.below HM5.out.lt hW) (HAT2.out (.slice Bt nt bt)))
    refine wp_region_held_drew (S := fun W => Below y5.heap.size y5 W) (by kernel_rfl) ((Below.refl _ _).drew) (fun hHeld => ?_)
    obtain ⟨V, hV⟩ : ∃ V, y5.drew = V := ⟨_, rfl⟩
    rw [hV] at hHeld ⊢
    clear hV
    refine tk 0 82 (.pointer (some ⟨G2, 13, none⟩)) rfl hHeld ?_
    simp only [Act.put, sA, sZ, sS]
    refine tkY 1 83 (.int .i64 2048) rfl (Or.inl ⟨by rfl, fun W hW => by have hc := HT13.out W hW; go_simp⟩) hHeld ?_
    simp only [Act.put, sA, sZ, sS]
    refine tk 2 84 (.slice Ax lx cx) rfl hHeld ?_
    simp only [Act.put, sA, sZ, sS]
    refine tk 3 85 (.pointer (some ⟨G2, 14, none⟩)) rfl hHeld ?_
    simp only [Act.put, sA, sZ, sS]
    refine tkY 4 86 (.int .i64 (p : Int)) rfl (Or.inl ⟨by rfl, fun W hW => by have hc := HT14.out W hW; go_simp⟩) hHeld ?_
    simp only [Act.put, sA, sZ, sS]
    refine tkY 5 87 (.slice XA xl xc) rfl (Or.inl ⟨by rfl, fun W _ => by have hs := HCUT2.out W; go_simp⟩) hHeld ?_
    simp only [Act.put, sA, sZ, sS]
    refine wpAnyH_ready (rs := [6]) (by kernel_rfl) (by simp) (AllReadyH.cons (o := ⟨some 88, _, _, _, _, _⟩) rfl (fun K hK => ?_) AllReadyH.nil)
    go_simp
    refine (HNX.out _ (HD5.out.trans (hHeld.mono HD5.out.size))).mono ?_
    rintro e y6 ⟨rfl, hb_⟩
    refine hK.out _ _ (hHeld.trans (hb_.mono hHeld.size)) (fun hHeld => ?_)
    clear hK K hb_
    refine tk 7 81 (.tuple #[.int .i64 20, .int .i64 (S : Int), .int .i64 (as_ : Int), .bool false, .bool true]) rfl hHeld ?_
    simp only [Act.put, sA, sZ, sS]
    refine tk 8 89 (.int .i64 20) rfl hHeld ?_
    simp only [Act.put, sA, sZ, sS]
    refine tk 9 90 (.int .i64 (S : Int)) rfl hHeld ?_
    simp only [Act.put, sA, sZ, sS]
    refine tk 10 91 (.int .i64 (as_ : Int)) rfl hHeld ?_
    simp only [Act.put, sA, sZ, sS]
    refine tk 11 92 (.bool false) rfl hHeld ?_
    simp only [Act.put, sA, sZ, sS]
    refine tk 12 93 (.bool true) rfl hHeld ?_
    simp only [Act.put, sA, sZ, sS]
    refine tk 13 18 (.int .i64 20) rfl hHeld ?_
    simp only [Act.put, sA, sZ, sS]
    refine tk 14 19 (.int .i64 (S : Int)) rfl hHeld ?_
    simp only [Act.put, sA, sZ, sS]
    refine tk 15 20 (.int .i64 (as_ : Int)) rfl hHeld ?_
    simp only [Act.put, sA, sZ, sS]
    refine tk 16 21 (.bool false) rfl hHeld ?_
    simp only [Act.put, sA, sZ, sS]
    refine tk 17 22 (.bool true) rfl hHeld ?_
    simp only [Act.put, sA, sZ, sS]
    refine wpAnyH_done (by kernel_rfl) ?_ _
    have HD6 := Lib.hid (HD5.out.trans (hHeld.mono HD5.out.size))
    have HE6 := Lib.hid (HE5.out.trans (hHeld.mono HE5.out.size))
    clear hHeld HT13 HT14 HK5 HM5
    have HK6 := Lib.hid (HK4.out.below HK4.out.lt HE6.out)
    have HM6 := Lib.hid (HM4.out.below HM4.out.lt HE6.out)
    have HTA6 := Lib.hid (HTA4.out.below HE6.out)
    have HTB6 := Lib.hid (HTB4.out.below HE6.out)
    have HB6 := Lib.hid (HB2.out.trans (HD6.out.mono HB2.out.size))
    go_upto_region 12 with (fail)
    have HT14 := Lib.hid (fun W (hW : Below y6.heap.size y6 W) => Blk_10.cell (HK6.out.below HK6.out.lt hW) (HAT.out (.slice At mt ct)))
    have HU14 := Lib.hid (fun W (hW : Below y6.heap.size y6 W) => Blk_10.cell (HM6.out.below HM6.out.lt hW) (HAT2.out (.slice Bt nt bt)))
    refine wp_region_held_drew (S := fun W => Below y6.heap.size y6 W) (by kernel_rfl) ((Below.refl _ _).drew) (fun hHeld => ?_)
    obtain ⟨V, hV⟩ : ∃ V, y6.drew = V := ⟨_, rfl⟩
    rw [hV] at hHeld ⊢
    clear hV
    refine tk 0 94 (.bool true) rfl hHeld ?_
    simp only [Act.put, sA, sZ, sS]
    refine tk 1 95 (.bool false) rfl hHeld ?_
    simp only [Act.put, sA, sZ, sS]
    refine tk 2 96 (.bool false) rfl hHeld ?_
    simp only [Act.put, sA, sZ, sS]
    refine tk 3 97 (.bool true) rfl hHeld ?_
    simp only [Act.put, sA, sZ, sS]
    refine tk 4 98 (.bool false) rfl hHeld ?_
    simp only [Act.put, sA, sZ, sS]
    refine tk 5 99 (.bool false) rfl hHeld ?_
    simp only [Act.put, sA, sZ, sS]
    refine tk 6 100 (.bool false) rfl hHeld ?_
    simp only [Act.put, sA, sZ, sS]
    refine tk 7 101 (.bool false) rfl hHeld ?_
    simp only [Act.put, sA, sZ, sS]
    refine tk 8 102 (.bool false) rfl hHeld ?_
    simp only [Act.put, sA, sZ, sS]
    refine tk 9 103 (.bool false) rfl hHeld ?_
    simp only [Act.put, sA, sZ, sS]
    refine tk 10 104 (.int .i64 (S : Int)) rfl hHeld ?_
    simp only [Act.put, sA, sZ, sS]
    refine tk 11 105 (.int .i64 20) rfl hHeld ?_
    simp only [Act.put, sA, sZ, sS]
    refine tk 12 106 (.int .i64 (T : Int)) rfl hHeld ?_
    simp only [Act.put, sA, sZ, sS]
    refine tkY 13 107 (.int .i64 (S : Int)) rfl (Or.inl ⟨by rfl, fun W _ => by have h_ := HW1.out; go_simp⟩) hHeld ?_
    simp only [Act.put, sA, sZ, sS]
    refine tkY 14 108 (.bool false) rfl (Or.inl ⟨by rfl, fun W _ => by have h_ := (show ((S : Int) != (S : Int)) = false by simp); go_simp⟩) hHeld ?_
    simp only [Act.put, sA, sZ, sS]
    refine tk 15 109 (.bool false) rfl hHeld ?_
    simp only [Act.put, sA, sZ, sS]
    refine tk 16 110 (.bool false) rfl hHeld ?_
    simp only [Act.put, sA, sZ, sS]
    refine tk 17 111 (.pointer (some ⟨G2, 14, none⟩)) rfl hHeld ?_
    simp only [Act.put, sA, sZ, sS]
    refine tkY 18 112 (.int .i64 (p : Int)) rfl (Or.inl ⟨by rfl, fun W hW => by have hc := HU14.out W hW; go_simp⟩) hHeld ?_
    simp only [Act.put, sA, sZ, sS]
    refine tk 19 113 (.int .i64 (S : Int)) rfl hHeld ?_
    simp only [Act.put, sA, sZ, sS]
    refine tkY 20 114 (.int .i64 (lx : Int)) rfl (Or.inl ⟨by rfl, fun W _ => by have h_ := HW2.out; go_simp⟩) hHeld ?_
    simp only [Act.put, sA, sZ, sS]
    refine tk 21 115 (.slice Ax lx cx) rfl hHeld ?_
    simp only [Act.put, sA, sZ, sS]
    refine tk 22 116 (.int .i64 (lx : Int)) rfl hHeld ?_
    simp only [Act.put, sA, sZ, sS]
    refine tkY 23 117 (.bool false) rfl (Or.inl ⟨by rfl, fun W _ => by have h_ := (show ((lx : Int) != (lx : Int)) = false by simp); go_simp⟩) hHeld ?_
    simp only [Act.put, sA, sZ, sS]
    refine tk 24 118 (.bool false) rfl hHeld ?_
    simp only [Act.put, sA, sZ, sS]
    refine tk 25 119 (.bool false) rfl hHeld ?_
    simp only [Act.put, sA, sZ, sS]
    refine tk 26 120 (.slice Ax lx cx) rfl hHeld ?_
    simp only [Act.put, sA, sZ, sS]
    refine tk 27 121 (.slice Ax lx cx) rfl hHeld ?_
    simp only [Act.put, sA, sZ, sS]
    refine tk 28 122 (.int .i64 (lx : Int)) rfl hHeld ?_
    simp only [Act.put, sA, sZ, sS]
    refine tk 29 123 (.int .i64 (T : Int)) rfl hHeld ?_
    simp only [Act.put, sA, sZ, sS]
    refine tkY 30 124 (.int .i64 (Q : Int)) rfl (Or.inl ⟨by rfl, fun W _ => by have h_ := HW3.out; go_simp⟩) hHeld ?_
    simp only [Act.put, sA, sZ, sS]
    refine tkY 31 125 (.slice XQ T qc) rfl (Or.inl ⟨by rfl, fun W _ => by have h_ := HCUT3.out W; go_simp⟩) hHeld ?_
    simp only [Act.put, sA, sZ, sS]
    refine tk 32 126 (.slice A len cap) rfl hHeld ?_
    simp only [Act.put, sA, sZ, sS]
    refine tk 33 127 (.pointer (some ⟨G1, 14, none⟩)) rfl hHeld ?_
    simp only [Act.put, sA, sZ, sS]
    refine tkY 34 128 (.int .i64 (p : Int)) rfl (Or.inl ⟨by rfl, fun W hW => by have hc := HT14.out W hW; go_simp⟩) hHeld ?_
    simp only [Act.put, sA, sZ, sS]
    refine tk 35 129 (.pointer (some ⟨G1, 14, none⟩)) rfl hHeld ?_
    simp only [Act.put, sA, sZ, sS]
    refine tkY 36 130 (.int .i64 (p : Int)) rfl (Or.inl ⟨by rfl, fun W hW => by have hc := HT14.out W hW; go_simp⟩) hHeld ?_
    simp only [Act.put, sA, sZ, sS]
    refine tk 37 131 (.int .i64 (T : Int)) rfl hHeld ?_
    simp only [Act.put, sA, sZ, sS]
    refine tkY 38 132 (.int .i64 ((p : Int) + (T : Int))) rfl (Or.inl ⟨by rfl, fun W _ => by have h_ := HW4.out; go_simp⟩) hHeld ?_
    simp only [Act.put, sA, sZ, sS]
    refine tkY 39 133 (.slice RA T rc) rfl (Or.inl ⟨by rfl, fun W _ => by have h_ := HCUT4.out W; go_simp⟩) hHeld ?_
    simp only [Act.put, sA, sZ, sS]
    have S1 := Lib.hid (same_any V qc rc (HXQ.out V (HD6.out.trans (hHeld.mono HD6.out.size))) (HPK.out.below (HB6.out.trans (hHeld.mono HB6.out.size))))
    refine wpAnyH_ready (rs := [40]) (by kernel_rfl) (by simp) (AllReadyH.cons (o := ⟨some 134, _, _, _, _, _⟩) rfl (fun K hK => ?_) AllReadyH.nil)
    go_simp
    refine S1.out.mono ?_
    rintro e w' ⟨rfl, rfl⟩
    refine hK.out _ _ (hHeld) (fun hHeld => ?_)
    clear hK K S1
    refine tk 41 135 (.bool false) rfl hHeld ?_
    simp only [Act.put, sA, sZ, sS]
    refine tk 42 136 (.bool false) rfl hHeld ?_
    simp only [Act.put, sA, sZ, sS]
    refine wpAnyH_done (by kernel_rfl) ?_ _
    have HD7 := Lib.hid (HD6.out.trans (hHeld.mono HD6.out.size))
    have HE7 := Lib.hid (HE6.out.trans (hHeld.mono HE6.out.size))
    clear hHeld HT14 HU14
    have HK7 := Lib.hid (HK4.out.below HK4.out.lt HE7.out)
    have HM7 := Lib.hid (HM4.out.below HM4.out.lt HE7.out)
    have HTA7 := Lib.hid (HTA4.out.below HE7.out)
    have HTB7 := Lib.hid (HTB4.out.below HE7.out)
    have HB7 := Lib.hid (HB2.out.trans (HD7.out.mono HB2.out.size))
    have BY7 := Lib.hid (BY2.out.trans (HD7.out.mono BY2.out.size))
    have sx7 := HSX.out _ BY7.out
    have c13 := Blk_10.cell HK7.out (HTY.out (.slice At mt ct))
    have d13 := Blk_10.cell HM7.out (HTY2.out (.slice Bt nt bt))
    have has1 := HAS.out.1
    have has2 := HAS.out.2
    have hbb : ((ty == 34525) == (ty == 34525)) = true := by simp
    go_wp2_with (first
      | ((with_reducible show wpList _ _ _ (⟨none, .store 3 (.tmp 143) _, _, _, _, _⟩ :: _) _ _); refine wpList_storeI_10 rfl (.tmp 143) _ rfl G2 13 (by rfl) ty (by rfl) 41 _ HM7.out 2048 (HTY2.out _) ?_; intro y8 hq8 hn8 hb8; rw [HST.out] at hq8; have HM8 := Lib.hid hq8; have HD8 := Lib.hid (HD7.out.trans (hb8.mono HG2S.out)); have HK8 := Lib.hid (show Blk y8 41 G1 _ from (hn8 _ (Nat.ne_of_lt HGG.out)).trans HK7.out); have HTA8 := Lib.hid (HTA7.out.kept (gb_of hn8 hb8) (own_ne HLTA3.out)); have HTB8 := Lib.hid (HTB7.out.kept (gb_of hn8 hb8) (own_ne HLT3.out)); have sx8 := HSX.out y8 (BY2.out.trans (HD8.out.mono BY2.out.size)); have c13' := Blk_10.cell HK8.out (HTY.out (.slice At mt ct)); clear hq8 hn8 hb8)
      | ((with_reducible show wpList _ _ _ (⟨some 163, _, _, _, _, _⟩ :: _) _ _); refine wpList_loadM (op := ⟨some 163, _, _, _, _, _⟩) 41 _ rfl (by rfl) G1 0 (by rfl) (lkL L (.slice At mt ct)) (Blk_10.range HK8.out) _ Try.underlying41 rfl (sizeLkL H6.out _) ?_)
      | ((with_reducible show wpList _ _ _ (⟨some 164, _, _, _, _, _⟩ :: _) _ _); refine wpList_loadM (op := ⟨some 164, _, _, _, _, _⟩) 41 _ rfl (by rfl) G2 0 (by rfl) (lkL L (.slice Bt nt bt)) (Blk_10.range HM8.out) _ Try.underlying41 rfl (sizeLkL H6.out _) ?_))
    refine (same_lk L H6.out ct bt (by have := HTS.out; have := (tags_of HTA8.out).size; omega) (Nat.le_refl _) (tags_of HTA8.out) (tags_of HTB8.out)).mono ?_
    rintro e y9 ⟨rfl, hb9⟩
    go_wp2_with fail
    go_ret
    have HB8 := HB2.out.trans (HD8.out.mono HB2.out.size)
    exact ⟨rfl, HB8.trans (hb9.mono HB8.size)⟩
set_option maxHeartbeats 32000000 in
theorem outer_6 (A : Option Addr) (len cap : Nat) (xs : List UInt8) (hca : len ≤ cap) (hma : cap ≤ maxLen) (s : Ad) (hs : s.b.length = 16) (d : Ad) (hd : d.b.length = 16) (hsx : s.six = true) (w : World) (hI : Rd w w.heap.size A len xs) :
    Calls Try.prog 6 #[.slice A len cap, adC s, adC d] w fun e w' => e = .returned (.bool true) ∧ Below w.heap.size w w' := by
  have hml : len ≤ 9223372036854775807 := by unfold maxLen at hma; omega
  obtain ⟨Y, hY, hq, hr, hbel⟩ := box_ads w s d
  have HXL := Lib.hid hI.len
  have HRX := Lib.hid (fun W (hB : Below w.heap.size w W) => (hI.below hB).more hB.size)
  have HCA := Lib.hid hca
  have HMA := Lib.hid hma
  have HS := Lib.hid hs
  have HD := Lib.hid hd
  have HQ := Lib.hid hq
  have HR := Lib.hid hr
  have HB := Lib.hid hbel
  obtain ⟨C0, hC0⟩ : ∃ C, (adL s).toArray = C := ⟨_, rfl⟩
  obtain ⟨C1, hC1⟩ : ∃ C, (adL d).toArray = C := ⟨_, rfl⟩
  have E0 := Lib.hid (show adC s = .agg C0 by rw [← hC0]; rfl)
  have E1 := Lib.hid (show adC d = .agg C1 by rw [← hC1]; rfl)
  rw [E0.out, E1.out]
  rw [hC0, hC1] at hY
  have HC0 := Lib.hid hC0
  have HC1 := Lib.hid hC1
  have HY := Lib.hid hY
  have HRR := Lib.hid (fun (p : Nat) (hp : p ≤ len) => hI.from (l := p) hp cap hca)
  have HCU := Lib.hid (fun (p T : Nat) (hp : p + T ≤ len) => hI.cut (l := p) (n := T) hp cap hca)
  have HSX := Lib.hid (fun W (h : Below Y.heap.size Y W) => show W.cell? ⟨w.heap.size, 0, none⟩ = some (.bool true) from hsx ▸ Blk_10.cell (HQ.out.below HQ.out.lt h) rfl)
  have HSXE := Lib.hid hsx
  clear hI hY hq hr hbel hC0 hC1 hs hd hca hma hsx
  go_enter Try.func6, Try.ntmps6
  go_wp2_with fail
  rw [HY.out]
  refine (awake_any _).mono ?_
  rintro e w1 ⟨rfl, hb1⟩
  have BY1 := Lib.hid hb1
  have HB1 := Lib.hid (HB.out.trans (hb1.mono HB.out.size))
  clear hb1
  by_cases hn : 3000 < len
  · have hn' : (3000 : Int) < (len : Int) := by omega
    have hnb : decide ((3000 : Int) < (len : Int)) = true := decide_eq_true hn'
    clear hn
    go_wp2_with fail
    refine (awake_any _).mono ?_
    rintro e w2 ⟨rfl, hb2⟩
    go_wp2_with fail
    go_ret
    exact ⟨rfl, HB1.out.trans (hb2.mono HB1.out.size)⟩
  · have hn' : ¬ (3000 : Int) < (len : Int) := by omega
    have hnb : decide ((3000 : Int) < (len : Int)) = false := decide_eq_false hn'
    have HN1 := Lib.hid (show len ≤ 3000 by omega)
    clear hn
    have TW := Lib.hid (fun W (h : Below w.heap.size w W) => E1.out ▸ E0.out ▸ twrap_any A len cap xs HS.out HD.out (by have := HN1.out; omega) HCA.out HMA.out W (HRX.out W h))
    obtain ⟨E, hE⟩ : ∃ E, wrapE xs s d = E := ⟨_, rfl⟩
    have HE := Lib.hid hE
    clear hE
    go_wp2_with (first
      | ((with_reducible show wpList _ _ _ (⟨some 35, _, _, _, _, _⟩ :: _) _ _); refine wpList_loadM (op := ⟨some 35, _, _, _, _, _⟩) 25 _ rfl (by rfl) w.heap.size 0 (by rfl) (adL s) (Blk_10.range (HQ.out.below HQ.out.lt BY1.out)) _ Try.underlying25 rfl (sizeAdL HS.out) ?_; rw [HC0.out])
      | ((with_reducible show wpList _ _ _ (⟨some 36, _, _, _, _, _⟩ :: _) _ _); refine wpList_loadM (op := ⟨some 36, _, _, _, _, _⟩) 25 _ rfl (by rfl) (w.heap.size + 1) 0 (by rfl) (adL d) (Blk_10.range (HR.out.below HR.out.lt BY1.out)) _ Try.underlying25 rfl (sizeAdL HD.out) ?_; rw [HC1.out]))
    refine (TW.out _ HB1.out).mono ?_
    rintro e w2 ⟨hy, hno, hb2⟩
    rw [HE.out] at hy hno
    have BY2 := Lib.hid (BY1.out.trans (hb2.mono BY1.out.size))
    have HB2 := Lib.hid (HB1.out.trans (hb2.mono HB1.out.size))
    clear hn' hnb
    by_cases h0 : E = 0
    case neg =>
      obtain rfl := hno h0
      have bE : ((E : Int) == 0) = false := beq_eq_false_iff_ne.2 (by omega)
      have bE2 : (E == 0) = false := beq_eq_false_iff_ne.2 h0
      have bE3 : ((E : Int) != 0) = true := by simp; omega
      clear hy hno hb2 h0
      go_wp2_with fail
      go_ret
      exact ⟨rfl, HB2.out⟩
    obtain ⟨v, rfl, ho⟩ := hy h0
    have h00 : wrapE xs s d = 0 := HE.out.trans h0
    have hF := frame_of (wrapE_zero h00).1
    have hM := outer_math HS.out HD.out h00
    have hlT : lenT s = 40 := by unfold lenT; rw [HSXE.out]; rfl
    have htA : tyA s = 34525 := by unfold tyA; rw [HSXE.out]; rfl
    have hpk : packK xs = (xs.drop (atK xs)).take (fN xs).total := rfl
    rw [hlT, htA] at hM
    obtain ⟨p, hp⟩ : ∃ p, atK xs = p := ⟨_, rfl⟩
    obtain ⟨n, hnn⟩ : ∃ n, fN xs = n := ⟨_, rfl⟩
    obtain ⟨L, hL⟩ : ∃ L, (rdOf xs).1 = L := ⟨_, rfl⟩
    obtain ⟨X, hX⟩ : ∃ X, wrapL xs s d = X := ⟨_, rfl⟩
    rw [hp, hnn, hL] at hF
    rw [hp, hnn, hL, hX] at hM
    rw [hX] at ho
    rw [hp, hnn] at hpk
    obtain ⟨T, hT⟩ : ∃ T, n.total = T := ⟨_, rfl⟩
    have hPT := hF.h2
    rw [hT] at hM hPT hpk
    rw [HXL.out] at hPT
    obtain ⟨m1, m2, m3, m4⟩ := hM
    obtain ⟨Q, hQQ⟩ : ∃ Q, p + 40 = Q := ⟨_, rfl⟩
    obtain ⟨S, hSS⟩ : ∃ S, 40 + T = S := ⟨_, rfl⟩
    obtain ⟨lx, hlx⟩ : ∃ k, X.length = k := ⟨_, rfl⟩
    rw [hQQ] at m4
    rw [hSS] at m2 m3
    rw [hlx] at m3
    obtain ⟨Ax, cx, rfl, hx1, hx2, _⟩ := ho.formN hlx
    have HX := Lib.hid ho
    have HLX := Lib.hid hlx
    have HXR := Lib.hid (fun W (h : Below w2.heap.size w2 W) => ((HX.out.below h).rdN HLX.out).2.2)
    have HN := Lib.hid (show p ≤ 22 ∧ p + T ≤ len ∧ lx = p + S ∧ S = 40 + T ∧ Q = p + 40 ∧ lx - Q = T ∧ Q ≤ lx from ⟨hF.p1, hPT, m3, hSS.symm, hQQ.symm, by omega, by omega⟩)
    have hN := HN.out
    have hHN := HN1.out
    -- the frame's side
    have hRD := rread_any_7 A len cap xs (by omega) w2 (HRX.out w2 HB2.out)
    unfold ReadGave_7 at hRD
    rw [hF.r] at hRD
    have HRD := Lib.hid hRD
    have HRE := Lib.hid (fun W (h : Below w2.heap.size w2 W) => rread_any_7 Ax lx cx X (by omega) W (HXR.out W h))
    unfold ReadGave_7 at HRE
    rw [m1] at HRE
    have H6 := Lib.hid hF.six
    have a1 := hF.at_
    have a2 := hF.p2
    rw [HXL.out] at a2
    have HR0 := HRR.out p a2
    have hcut := fun W => run_from8 A len cap p a2 W
    obtain ⟨RA, hRA⟩ : ∃ R, cutA A cap p = R := ⟨_, rfl⟩
    obtain ⟨rl, hrl⟩ : ∃ n, len - p = n := ⟨_, rfl⟩
    obtain ⟨rc, hrc⟩ : ∃ n, cap - p = n := ⟨_, rfl⟩
    have hrcl : rl ≤ rc := by have := HCA.out; omega
    rw [hRA, hrl, hrc] at hcut
    rw [hRA, hrl] at HR0
    have HR0 := Lib.hid HR0
    have HCUT := Lib.hid hcut
    obtain ⟨ty, hty⟩ : ∃ T, L.ty = T := ⟨_, rfl⟩
    have HTYE := Lib.hid hty
    have HTY := Lib.hid (fun tv => hty ▸ (lk_ty L H6.out tv).1)
    have HAT := Lib.hid (fun tv => show (lkL L tv)[14]? = some (.int .i64 (p : Int)) from a1 ▸ (lk_ty L H6.out tv).2)
    have HTY2 := Lib.hid (fun tv => (lk_ty { L with ty := 34525 } (six_ty H6.out _) tv).1)
    have HAT2 := Lib.hid (fun tv => show (lkL { L with ty := 34525 } tv)[14]? = some (.int .i64 (p : Int)) from a1 ▸ (lk_ty { L with ty := 34525 } (six_ty H6.out _) tv).2)
    have HST := Lib.hid (fun tv => show (lkL { L with ty := 34525 } tv).set 13 (.int .i64 ty) = lkL L tv from hty ▸ lk_set { L with ty := 34525 } (six_ty H6.out _) tv L.ty)
    have HNT := Lib.hid (fun W (hB : Below w.heap.size w W) => rnet_any ty RA rl rc (xs.drop p) (by omega) hrcl W ((HR0.out.below hB).more hB.size))
    rw [← hty, hF.nk, hty] at HNT
    unfold ntV at HNT
    rw [decide_eq_true hF.e, hT] at HNT
    obtain ⟨hh, hhd⟩ : ∃ T, n.head = T := ⟨_, rfl⟩
    obtain ⟨pr, hpr⟩ : ∃ T, n.proto = T := ⟨_, rfl⟩
    obtain ⟨fr, hfr⟩ : ∃ T, n.frag = T := ⟨_, rfl⟩
    rw [hhd, hpr, hfr] at HNT
    -- the wrapped frame's side
    have hxp : p ≤ lx := by omega
    have hcut2 := fun W => run_from8 Ax lx cx p hxp W
    have HXF := Lib.hid (fun W (h : Below w2.heap.size w2 W) => (HXR.out W h).from (l := p) hxp cx hx1)
    obtain ⟨XA, hXA⟩ : ∃ R, cutA Ax cx p = R := ⟨_, rfl⟩
    obtain ⟨xl, hxl⟩ : ∃ n, lx - p = n := ⟨_, rfl⟩
    obtain ⟨xc, hxc⟩ : ∃ n, cx - p = n := ⟨_, rfl⟩
    rw [hXA, hxl, hxc] at hcut2
    rw [hXA, hxl] at HXF
    have HCUT2 := Lib.hid hcut2
    have HNX := Lib.hid (fun (W : World) (hB : Below w2.heap.size w2 W) => show Calls Try.prog 16 #[.int .i64 34525, .slice XA xl xc] W fun e w' => e = .returned (.tuple #[.int .i64 40, .int .i64 (S : Int), .int .i64 (asN L.ty : Int), .bool false, .bool true]) ∧ Below W.heap.size W w' by
      have h := rnet_any 34525 XA xl xc (X.drop p) (by omega) (by omega) W (HXF.out W hB)
      rw [m2] at h
      exact h)
    obtain ⟨as_, has⟩ : ∃ a, asN L.ty = a := ⟨_, rfl⟩
    rw [has] at HNX
    -- the texts that are compared
    have hcut3 := fun W => run_from8 Ax lx cx Q (by omega) W
    have HXQ := Lib.hid (fun W (h : Below w2.heap.size w2 W) => (HXR.out W h).from (l := Q) (by omega) cx hx1)
    rw [m4] at HXQ
    rw [hN.2.2.2.2.2.1] at hcut3 HXQ
    have hcut4 := fun W => run_cut8 A len cap p T (p : Int) ((p : Int) + (T : Int)) rfl (by omega) (by have := HCA.out; omega) W
    have HPK := HCU.out p T hPT
    rw [← hpk] at HPK
    rw [hRA] at hcut4 HPK
    rw [hrc] at hcut4
    obtain ⟨XQ, hXQ⟩ : ∃ R, cutA Ax cx Q = R := ⟨_, rfl⟩
    obtain ⟨qc, hqc⟩ : ∃ R, cx - Q = R := ⟨_, rfl⟩
    rw [hXQ, hqc] at hcut3
    rw [hXQ] at HXQ
    have HPK := Lib.hid HPK
    have HCUT3 := Lib.hid hcut3
    have HCUT4 := Lib.hid hcut4
    have HW1 := Lib.hid (show IntKind.i64.wrap (40 + (T : Int)) = (S : Int) by rw [IntKind.wrap_i64]; omega)
    have HW2 := Lib.hid (show IntKind.i64.wrap ((p : Int) + (S : Int)) = (lx : Int) by rw [IntKind.wrap_i64]; omega)
    have HW3 := Lib.hid (show IntKind.i64.wrap ((lx : Int) - (T : Int)) = (Q : Int) by rw [IntKind.wrap_i64]; omega)
    have HW4 := Lib.hid (show IntKind.i64.wrap ((p : Int) + (T : Int)) = (p : Int) + (T : Int) by rw [IntKind.wrap_i64]; omega)
    have HAS := Lib.hid (show ((as_ : Int) == 41) = (ty == 34525) ∧ (as_ == 41) = (ty == 34525) by
      rw [← has, ← hty]
      rcases ntK_ty (ty := L.ty) (ys := xs.drop p) (by rw [hF.nk]; exact hF.e) with h | h <;> rw [h] <;> exact ⟨rfl, rfl⟩)
    have HTS := Lib.hid (show L.ts.length ≤ 2 from (right_parts hF.right).1)
    clear hy hno hb2 h0 h00 hp hnn hL hF hX ho hpk hT hPT m1 m2 m3 m4 hQQ hSS hlx hx1 hx2 hlT htA hRD a1 a2 hcut hRA hrl hrc hrcl hty hhd hpr hfr hxp hcut2 hXA hxl hxc has hcut3 hcut4 hXQ hqc hN hHN
    go_wp2_with fail
    refine HRD.out.mono ?_
    rintro e y1 ⟨tv, rfl, hown, hb1⟩
    obtain ⟨At, mt, ct, rfl, q1, q2, q3, q4, q5⟩ := hown.sl
    have HTA1 := Lib.hid hown
    have HD1 := Lib.hid hb1
    clear hb1 hown q1 q2 q3 q4 q5
    go_wp2_with (((with_reducible show wpList _ _ _ (⟨none, .store 41 (.tmp 9) (.tmp 48), _, _, _, _⟩ :: _) _ _); refine wpList_storeNewG (op := ⟨none, .store 41 (.tmp 9) (.tmp 48), _, _, _, _⟩) rfl 41 _ _ rfl (by rfl) (lkL L (.slice At mt ct)) (by rfl) (by rw [lkL_len H6.out]; rfl) (sizeLkL H6.out _) (lkL_one L _ rfl) ?_; intro y2 hl2 hb2 hz2; clear hz2; have HD2 := Lib.hid (HD1.out.trans (hb2.mono HD1.out.size)); have HTA2 := Lib.hid (HTA1.out.below hb2); have HLT1 := Lib.hid (fun g hg => (HTA1.out.lt g hg).2); have HK2 := Lib.hid hl2; clear hl2 hb2; generalize y1.heap.size = G1 at HK2 HLT1 ⊢))
    refine (HRE.out _ HD2.out).mono ?_
    rintro e y3 ⟨tv, rfl, hown, hb3⟩
    obtain ⟨Bt, nt, bt, rfl, q1, q2, q3, q4, q5⟩ := hown.sl
    have HTB3 := Lib.hid hown
    have HD3 := Lib.hid (HD2.out.trans (hb3.mono HD2.out.size))
    have HTA3 := Lib.hid (HTA2.out.below hb3)
    have HK3 := Lib.hid (HK2.out.below HK2.out.lt hb3)
    clear hb3 hown q1 q2 q3 q4 q5
    have hpp : ((p : Int) != (p : Int)) = false := by simp
    have hpp2 : (p != p) = false := by simp
    go_upto_region 10 with (((with_reducible show wpList _ _ _ (⟨none, .store 41 (.tmp 11) (.tmp 53), _, _, _, _⟩ :: _) _ _); refine wpList_storeNewG (op := ⟨none, .store 41 (.tmp 11) (.tmp 53), _, _, _, _⟩) rfl 41 _ _ rfl (by rfl) (lkL { L with ty := 34525 } (.slice Bt nt bt)) (by rfl) (by rw [lkL_len (six_ty H6.out _)]; rfl) (sizeLkL (six_ty H6.out _) _) (lkL_one _ _ rfl) ?_; intro y4 hl4 hb4 hz4; clear hz4; have HD4 := Lib.hid (HD3.out.trans (hb4.mono HD3.out.size)); have HTA4 := Lib.hid (HTA3.out.below hb4); have HTB4 := Lib.hid (HTB3.out.below hb4); have HLT3 := Lib.hid (fun g hg => (HTB3.out.lt g hg).2); have HLTA3 := Lib.hid (fun g hg => (HTA3.out.lt g hg).2); have HK4 := Lib.hid (HK3.out.below HK3.out.lt hb4); have HM4 := Lib.hid hl4; have HGG := Lib.hid HK3.out.lt; have HG2S := Lib.hid HD3.out.size; clear hl4 hb4; generalize y3.heap.size = G2 at HM4 HLT3 HLTA3 HGG HG2S ⊢; have c14 := Blk_10.cell HK4.out (HAT.out (.slice At mt ct)); have d14 := Blk_10.cell HM4.out (HAT2.out (.slice Bt nt bt))))
    have HBy4 := Lib.hid (HB2.out.trans (HD4.out.mono HB2.out.size))
    clear hpp hpp2 c14 d14
    have HT13 := Lib.hid (fun W (hW : Below y4.heap.size y4 W) => Blk_10.cell (HK4.out.below HK4.out.lt hW) (HTY.out (.slice At mt ct)))
    have HT14 := Lib.hid (fun W (hW : Below y4.heap.size y4 W) => Blk_10.cell (HK4.out.below HK4.out.lt hW) (HAT.out (.slice At mt ct)))
    refine wp_region_held_drew (S := fun W => Below y4.heap.size y4 W) (by kernel_rfl) ((Below.refl _ _).drew) (fun hHeld => ?_)
    obtain ⟨V, hV⟩ : ∃ V, y4.drew = V := ⟨_, rfl⟩
    rw [hV] at hHeld ⊢
    clear hV
    refine tk 0 69 (.pointer (some ⟨G1, 13, none⟩)) rfl hHeld ?_
    simp only [Act.put, sA, sZ, sS]
    refine tkY 1 70 (.int .i64 ty) rfl (Or.inl ⟨by rfl, fun W hW => by have hc := HT13.out W hW; go_simp⟩) hHeld ?_
    simp only [Act.put, sA, sZ, sS]
    refine tk 2 71 (.slice A len cap) rfl hHeld ?_
    simp only [Act.put, sA, sZ, sS]
    refine tk 3 72 (.pointer (some ⟨G1, 14, none⟩)) rfl hHeld ?_
    simp only [Act.put, sA, sZ, sS]
    refine tkY 4 73 (.int .i64 (p : Int)) rfl (Or.inl ⟨by rfl, fun W hW => by have hc := HT14.out W hW; go_simp⟩) hHeld ?_
    simp only [Act.put, sA, sZ, sS]
    refine tkY 5 74 (.slice RA rl rc) rfl (Or.inl ⟨by rfl, fun W _ => by have hs := HCUT.out W; go_simp⟩) hHeld ?_
    simp only [Act.put, sA, sZ, sS]
    refine wpAnyH_ready (rs := [6]) (by kernel_rfl) (by simp) (AllReadyH.cons (o := ⟨some 75, _, _, _, _, _⟩) rfl (fun K hK => ?_) AllReadyH.nil)
    go_simp
    refine (HNT.out _ (HBy4.out.trans (hHeld.mono HBy4.out.size))).mono ?_
    rintro e y5 ⟨rfl, hb_⟩
    refine hK.out _ _ (hHeld.trans (hb_.mono hHeld.size)) (fun hHeld => ?_)
    clear hK K hb_
    refine tk 7 68 (.tuple #[.int .i64 (hh : Int), .int .i64 (T : Int), .int .i64 (pr : Int), .bool fr, .bool true]) rfl hHeld ?_
    simp only [Act.put, sA, sZ, sS]
    refine tk 8 76 (.int .i64 (hh : Int)) rfl hHeld ?_
    simp only [Act.put, sA, sZ, sS]
    refine tk 9 77 (.int .i64 (T : Int)) rfl hHeld ?_
    simp only [Act.put, sA, sZ, sS]
    refine tk 10 78 (.int .i64 (pr : Int)) rfl hHeld ?_
    simp only [Act.put, sA, sZ, sS]
    refine tk 11 79 (.bool fr) rfl hHeld ?_
    simp only [Act.put, sA, sZ, sS]
    refine tk 12 80 (.bool true) rfl hHeld ?_
    simp only [Act.put, sA, sZ, sS]
    refine tk 13 13 (.int .i64 (hh : Int)) rfl hHeld ?_
    simp only [Act.put, sA, sZ, sS]
    refine tk 14 14 (.int .i64 (T : Int)) rfl hHeld ?_
    simp only [Act.put, sA, sZ, sS]
    refine tk 15 15 (.int .i64 (pr : Int)) rfl hHeld ?_
    simp only [Act.put, sA, sZ, sS]
    refine tk 16 16 (.bool fr) rfl hHeld ?_
    simp only [Act.put, sA, sZ, sS]
    refine tk 17 17 (.bool true) rfl hHeld ?_
    simp only [Act.put, sA, sZ, sS]
    refine wpAnyH_done (by kernel_rfl) ?_ _
    have HD5 := Lib.hid (HD4.out.trans (hHeld.mono HD4.out.size))
    have HE5 := Lib.hid hHeld
    clear hHeld HT13 HT14
    have HK5 := Lib.hid (HK4.out.below HK4.out.lt HE5.out)
    have HM5 := Lib.hid (HM4.out.below HM4.out.lt HE5.out)
    go_upto_region 11 with (fail)
    have HT13 := Lib.hid (fun W (hW : Below y5.heap.size y5 W) => Blk_10.cell (HM5.out.below HM5.out.lt hW) (HTY2.out (.slice Bt nt bt)))
    have HT14 := Lib.hid (fun W (hW : Below y5.heap.size y5 W) => Blk_10.cell (HM5.out.below HM5.out.lt hW) (HAT2.out (.slice Bt nt bt)))
    refine wp_region_held_drew (S := fun W => Below y5.heap.size y5 W) (by kernel_rfl) ((Below.refl _ _).drew) (fun hHeld => ?_)
    obtain ⟨V, hV⟩ : ∃ V, y5.drew = V := ⟨_, rfl⟩
    rw [hV] at hHeld ⊢
    clear hV
    refine tk 0 82 (.pointer (some ⟨G2, 13, none⟩)) rfl hHeld ?_
    simp only [Act.put, sA, sZ, sS]
    refine tkY 1 83 (.int .i64 34525) rfl (Or.inl ⟨by rfl, fun W hW => by have hc := HT13.out W hW; go_simp⟩) hHeld ?_
    simp only [Act.put, sA, sZ, sS]
    refine tk 2 84 (.slice Ax lx cx) rfl hHeld ?_
    simp only [Act.put, sA, sZ, sS]
    refine tk 3 85 (.pointer (some ⟨G2, 14, none⟩)) rfl hHeld ?_
    simp only [Act.put, sA, sZ, sS]
    refine tkY 4 86 (.int .i64 (p : Int)) rfl (Or.inl ⟨by rfl, fun W hW => by have hc := HT14.out W hW; go_simp⟩) hHeld ?_
    simp only [Act.put, sA, sZ, sS]
    refine tkY 5 87 (.slice XA xl xc) rfl (Or.inl ⟨by rfl, fun W _ => by have hs := HCUT2.out W; go_simp⟩) hHeld ?_
    simp only [Act.put, sA, sZ, sS]
    refine wpAnyH_ready (rs := [6]) (by kernel_rfl) (by simp) (AllReadyH.cons (o := ⟨some 88, _, _, _, _, _⟩) rfl (fun K hK => ?_) AllReadyH.nil)
    go_simp
    refine (HNX.out _ (HD5.out.trans (hHeld.mono HD5.out.size))).mono ?_
    rintro e y6 ⟨rfl, hb_⟩
    refine hK.out _ _ (hHeld.trans (hb_.mono hHeld.size)) (fun hHeld => ?_)
    clear hK K hb_
    refine tk 7 81 (.tuple #[.int .i64 40, .int .i64 (S : Int), .int .i64 (as_ : Int), .bool false, .bool true]) rfl hHeld ?_
    simp only [Act.put, sA, sZ, sS]
    refine tk 8 89 (.int .i64 40) rfl hHeld ?_
    simp only [Act.put, sA, sZ, sS]
    refine tk 9 90 (.int .i64 (S : Int)) rfl hHeld ?_
    simp only [Act.put, sA, sZ, sS]
    refine tk 10 91 (.int .i64 (as_ : Int)) rfl hHeld ?_
    simp only [Act.put, sA, sZ, sS]
    refine tk 11 92 (.bool false) rfl hHeld ?_
    simp only [Act.put, sA, sZ, sS]
    refine tk 12 93 (.bool true) rfl hHeld ?_
    simp only [Act.put, sA, sZ, sS]
    refine tk 13 18 (.int .i64 40) rfl hHeld ?_
    simp only [Act.put, sA, sZ, sS]
    refine tk 14 19 (.int .i64 (S : Int)) rfl hHeld ?_
    simp only [Act.put, sA, sZ, sS]
    refine tk 15 20 (.int .i64 (as_ : Int)) rfl hHeld ?_
    simp only [Act.put, sA, sZ, sS]
    refine tk 16 21 (.bool false) rfl hHeld ?_
    simp only [Act.put, sA, sZ, sS]
    refine tk 17 22 (.bool true) rfl hHeld ?_
    simp only [Act.put, sA, sZ, sS]
    refine wpAnyH_done (by kernel_rfl) ?_ _
    have HD6 := Lib.hid (HD5.out.trans (hHeld.mono HD5.out.size))
    have HE6 := Lib.hid (HE5.out.trans (hHeld.mono HE5.out.size))
    clear hHeld HT13 HT14 HK5 HM5
    have HK6 := Lib.hid (HK4.out.below HK4.out.lt HE6.out)
    have HM6 := Lib.hid (HM4.out.below HM4.out.lt HE6.out)
    have HTA6 := Lib.hid (HTA4.out.below HE6.out)
    have HTB6 := Lib.hid (HTB4.out.below HE6.out)
    have HB6 := Lib.hid (HB2.out.trans (HD6.out.mono HB2.out.size))
    go_upto_region 12 with (fail)
    have HT14 := Lib.hid (fun W (hW : Below y6.heap.size y6 W) => Blk_10.cell (HK6.out.below HK6.out.lt hW) (HAT.out (.slice At mt ct)))
    have HU14 := Lib.hid (fun W (hW : Below y6.heap.size y6 W) => Blk_10.cell (HM6.out.below HM6.out.lt hW) (HAT2.out (.slice Bt nt bt)))
    refine wp_region_held_drew (S := fun W => Below y6.heap.size y6 W) (by kernel_rfl) ((Below.refl _ _).drew) (fun hHeld => ?_)
    obtain ⟨V, hV⟩ : ∃ V, y6.drew = V := ⟨_, rfl⟩
    rw [hV] at hHeld ⊢
    clear hV
    refine tk 0 94 (.bool true) rfl hHeld ?_
    simp only [Act.put, sA, sZ, sS]
    refine tk 1 95 (.bool false) rfl hHeld ?_
    simp only [Act.put, sA, sZ, sS]
    refine tk 2 96 (.bool false) rfl hHeld ?_
    simp only [Act.put, sA, sZ, sS]
    refine tk 3 97 (.bool true) rfl hHeld ?_
    simp only [Act.put, sA, sZ, sS]
    refine tk 4 98 (.bool false) rfl hHeld ?_
    simp only [Act.put, sA, sZ, sS]
    refine tk 5 99 (.bool false) rfl hHeld ?_
    simp only [Act.put, sA, sZ, sS]
    refine tk 6 100 (.bool false) rfl hHeld ?_
    simp only [Act.put, sA, sZ, sS]
    refine tk 7 101 (.bool false) rfl hHeld ?_
    simp only [Act.put, sA, sZ, sS]
    refine tk 8 102 (.bool false) rfl hHeld ?_
    simp only [Act.put, sA, sZ, sS]
    refine tk 9 103 (.bool false) rfl hHeld ?_
    simp only [Act.put, sA, sZ, sS]
    refine tk 10 104 (.int .i64 (S : Int)) rfl hHeld ?_
    simp only [Act.put, sA, sZ, sS]
    refine tk 11 105 (.int .i64 40) rfl hHeld ?_
    simp only [Act.put, sA, sZ, sS]
    refine tk 12 106 (.int .i64 (T : Int)) rfl hHeld ?_
    simp only [Act.put, sA, sZ, sS]
    refine tkY 13 107 (.int .i64 (S : Int)) rfl (Or.inl ⟨by rfl, fun W _ => by have h_ := HW1.out; go_simp⟩) hHeld ?_
    simp only [Act.put, sA, sZ, sS]
    refine tkY 14 108 (.bool false) rfl (Or.inl ⟨by rfl, fun W _ => by have h_ := (show ((S : Int) != (S : Int)) = false by simp); go_simp⟩) hHeld ?_
    simp only [Act.put, sA, sZ, sS]
    refine tk 15 109 (.bool false) rfl hHeld ?_
    simp only [Act.put, sA, sZ, sS]
    refine tk 16 110 (.bool false) rfl hHeld ?_
    simp only [Act.put, sA, sZ, sS]
    refine tk 17 111 (.pointer (some ⟨G2, 14, none⟩)) rfl hHeld ?_
    simp only [Act.put, sA, sZ, sS]
    refine tkY 18 112 (.int .i64 (p : Int)) rfl (Or.inl ⟨by rfl, fun W hW => by have hc := HU14.out W hW; go_simp⟩) hHeld ?_
    simp only [Act.put, sA, sZ, sS]
    refine tk 19 113 (.int .i64 (S : Int)) rfl hHeld ?_
    simp only [Act.put, sA, sZ, sS]
    refine tkY 20 114 (.int .i64 (lx : Int)) rfl (Or.inl ⟨by rfl, fun W _ => by have h_ := HW2.out; go_simp⟩) hHeld ?_
    simp only [Act.put, sA, sZ, sS]
    refine tk 21 115 (.slice Ax lx cx) rfl hHeld ?_
    simp only [Act.put, sA, sZ, sS]
    refine tk 22 116 (.int .i64 (lx : Int)) rfl hHeld ?_
    simp only [Act.put, sA, sZ, sS]
    refine tkY 23 117 (.bool false) rfl (Or.inl ⟨by rfl, fun W _ => by have h_ := (show ((lx : Int) != (lx : Int)) = false by simp); go_simp⟩) hHeld ?_
    simp only [Act.put, sA, sZ, sS]
    refine tk 24 118 (.bool false) rfl hHeld ?_
    simp only [Act.put, sA, sZ, sS]
    refine tk 25 119 (.bool false) rfl hHeld ?_
    simp only [Act.put, sA, sZ, sS]
    refine tk 26 120 (.slice Ax lx cx) rfl hHeld ?_
    simp only [Act.put, sA, sZ, sS]
    refine tk 27 121 (.slice Ax lx cx) rfl hHeld ?_
    simp only [Act.put, sA, sZ, sS]
    refine tk 28 122 (.int .i64 (lx : Int)) rfl hHeld ?_
    simp only [Act.put, sA, sZ, sS]
    refine tk 29 123 (.int .i64 (T : Int)) rfl hHeld ?_
    simp only [Act.put, sA, sZ, sS]
    refine tkY 30 124 (.int .i64 (Q : Int)) rfl (Or.inl ⟨by rfl, fun W _ => by have h_ := HW3.out; go_simp⟩) hHeld ?_
    simp only [Act.put, sA, sZ, sS]
    refine tkY 31 125 (.slice XQ T qc) rfl (Or.inl ⟨by rfl, fun W _ => by have h_ := HCUT3.out W; go_simp⟩) hHeld ?_
    simp only [Act.put, sA, sZ, sS]
    refine tk 32 126 (.slice A len cap) rfl hHeld ?_
    simp only [Act.put, sA, sZ, sS]
    refine tk 33 127 (.pointer (some ⟨G1, 14, none⟩)) rfl hHeld ?_
    simp only [Act.put, sA, sZ, sS]
    refine tkY 34 128 (.int .i64 (p : Int)) rfl (Or.inl ⟨by rfl, fun W hW => by have hc := HT14.out W hW; go_simp⟩) hHeld ?_
    simp only [Act.put, sA, sZ, sS]
    refine tk 35 129 (.pointer (some ⟨G1, 14, none⟩)) rfl hHeld ?_
    simp only [Act.put, sA, sZ, sS]
    refine tkY 36 130 (.int .i64 (p : Int)) rfl (Or.inl ⟨by rfl, fun W hW => by have hc := HT14.out W hW; go_simp⟩) hHeld ?_
    simp only [Act.put, sA, sZ, sS]
    refine tk 37 131 (.int .i64 (T : Int)) rfl hHeld ?_
    simp only [Act.put, sA, sZ, sS]
    refine tkY 38 132 (.int .i64 ((p : Int) + (T : Int))) rfl (Or.inl ⟨by rfl, fun W _ => by have h_ := HW4.out; go_simp⟩) hHeld ?_
    simp only [Act.put, sA, sZ, sS]
    refine tkY 39 133 (.slice RA T rc) rfl (Or.inl ⟨by rfl, fun W _ => by have h_ := HCUT4.out W; go_simp⟩) hHeld ?_
    simp only [Act.put, sA, sZ, sS]
    have S1 := Lib.hid (same_any V qc rc (HXQ.out V (HD6.out.trans (hHeld.mono HD6.out.size))) (HPK.out.below (HB6.out.trans (hHeld.mono HB6.out.size))))
    refine wpAnyH_ready (rs := [40]) (by kernel_rfl) (by simp) (AllReadyH.cons (o := ⟨some 134, _, _, _, _, _⟩) rfl (fun K hK => ?_) AllReadyH.nil)
    go_simp
    refine S1.out.mono ?_
    rintro e w' ⟨rfl, rfl⟩
    refine hK.out _ _ (hHeld) (fun hHeld => ?_)
    clear hK K S1
    refine tk 41 135 (.bool false) rfl hHeld ?_
    simp only [Act.put, sA, sZ, sS]
    refine tk 42 136 (.bool false) rfl hHeld ?_
    simp only [Act.put, sA, sZ, sS]
    refine wpAnyH_done (by kernel_rfl) ?_ _
    have HD7 := Lib.hid (HD6.out.trans (hHeld.mono HD6.out.size))
    have HE7 := Lib.hid (HE6.out.trans (hHeld.mono HE6.out.size))
    clear hHeld HT14 HU14
    have HK7 := Lib.hid (HK4.out.below HK4.out.lt HE7.out)
    have HM7 := Lib.hid (HM4.out.below HM4.out.lt HE7.out)
    have HTA7 := Lib.hid (HTA4.out.below HE7.out)
    have HTB7 := Lib.hid (HTB4.out.below HE7.out)
    have HB7 := Lib.hid (HB2.out.trans (HD7.out.mono HB2.out.size))
    have BY7 := Lib.hid (BY2.out.trans (HD7.out.mono BY2.out.size))
    have sx7 := HSX.out _ BY7.out
    have c13 := Blk_10.cell HK7.out (HTY.out (.slice At mt ct))
    have d13 := Blk_10.cell HM7.out (HTY2.out (.slice Bt nt bt))
    have has1 := HAS.out.1
    have has2 := HAS.out.2
    have hbb : ((ty == 34525) == (ty == 34525)) = true := by simp
    go_wp2_with (first
      | ((with_reducible show wpList _ _ _ (⟨none, .store 3 (.tmp 143) _, _, _, _, _⟩ :: _) _ _); refine wpList_storeI_10 rfl (.tmp 143) _ rfl G2 13 (by rfl) ty (by rfl) 41 _ HM7.out 34525 (HTY2.out _) ?_; intro y8 hq8 hn8 hb8; rw [HST.out] at hq8; have HM8 := Lib.hid hq8; have HD8 := Lib.hid (HD7.out.trans (hb8.mono HG2S.out)); have HK8 := Lib.hid (show Blk y8 41 G1 _ from (hn8 _ (Nat.ne_of_lt HGG.out)).trans HK7.out); have HTA8 := Lib.hid (HTA7.out.kept (gb_of hn8 hb8) (own_ne HLTA3.out)); have HTB8 := Lib.hid (HTB7.out.kept (gb_of hn8 hb8) (own_ne HLT3.out)); have sx8 := HSX.out y8 (BY2.out.trans (HD8.out.mono BY2.out.size)); have c13' := Blk_10.cell HK8.out (HTY.out (.slice At mt ct)); clear hq8 hn8 hb8)
      | ((with_reducible show wpList _ _ _ (⟨some 163, _, _, _, _, _⟩ :: _) _ _); refine wpList_loadM (op := ⟨some 163, _, _, _, _, _⟩) 41 _ rfl (by rfl) G1 0 (by rfl) (lkL L (.slice At mt ct)) (Blk_10.range HK8.out) _ Try.underlying41 rfl (sizeLkL H6.out _) ?_)
      | ((with_reducible show wpList _ _ _ (⟨some 164, _, _, _, _, _⟩ :: _) _ _); refine wpList_loadM (op := ⟨some 164, _, _, _, _, _⟩) 41 _ rfl (by rfl) G2 0 (by rfl) (lkL L (.slice Bt nt bt)) (Blk_10.range HM8.out) _ Try.underlying41 rfl (sizeLkL H6.out _) ?_))
    refine (same_lk L H6.out ct bt (by have := HTS.out; have := (tags_of HTA8.out).size; omega) (Nat.le_refl _) (tags_of HTA8.out) (tags_of HTB8.out)).mono ?_
    rintro e y9 ⟨rfl, hb9⟩
    go_wp2_with fail
    go_ret
    have HB8 := HB2.out.trans (HD8.out.mono HB2.out.size)
    exact ⟨rfl, HB8.trans (hb9.mono HB8.size)⟩
theorem tunnelOuter_walk (A : Option Addr) (len cap : Nat) (xs : List UInt8) (hca : len ≤ cap) (hma : cap ≤ maxLen) (s : Ad) (hs : s.b.length = 16) (d : Ad) (hd : d.b.length = 16) (w : World) (hI : Rd w w.heap.size A len xs) :
    Calls Try.prog 6 #[.slice A len cap, adC s, adC d] w fun e w' => e = .returned (.bool true) ∧ Below w.heap.size w w' := by
  cases h : s.six with
  | false => exact outer_4 A len cap xs hca hma s hs d hd h w hI
  | true => exact outer_6 A len cap xs hca hma s hs d hd h w hI

theorem tunnelOuter_walks : WalksTrue 6 Try.f6 := by
  intro H enc W base args ds p hval hA
  rw [Try.params6] at hA hval
  obtain ⟨v0, vs0, d0, ds0, p0, q0, hargs, rfl, rfl, h0, r0⟩ := trodAll_cons hA
  obtain ⟨v1, vs1, d1, ds1, p1, q1, rfl, rfl, rfl, h1, r1⟩ := trodAll_cons r0
  obtain ⟨v2, vs2, d2, ds2, p2, q2, rfl, rfl, rfl, h2, r2⟩ := trodAll_cons r1
  obtain ⟨rfl, rfl, rfl⟩ := trodAll_nil r2
  obtain rfl : args = #[v0, v1, v2] := by cases args; simp_all
  obtain ⟨A0, len0, cap0, xs0, rfl, hc0, hm0, hI0⟩ := open_bytes (hval 0 22 v0 rfl rfl) h0
  obtain ⟨d1_, rfl, l1⟩ := open_ad (hval 1 25 v1 rfl rfl) h1
  obtain ⟨d2_, rfl, l2⟩ := open_ad (hval 2 25 v2 rfl rfl) h2
  exact tunnelOuter_walk A0 len0 cap0 xs0 hc0 hm0 d1_ l1 d2_ l2 W hI0

theorem tunnelOuter_said : Rows.TunnelOuterSaid :=
  OpenClaim.holds_of_wide 6 Try.f6 rfl rfl rfl rfl rfl rfl rfl ⟨rfl, rfl, rfl, rfl, rfl⟩ rfl rfl rfl rfl rfl (by kernel_rfl) Try.func6 (by kernel_rfl)
    (of_decide_eq_true (by kernel_rfl)) (by unfold Func.isWrapper; first | (rw [if_pos (by decide +kernel)]; kernel_rfl) | (rw [if_neg (by decide +kernel)]; exact ⟨rfl, rfl⟩))
    (fun os started H enc _ => law_lift (s := Rows.tunnelOuterSpec) Try.func6 (by kernel_rfl) rfl rfl (by intro H ds hd; match ds, hd with | [_, _, _], _ => exact ⟨rfl, rfl, rfl⟩) (by kernel_rfl) tunnelOuter_walks os started H enc
      (ChangeSpec.witness6 (enc := enc) (C := Try.checked) false ⟨#[], #[.slice none 0 0, .agg #[.bool false, .int .u8 0, .int .u8 0, .int .u8 0, .int .u8 0, .int .u8 0, .int .u8 0, .int .u8 0, .int .u8 0, .int .u8 0, .int .u8 0, .int .u8 0, .int .u8 0, .int .u8 0, .int .u8 0, .int .u8 0, .int .u8 0], .agg #[.bool false, .int .u8 0, .int .u8 0, .int .u8 0, .int .u8 0, .int .u8 0, .int .u8 0, .int .u8 0, .int .u8 0, .int .u8 0, .int .u8 0, .int .u8 0, .int .u8 0, .int .u8 0, .int .u8 0, .int .u8 0, .int .u8 0]], []⟩ 8 (by kernel_rfl) (by kernel_rfl) (by kernel_rfl) (by kernel_rfl)))

end Go.Proofs.Ytomkfcpellcncaa
