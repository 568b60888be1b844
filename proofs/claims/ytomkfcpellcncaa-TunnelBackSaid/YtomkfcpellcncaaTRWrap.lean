/-
  The document's Wrap.
-/
import Derived.Test.YtomkfcpellcncaaTRNet
import Derived.Test.YtomkfcpellcncaaTWrap
import Derived.Deep.DeepCutAuto
namespace Go.Proofs.Ytomkfcpellcncaa
set_option maxRecDepth 100000
open Go.RowKit Go.Lib

set_option maxHeartbeats 4000000 in
theorem rwrap_no (A : Option Addr) (len cap : Nat) (xs : List UInt8) {s d : Ad} (hs : s.b.length = 16) (hd : d.b.length = 16) (hlen : len ≤ 90000) (h0 : (rdOf xs).2 ≠ 0) (w : World) (hI : Rd w w.heap.size A len xs) :
    Calls Try.prog 11 #[.slice A len cap, adC s, adC d] w fun e w' => e = .returned (.tuple #[.slice none 0 0, .int .i64 3]) ∧ Below w.heap.size w w' := by
  obtain ⟨Y, hY, hq, hr, hbel⟩ := box_ads w s d
  have HQ := Lib.hid hq
  have HR := Lib.hid hr
  have HB := Lib.hid hbel
  have HS := Lib.hid hs
  have HD := Lib.hid hd
  have hRD := rread_any_7 A len cap xs (by omega) Y ((hI.below HB.out).more HB.out.size)
  unfold ReadGave_7 at hRD
  have H6 := Lib.hid ((rdOf_six xs (rdOf xs).1 (rdOf xs).2 rfl).1)
  obtain ⟨L, hL⟩ : ∃ L, (rdOf xs).1 = L := ⟨_, rfl⟩
  obtain ⟨E, hE⟩ : ∃ E, (rdOf xs).2 = E := ⟨_, rfl⟩
  rw [hL, hE] at hRD
  rw [hL] at H6
  rw [hE] at h0
  have bE : ((E : Int) == 0) = false := by simp; omega
  have bE2 : (E == 0) = false := by simp [h0]
  have bE3 : ((E : Int) != 0) = true := by simp; omega
  have HRD := Lib.hid hRD
  unfold adC at *
  obtain ⟨C0, hC0⟩ : ∃ C, (adL s).toArray = C := ⟨_, rfl⟩
  obtain ⟨C1, hC1⟩ : ∃ C, (adL d).toArray = C := ⟨_, rfl⟩
  rw [hC0, hC1] at hY ⊢
  have HY := Lib.hid hY
  clear hY hq hr hbel hs hd hC0 hC1 hRD h0 hI hL hE
  go_enter Try.func11, Try.ntmps11
  go_wp2_with fail
  rw [HY.out]
  refine HRD.out.mono ?_
  rintro e w1 ⟨tv, rfl, hown, hb1⟩
  obtain ⟨At, mt, ct, rfl, q1, q2, q3, q4, q5⟩ := hown.sl
  have HTA := Lib.hid hown
  have BY1 := Lib.hid hb1
  clear hb1 hown q1 q2 q3 q4 q5
  go_wp2_with (((with_reducible show wpList _ _ _ (⟨none, .store 41 (.tmp 8) (.tmp 22), _, _, _, _⟩ :: _) _ _); refine wpList_storeNewG (op := ⟨none, .store 41 (.tmp 8) (.tmp 22), _, _, _, _⟩) rfl 41 _ _ rfl (by rfl) (lkL L (.slice At mt ct)) (by rfl) (by rw [lkL_len H6.out]; rfl) (sizeLkL H6.out _) (lkL_one L _ rfl) ?_; intro w2 hl2 hb2 hz2; clear hz2; have BY2 := Lib.hid (BY1.out.trans (hb2.mono BY1.out.size)); have HTA2 := Lib.hid (HTA.out.below hb2); have HLTA := Lib.hid (fun g hg => (HTA.out.lt g hg).2); have HG := Lib.hid BY1.out.size; have HK2 := Lib.hid hl2; clear hl2 hb2; generalize w1.heap.size = G at HK2 HG HLTA ⊢))
  go_ret2
  exact ⟨rfl, HB.out.trans (BY2.out.mono HB.out.size)⟩

set_option maxHeartbeats 8000000 in
theorem rwrap_bad (A : Option Addr) (len cap : Nat) (xs : List UInt8) {s d : Ad} (hs : s.b.length = 16) (hd : d.b.length = 16) (hlen : len ≤ 90000) (hcap : len ≤ cap) (h0 : (rdOf xs).2 = 0) (hne : (fN xs).e ≠ 0) (w : World) (hI : Rd w w.heap.size A len xs) :
    Calls Try.prog 11 #[.slice A len cap, adC s, adC d] w fun e w' => e = .returned (.tuple #[.slice none 0 0, .int .i64 3]) ∧ Below w.heap.size w w' := by
  obtain ⟨Y, hY, hq, hr, hbel⟩ := box_ads w s d
  have HQ := Lib.hid hq
  have HR := Lib.hid hr
  have HB := Lib.hid hbel
  have HS := Lib.hid hs
  have HD := Lib.hid hd
  have hRD := rread_any_7 A len cap xs (by omega) Y ((hI.below HB.out).more HB.out.size)
  unfold ReadGave_7 at hRD
  have H6 := Lib.hid ((rdOf_six xs (rdOf xs).1 (rdOf xs).2 rfl).1)
  obtain ⟨L, hL⟩ : ∃ L, (rdOf xs).1 = L := ⟨_, rfl⟩
  obtain ⟨a1, a2, a3, a4, _⟩ := atK_ok h0
  obtain ⟨p, hp⟩ : ∃ p, atK xs = p := ⟨_, rfl⟩
  have hfN := fN_yes h0
  rw [hL, h0] at hRD
  rw [hL] at H6 a1
  rw [hL, hp] at hfN
  rw [hp] at a1 a2 a3 a4
  rw [hI.len] at a2
  have HRR := Lib.hid (hI.from (l := p) a2 cap hcap)
  have hcut := fun W => run_from8 A len cap p a2 W
  obtain ⟨RA, hRA⟩ : ∃ R, cutA A cap p = R := ⟨_, rfl⟩
  obtain ⟨rl, hrl⟩ : ∃ n, len - p = n := ⟨_, rfl⟩
  obtain ⟨rc, hrc⟩ : ∃ n, cap - p = n := ⟨_, rfl⟩
  have hrcl : rl ≤ rc := by omega
  have hrll : rl ≤ 90000 := by omega
  rw [hRA, hrl, hrc] at hcut
  rw [hRA, hrl] at HRR
  have HCUT := Lib.hid hcut
  have HTY := Lib.hid (fun tv => (lk_ty L H6.out tv).1)
  have HAT := Lib.hid (fun tv => show (lkL L tv)[14]? = some (.int .i64 (p : Int)) from a1 ▸ (lk_ty L H6.out tv).2)
  have HNT := Lib.hid (fun W (hB : Below w.heap.size w W) => rnet_any L.ty RA rl rc (xs.drop p) (by omega) hrcl W ((HRR.out.below hB).more hB.size))
  rw [← hfN] at HNT
  unfold ntV at HNT
  have HRD := Lib.hid hRD
  obtain ⟨n, hn⟩ : ∃ n, fN xs = n := ⟨_, rfl⟩
  rw [hn] at HNT
  obtain ⟨T, hT⟩ : ∃ T, n.total = T := ⟨_, rfl⟩
  obtain ⟨hh, hhd⟩ : ∃ T, n.head = T := ⟨_, rfl⟩
  obtain ⟨pr, hpr⟩ : ∃ T, n.proto = T := ⟨_, rfl⟩
  obtain ⟨fr, hfr⟩ : ∃ T, n.frag = T := ⟨_, rfl⟩
  rw [hT, hhd, hpr, hfr] at HNT
  rw [hn] at hne
  rw [decide_eq_false hne] at HNT
  obtain ⟨ty, hty⟩ : ∃ ty, L.ty = ty := ⟨_, rfl⟩
  rw [hty] at HNT HTY
  unfold adC at *
  obtain ⟨C0, hC0⟩ : ∃ C, (adL s).toArray = C := ⟨_, rfl⟩
  obtain ⟨C1, hC1⟩ : ∃ C, (adL d).toArray = C := ⟨_, rfl⟩
  rw [hC0, hC1] at hY ⊢
  have HY := Lib.hid hY
  clear hY hq hr hbel hs hd hC0 hC1 hRD h0 hI hL hne a1 a2 a3 a4 hp hfN hcut hRA hrl hrc hrcl hrll hn hT hhd hpr hfr hty
  go_enter Try.func11, Try.ntmps11
  go_wp2_with fail
  rw [HY.out]
  refine HRD.out.mono ?_
  rintro e w1 ⟨tv, rfl, hown, hb1⟩
  obtain ⟨At, mt, ct, rfl, q1, q2, q3, q4, q5⟩ := hown.sl
  have HTA := Lib.hid hown
  have BY1 := Lib.hid hb1
  clear hb1 hown q1 q2 q3 q4 q5
  go_upto_region 4 with (((with_reducible show wpList _ _ _ (⟨none, .store 41 (.tmp 8) (.tmp 22), _, _, _, _⟩ :: _) _ _); refine wpList_storeNewG (op := ⟨none, .store 41 (.tmp 8) (.tmp 22), _, _, _, _⟩) rfl 41 _ _ rfl (by rfl) (lkL L (.slice At mt ct)) (by rfl) (by rw [lkL_len H6.out]; rfl) (sizeLkL H6.out _) (lkL_one L _ rfl) ?_; intro w2 hl2 hb2 hz2; clear hz2; have BY2 := Lib.hid (BY1.out.trans (hb2.mono BY1.out.size)); have HTA2 := Lib.hid (HTA.out.below hb2); have HLTA := Lib.hid (fun g hg => (HTA.out.lt g hg).2); have HG := Lib.hid BY1.out.size; have HK2 := Lib.hid hl2; clear hl2 hb2; generalize w1.heap.size = G at HK2 HG HLTA ⊢))
  have HT13 := Lib.hid (fun W (hW : Below w2.heap.size w2 W) => Blk_10.cell (HK2.out.below HK2.out.lt hW) (HTY.out (.slice At mt ct)))
  have HT14 := Lib.hid (fun W (hW : Below w2.heap.size w2 W) => Blk_10.cell (HK2.out.below HK2.out.lt hW) (HAT.out (.slice At mt ct)))
  refine wp_region_held_drew (S := fun W => Below w2.heap.size w2 W) (by kernel_rfl) ((Below.refl _ _).drew) (fun hHeld => ?_)
  obtain ⟨X, hX⟩ : ∃ X, w2.drew = X := ⟨_, rfl⟩
  rw [hX] at hHeld ⊢
  clear hX
  refine tk 0 27 (.pointer (some ⟨G, 13, none⟩)) rfl hHeld ?_
  simp only [Act.put, sA, sZ, sS]
  refine tkY 1 28 (.int .i64 ty) rfl (Or.inl ⟨by rfl, fun W hW => by have hc := HT13.out W hW; go_simp⟩) hHeld ?_
  simp only [Act.put, sA, sZ, sS]
  refine tk 2 29 (.slice A len cap) rfl hHeld ?_
  simp only [Act.put, sA, sZ, sS]
  refine tk 3 30 (.pointer (some ⟨G, 14, none⟩)) rfl hHeld ?_
  simp only [Act.put, sA, sZ, sS]
  refine tkY 4 31 (.int .i64 (p : Int)) rfl (Or.inl ⟨by rfl, fun W hW => by have hc := HT14.out W hW; go_simp⟩) hHeld ?_
  simp only [Act.put, sA, sZ, sS]
  refine tkY 5 32 (.slice RA rl rc) rfl (Or.inl ⟨by rfl, fun W _ => by have hs := HCUT.out W; go_simp⟩) hHeld ?_
  simp only [Act.put, sA, sZ, sS]
  refine wpAnyH_ready (rs := [6]) (by kernel_rfl) (by simp) (AllReadyH.cons (o := ⟨some 33, _, _, _, _, _⟩) rfl (fun K hK => ?_) AllReadyH.nil)
  go_simp
  refine (HNT.out _ (HB.out.trans ((BY2.out.trans (hHeld.mono BY2.out.size)).mono HB.out.size))).mono ?_
  rintro e w3 ⟨rfl, hb3⟩
  refine hK.out _ _ (hHeld.trans (hb3.mono hHeld.size)) (fun hHeld => ?_)
  clear hK K hb3
  refine tk 7 26 (.tuple #[.int .i64 (hh : Int), .int .i64 (T : Int), .int .i64 (pr : Int), .bool fr, .bool false]) rfl hHeld ?_
  simp only [Act.put, sA, sZ, sS]
  refine tk 8 34 (.int .i64 (hh : Int)) rfl hHeld ?_
  simp only [Act.put, sA, sZ, sS]
  refine tk 9 35 (.int .i64 (T : Int)) rfl hHeld ?_
  simp only [Act.put, sA, sZ, sS]
  refine tk 10 36 (.int .i64 (pr : Int)) rfl hHeld ?_
  simp only [Act.put, sA, sZ, sS]
  refine tk 11 37 (.bool fr) rfl hHeld ?_
  simp only [Act.put, sA, sZ, sS]
  refine tk 12 38 (.bool false) rfl hHeld ?_
  simp only [Act.put, sA, sZ, sS]
  refine tk 13 10 (.int .i64 (hh : Int)) rfl hHeld ?_
  simp only [Act.put, sA, sZ, sS]
  refine tk 14 11 (.int .i64 (T : Int)) rfl hHeld ?_
  simp only [Act.put, sA, sZ, sS]
  refine tk 15 12 (.int .i64 (pr : Int)) rfl hHeld ?_
  simp only [Act.put, sA, sZ, sS]
  refine tk 16 13 (.bool fr) rfl hHeld ?_
  simp only [Act.put, sA, sZ, sS]
  refine tk 17 14 (.bool false) rfl hHeld ?_
  simp only [Act.put, sA, sZ, sS]
  refine wpAnyH_done (by kernel_rfl) ?_ _
  have HD3 := Lib.hid hHeld
  have BY3 := Lib.hid (BY2.out.trans (HD3.out.mono BY2.out.size))
  clear hHeld HT13 HT14
  go_wp2_with fail
  go_ret2
  exact ⟨rfl, HB.out.trans (BY3.out.mono HB.out.size)⟩

set_option maxHeartbeats 16000000 in
theorem rwrap_44 (A : Option Addr) (len cap : Nat) (xs : List UInt8) {s d : Ad} (hs : s.b.length = 16) (hd : d.b.length = 16) (hlen : len ≤ 90000) (hcap : len ≤ cap) (he : (fN xs).e = 0) (hty : (rdOf xs).1.ty = 2048) (hsx : s.six = false) (w : World) (hI : Rd w w.heap.size A len xs) :
    Calls Try.prog 11 #[.slice A len cap, adC s, adC d] w (WrGave w xs s d) := by
  have hF := frame_of he
  have h0 : (rdOf xs).2 = 0 := by rw [hF.r]
  have hrt := right_ty hF.right (ty := 2048) (by simp)
  have htot : atK xs + (fN xs).total ≤ len := by have := hF.h2; rw [hI.len] at this; exact this
  have hpk : packK xs = (xs.drop (atK xs)).take (fN xs).total := rfl
  have hwE : (famB s d = false → wrapE xs s d = 1) ∧ (famB s d = true → ¬ (fN xs).total ≤ 65515 → wrapE xs s d = 4) ∧ (famB s d = true → (fN xs).total ≤ 65515 → wrapE xs s d = 0 ∧ rightB (h4T s d 4 (fN xs).total) = true) := by
    have hm : mostT s = 65515 := by unfold mostT; rw [hsx]; rfl
    have ho := okT_eq s d (p := 4) (by simp) (fN xs).total
    unfold okT at ho
    rw [hsx, hm] at ho
    unfold wrapE
    rw [if_neg (by omega), hm]
    refine ⟨fun h => if_pos h, fun h h2 => ?_, fun h h2 => ⟨?_, ?_⟩⟩
    · rw [if_neg (by rw [h]; decide), if_pos (by omega)]
    · rw [if_neg (by rw [h]; decide), if_neg (by omega)]
    · rw [h, decide_eq_true h2] at ho
      exact ho
  have hwL : wrapL xs s d = lkB { (rdOf xs).1 with ty := 2048 } ++ (putF (h4T s d 4 (fN xs).total) ++ packK xs) := by
    unfold wrapL headT tyA
    rw [hsx, hty]
    rfl
  unfold WrGave
  obtain ⟨Y, hY, hq, hr, hbel⟩ := box_ads w s d
  have HQ := Lib.hid hq
  have HR := Lib.hid hr
  have HB := Lib.hid hbel
  have HS := Lib.hid hs
  have HD := Lib.hid hd
  have hRD := rread_any_7 A len cap xs (by omega) Y ((hI.below HB.out).more HB.out.size)
  unfold ReadGave_7 at hRD
  have H6 := Lib.hid ((rdOf_six xs (rdOf xs).1 (rdOf xs).2 rfl).1)
  obtain ⟨L, hL⟩ : ∃ L, (rdOf xs).1 = L := ⟨_, rfl⟩
  have hwL : wrapL xs s d = lkB { L with ty := 2048 } ++ (putF (h4T s d 4 (fN xs).total) ++ packK xs) := by rw [← hL]; exact hwL
  obtain ⟨E, hE⟩ : ∃ E, wrapE xs s d = E := ⟨_, rfl⟩
  rw [hE] at hwE ⊢
  rw [hwL]
  clear hwL hE
  obtain ⟨a1, a2, a3, a4, _⟩ := atK_ok h0
  obtain ⟨p, hp⟩ : ∃ p, atK xs = p := ⟨_, rfl⟩
  have hfN := fN_yes h0
  rw [hL, h0] at hRD
  rw [hL] at H6 a1
  rw [hL, hp] at hfN
  rw [hp] at a1 a2 a3 a4
  rw [hI.len] at a2
  have HRR := Lib.hid (hI.from (l := p) a2 cap hcap)
  have hcut := fun W => run_from8 A len cap p a2 W
  obtain ⟨RA, hRA⟩ : ∃ R, cutA A cap p = R := ⟨_, rfl⟩
  obtain ⟨rl, hrl⟩ : ∃ n, len - p = n := ⟨_, rfl⟩
  obtain ⟨rc, hrc⟩ : ∃ n, cap - p = n := ⟨_, rfl⟩
  have hrcl : rl ≤ rc := by omega
  have hrll : rl ≤ 90000 := by omega
  rw [hRA, hrl, hrc] at hcut
  rw [hRA, hrl] at HRR
  have HCUT := Lib.hid hcut
  have HTY := Lib.hid (fun tv => (lk_ty L H6.out tv).1)
  have HAT := Lib.hid (fun tv => show (lkL L tv)[14]? = some (.int .i64 (p : Int)) from a1 ▸ (lk_ty L H6.out tv).2)
  have HNT := Lib.hid (fun W (hB : Below w.heap.size w W) => rnet_any L.ty RA rl rc (xs.drop p) (by omega) hrcl W ((HRR.out.below hB).more hB.size))
  rw [← hfN] at HNT
  unfold ntV at HNT
  have HRD := Lib.hid hRD
  obtain ⟨n, hn⟩ : ∃ n, fN xs = n := ⟨_, rfl⟩
  rw [hn] at HNT
  obtain ⟨T, hT⟩ : ∃ T, n.total = T := ⟨_, rfl⟩
  obtain ⟨hh, hhd⟩ : ∃ T, n.head = T := ⟨_, rfl⟩
  obtain ⟨pr, hpr⟩ : ∃ T, n.proto = T := ⟨_, rfl⟩
  obtain ⟨fr, hfr⟩ : ∃ T, n.frag = T := ⟨_, rfl⟩
  rw [hT, hhd, hpr, hfr] at HNT
  rw [hn] at he hwE htot hpk ⊢
  rw [hT] at hwE htot hpk ⊢
  rw [hp] at htot hpk
  rw [decide_eq_true he] at HNT
  rw [hL] at hty hrt
  rw [hty] at HNT HTY
  obtain ⟨S, hS⟩ : ∃ S, 20 + T = S := ⟨_, rfl⟩
  have hwr : IntKind.i64.wrap (20 + (T : Int)) = (S : Int) := by rw [IntKind.wrap_i64]; omega
  have hwp : IntKind.i64.wrap ((p : Int) + (T : Int)) = (p : Int) + (T : Int) := by rw [IntKind.wrap_i64]; omega
  have hct9 := fun W => run_cut8 A len cap p T (p : Int) ((p : Int) + (T : Int)) rfl (by omega) (by omega) W
  have HPR := Lib.hid (hI.cut (l := p) (n := T) htot cap hcap)
  rw [← hpk] at HPR
  rw [hRA] at hct9 HPR
  rw [hrc] at hct9
  have HCT9 := Lib.hid hct9
  have HTL := Lib.hid (show T ≤ 90000 by omega)
  have HWR := Lib.hid hwr
  have HWP := Lib.hid hwp
  have HLK := Lib.hid (fun W A n cap hT => rput_any7 { L with ty := 2048 } (six_ty H6.out _) (A := A) (n := n) cap (w := W) hT hrt)
  have HLT := Lib.hid (show (lkB { L with ty := 2048 }).length ≤ 22 by
    have h2 : L.ts.length ≤ 2 := (right_parts hrt).1
    have e : (lkB { L with ty := 2048 }).length = 14 + 4 * L.ts.length := lkB_len (six_ty H6.out _)
    rw [e]
    omega)
  have HST := Lib.hid (fun tv => lk_set L H6.out tv 2048)
  have HFA := Lib.hid (fun W => rfamily_any hs hd W)
  have HHL := Lib.hid (show (putF (h4T s d 4 T)).length = 20 from putF_len (f := h4T s d 4 T) ⟨hs, hd⟩)
  have HHD := Lib.hid (fun h W => rput_any_8 (f := h4T s d 4 T) ⟨hs, hd⟩ h W)
  have HBU := Lib.hid (show Try.prog.built 68 [(0, .int .i64 20), (1, .int .i64 (S : Int)), (5, .bool true), (6, .int .i64 64), (7, .int .i64 4), (8, adC s), (9, adC d)] = some (frL_8 (h4T s d 4 T)).toArray by rw [← hS]; exact built_4r ((20 + T : Nat) : Int) 4 s d hs hd)
  have HSX := Lib.hid (fun W (h : Below Y.heap.size Y W) => show W.cell? ⟨w.heap.size, 0, none⟩ = some (.bool false) from hsx ▸ Blk_10.cell (HQ.out.below HQ.out.lt h) rfl)
  unfold frC_8 at HHD
  obtain ⟨f, hf⟩ : ∃ f, h4T s d 4 T = f := ⟨_, rfl⟩
  rw [hf] at hwE HHL HHD HBU ⊢
  obtain ⟨lb, hlb⟩ : ∃ l, lkB { L with ty := 2048 } = l := ⟨_, rfl⟩
  rw [hlb] at HLK HLT ⊢
  obtain ⟨pf, hpf⟩ : ∃ l, putF f = l := ⟨_, rfl⟩
  rw [hpf] at HHL HHD ⊢
  obtain ⟨pk, hpk2⟩ : ∃ l, packK xs = l := ⟨_, rfl⟩
  rw [hpk2] at HPR ⊢
  obtain ⟨bf, hbf⟩ : ∃ b, famB s d = b := ⟨_, rfl⟩
  rw [hbf] at hwE HFA
  have HWE := Lib.hid hwE
  unfold adC at *
  obtain ⟨C0, hC0⟩ : ∃ C, (adL s).toArray = C := ⟨_, rfl⟩
  obtain ⟨C1, hC1⟩ : ∃ C, (adL d).toArray = C := ⟨_, rfl⟩
  rw [hC0] at hY HFA HBU ⊢
  rw [hC1] at hY HFA HBU ⊢
  have HC0 := Lib.hid hC0
  have HC1 := Lib.hid hC1
  have HY := Lib.hid hY
  have HSB := Lib.hid hS
  have HPB := Lib.hid (show p ≤ 22 from a4)
  clear hY hq hr hbel hs hd hC0 hC1 hRD h0 hI hL hF a1 a2 a3 a4 hp hfN hcut hRA hrl hrc hrcl hrll hn hT hhd hpr hfr hty hrt he hwE htot hpk hpk2 hct9 hwr hwp hsx hS hf hlb hpf hbf
  go_enter Try.func11, Try.ntmps11
  go_wp2_with fail
  rw [HY.out]
  refine HRD.out.mono ?_
  rintro e w1 ⟨tv, rfl, hown, hb1⟩
  obtain ⟨At, mt, ct, rfl, q1, q2, q3, q4, q5⟩ := hown.sl
  have HTA := Lib.hid hown
  have BY1 := Lib.hid hb1
  clear hb1 hown q1 q2 q3 q4 q5
  go_upto_region 4 with (((with_reducible show wpList _ _ _ (⟨none, .store 41 (.tmp 8) (.tmp 22), _, _, _, _⟩ :: _) _ _); refine wpList_storeNewG (op := ⟨none, .store 41 (.tmp 8) (.tmp 22), _, _, _, _⟩) rfl 41 _ _ rfl (by rfl) (lkL L (.slice At mt ct)) (by rfl) (by rw [lkL_len H6.out]; rfl) (sizeLkL H6.out _) (lkL_one L _ rfl) ?_; intro w2 hl2 hb2 hz2; clear hz2; have BY2 := Lib.hid (BY1.out.trans (hb2.mono BY1.out.size)); have HTA2 := Lib.hid (HTA.out.below hb2); have HLTA := Lib.hid (fun g hg => (HTA.out.lt g hg).2); have HG := Lib.hid BY1.out.size; have HK2 := Lib.hid hl2; clear hl2 hb2; generalize w1.heap.size = G at HK2 HG HLTA ⊢))
  have HT13 := Lib.hid (fun W (hW : Below w2.heap.size w2 W) => Blk_10.cell (HK2.out.below HK2.out.lt hW) (HTY.out (.slice At mt ct)))
  have HT14 := Lib.hid (fun W (hW : Below w2.heap.size w2 W) => Blk_10.cell (HK2.out.below HK2.out.lt hW) (HAT.out (.slice At mt ct)))
  refine wp_region_held_drew (S := fun W => Below w2.heap.size w2 W) (by kernel_rfl) ((Below.refl _ _).drew) (fun hHeld => ?_)
  obtain ⟨X, hX⟩ : ∃ X, w2.drew = X := ⟨_, rfl⟩
  rw [hX] at hHeld ⊢
  clear hX
  refine tk 0 27 (.pointer (some ⟨G, 13, none⟩)) rfl hHeld ?_
  simp only [Act.put, sA, sZ, sS]
  refine tkY 1 28 (.int .i64 2048) rfl (Or.inl ⟨by rfl, fun W hW => by have hc := HT13.out W hW; go_simp⟩) hHeld ?_
  simp only [Act.put, sA, sZ, sS]
  refine tk 2 29 (.slice A len cap) rfl hHeld ?_
  simp only [Act.put, sA, sZ, sS]
  refine tk 3 30 (.pointer (some ⟨G, 14, none⟩)) rfl hHeld ?_
  simp only [Act.put, sA, sZ, sS]
  refine tkY 4 31 (.int .i64 (p : Int)) rfl (Or.inl ⟨by rfl, fun W hW => by have hc := HT14.out W hW; go_simp⟩) hHeld ?_
  simp only [Act.put, sA, sZ, sS]
  refine tkY 5 32 (.slice RA rl rc) rfl (Or.inl ⟨by rfl, fun W _ => by have hs := HCUT.out W; go_simp⟩) hHeld ?_
  simp only [Act.put, sA, sZ, sS]
  refine wpAnyH_ready (rs := [6]) (by kernel_rfl) (by simp) (AllReadyH.cons (o := ⟨some 33, _, _, _, _, _⟩) rfl (fun K hK => ?_) AllReadyH.nil)
  go_simp
  refine (HNT.out _ (HB.out.trans ((BY2.out.trans (hHeld.mono BY2.out.size)).mono HB.out.size))).mono ?_
  rintro e w3 ⟨rfl, hb3⟩
  refine hK.out _ _ (hHeld.trans (hb3.mono hHeld.size)) (fun hHeld => ?_)
  clear hK K hb3
  refine tk 7 26 (.tuple #[.int .i64 (hh : Int), .int .i64 (T : Int), .int .i64 (pr : Int), .bool fr, .bool true]) rfl hHeld ?_
  simp only [Act.put, sA, sZ, sS]
  refine tk 8 34 (.int .i64 (hh : Int)) rfl hHeld ?_
  simp only [Act.put, sA, sZ, sS]
  refine tk 9 35 (.int .i64 (T : Int)) rfl hHeld ?_
  simp only [Act.put, sA, sZ, sS]
  refine tk 10 36 (.int .i64 (pr : Int)) rfl hHeld ?_
  simp only [Act.put, sA, sZ, sS]
  refine tk 11 37 (.bool fr) rfl hHeld ?_
  simp only [Act.put, sA, sZ, sS]
  refine tk 12 38 (.bool true) rfl hHeld ?_
  simp only [Act.put, sA, sZ, sS]
  refine tk 13 10 (.int .i64 (hh : Int)) rfl hHeld ?_
  simp only [Act.put, sA, sZ, sS]
  refine tk 14 11 (.int .i64 (T : Int)) rfl hHeld ?_
  simp only [Act.put, sA, sZ, sS]
  refine tk 15 12 (.int .i64 (pr : Int)) rfl hHeld ?_
  simp only [Act.put, sA, sZ, sS]
  refine tk 16 13 (.bool fr) rfl hHeld ?_
  simp only [Act.put, sA, sZ, sS]
  refine tk 17 14 (.bool true) rfl hHeld ?_
  simp only [Act.put, sA, sZ, sS]
  refine wpAnyH_done (by kernel_rfl) ?_ _
  have HD3 := Lib.hid hHeld
  have BY3 := Lib.hid (BY2.out.trans (HD3.out.mono BY2.out.size))
  clear hHeld HT13 HT14
  have HK3 := Lib.hid (HK2.out.below HK2.out.lt HD3.out)
  have HTA3 := Lib.hid (HTA2.out.below HD3.out)
  go_wp2_with (first
    | ((with_reducible show wpList _ _ _ (⟨some 41, _, _, _, _, _⟩ :: _) _ _); refine wpList_loadM (op := ⟨some 41, _, _, _, _, _⟩) 25 _ rfl (by rfl) w.heap.size 0 (by rfl) (adL s) (Blk_10.range (HQ.out.below HQ.out.lt BY3.out)) _ Try.underlying25 rfl (sizeAdL HS.out) ?_; rw [HC0.out])
    | ((with_reducible show wpList _ _ _ (⟨some 42, _, _, _, _, _⟩ :: _) _ _); refine wpList_loadM (op := ⟨some 42, _, _, _, _, _⟩) 25 _ rfl (by rfl) (w.heap.size + 1) 0 (by rfl) (adL d) (Blk_10.range (HR.out.below HR.out.lt BY3.out)) _ Try.underlying25 rfl (sizeAdL HD.out) ?_; rw [HC1.out]))
  refine (HFA.out _).mono ?_
  rintro e w4 ⟨rfl, hb4⟩
  have BY4 := Lib.hid (BY3.out.trans (hb4.mono BY3.out.size))
  have HB4 := Lib.hid (HB.out.trans (BY4.out.mono HB.out.size))
  have HK4 := Lib.hid (HK3.out.below HK3.out.lt hb4)
  have HTA4 := Lib.hid (HTA3.out.below hb4)
  clear hb4
  cases bf with
  | false =>
    obtain rfl : E = 1 := HWE.out.1 rfl
    go_wp2_with fail
    go_ret2
    first
      | exact ⟨fun h => (by cases h), fun _ => rfl, HB4.out⟩
      | exact ⟨rfl, HB4.out⟩
  | true =>
    have at4 := Blk_10.cell HK4.out (HAT.out (.slice At mt ct))
    have ty4 := Blk_10.cell HK4.out (HTY.out (.slice At mt ct))
    have sx4 := HSX.out _ BY4.out
    have hct9 := HCT9.out
    have hwp := HWP.out
    have hwr := HWR.out
    by_cases hm : T ≤ 65515
    · obtain ⟨rfl, hrg⟩ : E = 0 ∧ rightB f = true := HWE.out.2.2 rfl hm
      have HHD := Lib.hid (HHD.out hrg)
      have hgn : ¬ (65535 : Int) < (S : Int) := by have := HSB.out; omega
      have hgb : decide ((65535 : Int) < (S : Int)) = false := decide_eq_false hgn
      clear hrg hm
      go_upto_region 22 with (((with_reducible show wpList _ _ _ (⟨none, .store 3 (.tmp 77) _, _, _, _, _⟩ :: _) _ _); refine wpList_storeI_10 rfl (.tmp 77) _ rfl G 13 (by rfl) 2048 (by rfl) 41 _ HK4.out 2048 (HTY.out _) ?_; intro w5 hq5 hn5 hb5; rw [HST.out] at hq5; have HK5 := Lib.hid hq5; have BY5 := Lib.hid (BY4.out.trans (hb5.mono HG.out)); have HTA5 := Lib.hid (HTA4.out.kept (gb_of hn5 hb5) (own_ne HLTA.out)); clear hq5 hn5 hb5))
      have HB5 := Lib.hid (HB.out.trans (BY5.out.mono HB.out.size))
      have HQ5 := Lib.hid (HQ.out.below HQ.out.lt BY5.out)
      have HR5 := Lib.hid (HR.out.below HR.out.lt BY5.out)
      have HTG := Lib.hid (fun (W : World) (hW : Below w5.heap.size w5 W) => show TagsAt W W.heap.size At mt L.ts from tags_of (HTA5.out.below hW))
      have HPRW := Lib.hid (fun (W : World) (hW : Below w5.heap.size w5 W) => show Rd W w.heap.size RA T pk from HPR.out.below (HB5.out.trans (hW.mono HB5.out.size)))
      clear hct9 hwp hwr at4 ty4 sx4 hgn hgb
      refine wp_region_held_drew (S := fun W => Below w5.heap.size w5 W) (by kernel_rfl) ((Below.refl _ _).drew) (fun hHeld => ?_)
      obtain ⟨X, hX⟩ : ∃ X, w5.drew = X := ⟨_, rfl⟩
      rw [hX] at hHeld ⊢
      clear hX
      refine tkY 0 78 (lkC { L with ty := 2048 } (.slice At mt ct)) rfl (yieldsIf_load_mid (by rfl) 41 _ rfl G 0 rfl (lkL { L with ty := 2048 } (.slice At mt ct)) _ (fun W hW => Blk_10.range (HK5.out.below HK5.out.lt hW)) Try.underlying41 rfl (sizeLkL (six_ty H6.out _) _)) hHeld ?_
      simp only [Act.put, sA, sZ, sS]
      refine tk 2 80 (.int .i64 (T : Int)) rfl hHeld ?_
      simp only [Act.put, sA, sZ, sS]
      refine tkY 3 81 (.int .i64 (S : Int)) rfl (Or.inl ⟨by rfl, fun W _ => by have hwr := HWR.out; go_simp⟩) hHeld ?_
      simp only [Act.put, sA, sZ, sS]
      refine tk 4 82 (.int .i64 4) rfl hHeld ?_
      simp only [Act.put, sA, sZ, sS]
      refine tkY 5 83 (.agg (adL s).toArray) rfl (yieldsIf_load_mid (by rfl) 25 _ (by rfl) w.heap.size 0 rfl (adL s) _ (fun W hW => Blk_10.range (HQ5.out.below HQ5.out.lt hW)) Try.underlying25 rfl (sizeAdL HS.out)) hHeld ?_
      simp only [Act.put, sA, sZ, sS]
      rw [HC0.out]
      refine tkY 6 84 (.agg (adL d).toArray) rfl (yieldsIf_load_mid (by rfl) 25 _ (by rfl) (w.heap.size + 1) 0 rfl (adL d) _ (fun W hW => Blk_10.range (HR5.out.below HR5.out.lt hW)) Try.underlying25 rfl (sizeAdL HD.out)) hHeld ?_
      simp only [Act.put, sA, sZ, sS]
      rw [HC1.out]
      refine tkY 7 85 (.agg (frL_8 f).toArray) rfl (yields_build (by rfl) 68 _ rfl [(0, .int .i64 20), (1, .int .i64 (S : Int)), (5, .bool true), (6, .int .i64 64), (7, .int .i64 4), (8, .agg C0), (9, .agg C1)] (by kernel_rfl) _ HBU.out) hHeld ?_
      simp only [Act.put, sA, sZ, sS]
      refine wpAnyH_ready (rs := [1]) (by kernel_rfl) (by simp) (AllReadyH.cons (o := ⟨some 79, _, _, _, _, _⟩) rfl (fun K hK => ?_) AllReadyH.nil)
      go_simp
      refine (HLK.out _ At mt ct (HTG.out _ hHeld)).mono ?_
      rintro e w6 ⟨v6, rfl, ho6, hb6⟩
      have HO6 := Lib.hid (ho6.base_le hHeld.size)
      have HB6 := Lib.hid (hHeld.trans (hb6.mono hHeld.size))
      refine hK.out _ _ (HB6.out) (fun hHeld => ?_)
      clear hK K hb6 ho6
      refine wpAnyH_ready (rs := [8]) (by kernel_rfl) (by simp) (AllReadyH.cons (o := ⟨some 86, _, _, _, _, _⟩) rfl (fun K hK => ?_) AllReadyH.nil)
      go_simp
      refine (HHD.out _).mono ?_
      rintro e w7 ⟨A7, c7, rfl, hr7, hb7⟩
      have HR7 := Lib.hid hr7
      have HO7 := Lib.hid (HO6.out.below hb7)
      have HB7 := Lib.hid (HB6.out.trans (hb7.mono HB6.out.size))
      refine hK.out _ _ (HB7.out) (fun hHeld => ?_)
      clear hK K hb7 hr7
      refine wpAnyH_ready (rs := [9]) (by kernel_rfl) (by simp) (AllReadyH.cons (o := ⟨some 87, _, _, _, _, _⟩) rfl (fun K hK => ?_) AllReadyH.nil)
      refine step_append8 rfl (.tmp 79) (.tmp 86) rfl w5.heap.size _ lb (by rfl) HO7.out _ A7 20 c7 pf (by rfl) HR7.out (by have := HLT.out; omega) HB7.out.size ?_
      intro v8 w8 ho8 hg8
      have HO8 := Lib.hid ho8
      have HB8 := Lib.hid (HB7.out.grown hg8 HB7.out.size HO7.out.lt)
      refine hK.out _ _ (HB8.out) (fun hHeld => ?_)
      clear hK K ho8 hg8
      refine tk 10 18 v8 rfl hHeld ?_
      simp only [Act.put, sA, sZ, sS]
      refine wpAnyH_done (by kernel_rfl) ?_ _
      have HPX := Lib.hid (HPRW.out _ HB8.out)
      have LX := Lib.hid (show (lb ++ pf).length + T ≤ 2000000000 by rw [List.length_append, HHL.out]; have := HLT.out; have := HTL.out; omega)
      clear hHeld
      go_wp2_with (((with_reducible show wpList _ _ _ (⟨some 90, _, _, _, _, _⟩ :: _) _ _); refine wpList_append8 (o := ⟨some 90, _, _, _, _, _⟩) rfl _ _ rfl w5.heap.size _ (lb ++ pf) (by rfl) HO8.out _ RA T rc pk (by rfl) HPX.out LX.out HB8.out.size ?_; intro v9 w9 ho9 hg9 hq9; clear hq9; have HO9 := Lib.hid ho9; have HB9 := Lib.hid (HB8.out.grown hg9 HB8.out.size HO8.out.lt); clear ho9 hg9))
      go_ret2
      have HF9 := HB5.out.trans (HB9.out.mono HB5.out.size)
      have HO9' := HO9.out.base_le HB5.out.size
      rw [List.append_assoc] at HO9'
      first
        | exact ⟨fun _ => ⟨_, rfl, HO9'⟩, fun h => absurd rfl h, HF9⟩
        | exact ⟨⟨_, rfl, HO9'⟩, HF9⟩
    · obtain rfl : E = 4 := HWE.out.2.1 rfl hm
      have hgn : (65535 : Int) < (S : Int) := by have := HSB.out; omega
      have hgb : decide ((65535 : Int) < (S : Int)) = true := decide_eq_true hgn
      clear hm
      go_wp2_with fail
      go_ret2
      first
        | exact ⟨fun h => (by cases h), fun _ => rfl, HB4.out⟩
        | exact ⟨rfl, HB4.out⟩

set_option maxHeartbeats 16000000 in
theorem rwrap_46 (A : Option Addr) (len cap : Nat) (xs : List UInt8) {s d : Ad} (hs : s.b.length = 16) (hd : d.b.length = 16) (hlen : len ≤ 90000) (hcap : len ≤ cap) (he : (fN xs).e = 0) (hty : (rdOf xs).1.ty = 34525) (hsx : s.six = false) (w : World) (hI : Rd w w.heap.size A len xs) :
    Calls Try.prog 11 #[.slice A len cap, adC s, adC d] w (WrGave w xs s d) := by
  have hF := frame_of he
  have h0 : (rdOf xs).2 = 0 := by rw [hF.r]
  have hrt := right_ty hF.right (ty := 2048) (by simp)
  have htot : atK xs + (fN xs).total ≤ len := by have := hF.h2; rw [hI.len] at this; exact this
  have hpk : packK xs = (xs.drop (atK xs)).take (fN xs).total := rfl
  have hwE : (famB s d = false → wrapE xs s d = 1) ∧ (famB s d = true → ¬ (fN xs).total ≤ 65515 → wrapE xs s d = 4) ∧ (famB s d = true → (fN xs).total ≤ 65515 → wrapE xs s d = 0 ∧ rightB (h4T s d 41 (fN xs).total) = true) := by
    have hm : mostT s = 65515 := by unfold mostT; rw [hsx]; rfl
    have ho := okT_eq s d (p := 41) (by simp) (fN xs).total
    unfold okT at ho
    rw [hsx, hm] at ho
    unfold wrapE
    rw [if_neg (by omega), hm]
    refine ⟨fun h => if_pos h, fun h h2 => ?_, fun h h2 => ⟨?_, ?_⟩⟩
    · rw [if_neg (by rw [h]; decide), if_pos (by omega)]
    · rw [if_neg (by rw [h]; decide), if_neg (by omega)]
    · rw [h, decide_eq_true h2] at ho
      exact ho
  have hwL : wrapL xs s d = lkB { (rdOf xs).1 with ty := 2048 } ++ (putF (h4T s d 41 (fN xs).total) ++ packK xs) := by
    unfold wrapL headT tyA
    rw [hsx, hty]
    rfl
  unfold WrGave
  obtain ⟨Y, hY, hq, hr, hbel⟩ := box_ads w s d
  have HQ := Lib.hid hq
  have HR := Lib.hid hr
  have HB := Lib.hid hbel
  have HS := Lib.hid hs
  have HD := Lib.hid hd
  have hRD := rread_any_7 A len cap xs (by omega) Y ((hI.below HB.out).more HB.out.size)
  unfold ReadGave_7 at hRD
  have H6 := Lib.hid ((rdOf_six xs (rdOf xs).1 (rdOf xs).2 rfl).1)
  obtain ⟨L, hL⟩ : ∃ L, (rdOf xs).1 = L := ⟨_, rfl⟩
  have hwL : wrapL xs s d = lkB { L with ty := 2048 } ++ (putF (h4T s d 41 (fN xs).total) ++ packK xs) := by rw [← hL]; exact hwL
  obtain ⟨E, hE⟩ : ∃ E, wrapE xs s d = E := ⟨_, rfl⟩
  rw [hE] at hwE ⊢
  rw [hwL]
  clear hwL hE
  obtain ⟨a1, a2, a3, a4, _⟩ := atK_ok h0
  obtain ⟨p, hp⟩ : ∃ p, atK xs = p := ⟨_, rfl⟩
  have hfN := fN_yes h0
  rw [hL, h0] at hRD
  rw [hL] at H6 a1
  rw [hL, hp] at hfN
  rw [hp] at a1 a2 a3 a4
  rw [hI.len] at a2
  have HRR := Lib.hid (hI.from (l := p) a2 cap hcap)
  have hcut := fun W => run_from8 A len cap p a2 W
  obtain ⟨RA, hRA⟩ : ∃ R, cutA A cap p = R := ⟨_, rfl⟩
  obtain ⟨rl, hrl⟩ : ∃ n, len - p = n := ⟨_, rfl⟩
  obtain ⟨rc, hrc⟩ : ∃ n, cap - p = n := ⟨_, rfl⟩
  have hrcl : rl ≤ rc := by omega
  have hrll : rl ≤ 90000 := by omega
  rw [hRA, hrl, hrc] at hcut
  rw [hRA, hrl] at HRR
  have HCUT := Lib.hid hcut
  have HTY := Lib.hid (fun tv => (lk_ty L H6.out tv).1)
  have HAT := Lib.hid (fun tv => show (lkL L tv)[14]? = some (.int .i64 (p : Int)) from a1 ▸ (lk_ty L H6.out tv).2)
  have HNT := Lib.hid (fun W (hB : Below w.heap.size w W) => rnet_any L.ty RA rl rc (xs.drop p) (by omega) hrcl W ((HRR.out.below hB).more hB.size))
  rw [← hfN] at HNT
  unfold ntV at HNT
  have HRD := Lib.hid hRD
  obtain ⟨n, hn⟩ : ∃ n, fN xs = n := ⟨_, rfl⟩
  rw [hn] at HNT
  obtain ⟨T, hT⟩ : ∃ T, n.total = T := ⟨_, rfl⟩
  obtain ⟨hh, hhd⟩ : ∃ T, n.head = T := ⟨_, rfl⟩
  obtain ⟨pr, hpr⟩ : ∃ T, n.proto = T := ⟨_, rfl⟩
  obtain ⟨fr, hfr⟩ : ∃ T, n.frag = T := ⟨_, rfl⟩
  rw [hT, hhd, hpr, hfr] at HNT
  rw [hn] at he hwE htot hpk ⊢
  rw [hT] at hwE htot hpk ⊢
  rw [hp] at htot hpk
  rw [decide_eq_true he] at HNT
  rw [hL] at hty hrt
  rw [hty] at HNT HTY
  obtain ⟨S, hS⟩ : ∃ S, 20 + T = S := ⟨_, rfl⟩
  have hwr : IntKind.i64.wrap (20 + (T : Int)) = (S : Int) := by rw [IntKind.wrap_i64]; omega
  have hwp : IntKind.i64.wrap ((p : Int) + (T : Int)) = (p : Int) + (T : Int) := by rw [IntKind.wrap_i64]; omega
  have hct9 := fun W => run_cut8 A len cap p T (p : Int) ((p : Int) + (T : Int)) rfl (by omega) (by omega) W
  have HPR := Lib.hid (hI.cut (l := p) (n := T) htot cap hcap)
  rw [← hpk] at HPR
  rw [hRA] at hct9 HPR
  rw [hrc] at hct9
  have HCT9 := Lib.hid hct9
  have HTL := Lib.hid (show T ≤ 90000 by omega)
  have HWR := Lib.hid hwr
  have HWP := Lib.hid hwp
  have HLK := Lib.hid (fun W A n cap hT => rput_any7 { L with ty := 2048 } (six_ty H6.out _) (A := A) (n := n) cap (w := W) hT hrt)
  have HLT := Lib.hid (show (lkB { L with ty := 2048 }).length ≤ 22 by
    have h2 : L.ts.length ≤ 2 := (right_parts hrt).1
    have e : (lkB { L with ty := 2048 }).length = 14 + 4 * L.ts.length := lkB_len (six_ty H6.out _)
    rw [e]
    omega)
  have HST := Lib.hid (fun tv => lk_set L H6.out tv 2048)
  have HFA := Lib.hid (fun W => rfamily_any hs hd W)
  have HHL := Lib.hid (show (putF (h4T s d 41 T)).length = 20 from putF_len (f := h4T s d 41 T) ⟨hs, hd⟩)
  have HHD := Lib.hid (fun h W => rput_any_8 (f := h4T s d 41 T) ⟨hs, hd⟩ h W)
  have HBU := Lib.hid (show Try.prog.built 68 [(0, .int .i64 20), (1, .int .i64 (S : Int)), (5, .bool true), (6, .int .i64 64), (7, .int .i64 41), (8, adC s), (9, adC d)] = some (frL_8 (h4T s d 41 T)).toArray by rw [← hS]; exact built_4r ((20 + T : Nat) : Int) 41 s d hs hd)
  have HSX := Lib.hid (fun W (h : Below Y.heap.size Y W) => show W.cell? ⟨w.heap.size, 0, none⟩ = some (.bool false) from hsx ▸ Blk_10.cell (HQ.out.below HQ.out.lt h) rfl)
  unfold frC_8 at HHD
  obtain ⟨f, hf⟩ : ∃ f, h4T s d 41 T = f := ⟨_, rfl⟩
  rw [hf] at hwE HHL HHD HBU ⊢
  obtain ⟨lb, hlb⟩ : ∃ l, lkB { L with ty := 2048 } = l := ⟨_, rfl⟩
  rw [hlb] at HLK HLT ⊢
  obtain ⟨pf, hpf⟩ : ∃ l, putF f = l := ⟨_, rfl⟩
  rw [hpf] at HHL HHD ⊢
  obtain ⟨pk, hpk2⟩ : ∃ l, packK xs = l := ⟨_, rfl⟩
  rw [hpk2] at HPR ⊢
  obtain ⟨bf, hbf⟩ : ∃ b, famB s d = b := ⟨_, rfl⟩
  rw [hbf] at hwE HFA
  have HWE := Lib.hid hwE
  unfold adC at *
  obtain ⟨C0, hC0⟩ : ∃ C, (adL s).toArray = C := ⟨_, rfl⟩
  obtain ⟨C1, hC1⟩ : ∃ C, (adL d).toArray = C := ⟨_, rfl⟩
  rw [hC0] at hY HFA HBU ⊢
  rw [hC1] at hY HFA HBU ⊢
  have HC0 := Lib.hid hC0
  have HC1 := Lib.hid hC1
  have HY := Lib.hid hY
  have HSB := Lib.hid hS
  have HPB := Lib.hid (show p ≤ 22 from a4)
  clear hY hq hr hbel hs hd hC0 hC1 hRD h0 hI hL hF a1 a2 a3 a4 hp hfN hcut hRA hrl hrc hrcl hrll hn hT hhd hpr hfr hty hrt he hwE htot hpk hpk2 hct9 hwr hwp hsx hS hf hlb hpf hbf
  go_enter Try.func11, Try.ntmps11
  go_wp2_with fail
  rw [HY.out]
  refine HRD.out.mono ?_
  rintro e w1 ⟨tv, rfl, hown, hb1⟩
  obtain ⟨At, mt, ct, rfl, q1, q2, q3, q4, q5⟩ := hown.sl
  have HTA := Lib.hid hown
  have BY1 := Lib.hid hb1
  clear hb1 hown q1 q2 q3 q4 q5
  go_upto_region 4 with (((with_reducible show wpList _ _ _ (⟨none, .store 41 (.tmp 8) (.tmp 22), _, _, _, _⟩ :: _) _ _); refine wpList_storeNewG (op := ⟨none, .store 41 (.tmp 8) (.tmp 22), _, _, _, _⟩) rfl 41 _ _ rfl (by rfl) (lkL L (.slice At mt ct)) (by rfl) (by rw [lkL_len H6.out]; rfl) (sizeLkL H6.out _) (lkL_one L _ rfl) ?_; intro w2 hl2 hb2 hz2; clear hz2; have BY2 := Lib.hid (BY1.out.trans (hb2.mono BY1.out.size)); have HTA2 := Lib.hid (HTA.out.below hb2); have HLTA := Lib.hid (fun g hg => (HTA.out.lt g hg).2); have HG := Lib.hid BY1.out.size; have HK2 := Lib.hid hl2; clear hl2 hb2; generalize w1.heap.size = G at HK2 HG HLTA ⊢))
  have HT13 := Lib.hid (fun W (hW : Below w2.heap.size w2 W) => Blk_10.cell (HK2.out.below HK2.out.lt hW) (HTY.out (.slice At mt ct)))
  have HT14 := Lib.hid (fun W (hW : Below w2.heap.size w2 W) => Blk_10.cell (HK2.out.below HK2.out.lt hW) (HAT.out (.slice At mt ct)))
  refine wp_region_held_drew (S := fun W => Below w2.heap.size w2 W) (by kernel_rfl) ((Below.refl _ _).drew) (fun hHeld => ?_)
  obtain ⟨X, hX⟩ : ∃ X, w2.drew = X := ⟨_, rfl⟩
  rw [hX] at hHeld ⊢
  clear hX
  refine tk 0 27 (.pointer (some ⟨G, 13, none⟩)) rfl hHeld ?_
  simp only [Act.put, sA, sZ, sS]
  refine tkY 1 28 (.int .i64 34525) rfl (Or.inl ⟨by rfl, fun W hW => by have hc := HT13.out W hW; go_simp⟩) hHeld ?_
  simp only [Act.put, sA, sZ, sS]
  refine tk 2 29 (.slice A len cap) rfl hHeld ?_
  simp only [Act.put, sA, sZ, sS]
  refine tk 3 30 (.pointer (some ⟨G, 14, none⟩)) rfl hHeld ?_
  simp only [Act.put, sA, sZ, sS]
  refine tkY 4 31 (.int .i64 (p : Int)) rfl (Or.inl ⟨by rfl, fun W hW => by have hc := HT14.out W hW; go_simp⟩) hHeld ?_
  simp only [Act.put, sA, sZ, sS]
  refine tkY 5 32 (.slice RA rl rc) rfl (Or.inl ⟨by rfl, fun W _ => by have hs := HCUT.out W; go_simp⟩) hHeld ?_
  simp only [Act.put, sA, sZ, sS]
  refine wpAnyH_ready (rs := [6]) (by kernel_rfl) (by simp) (AllReadyH.cons (o := ⟨some 33, _, _, _, _, _⟩) rfl (fun K hK => ?_) AllReadyH.nil)
  go_simp
  refine (HNT.out _ (HB.out.trans ((BY2.out.trans (hHeld.mono BY2.out.size)).mono HB.out.size))).mono ?_
  rintro e w3 ⟨rfl, hb3⟩
  refine hK.out _ _ (hHeld.trans (hb3.mono hHeld.size)) (fun hHeld => ?_)
  clear hK K hb3
  refine tk 7 26 (.tuple #[.int .i64 (hh : Int), .int .i64 (T : Int), .int .i64 (pr : Int), .bool fr, .bool true]) rfl hHeld ?_
  simp only [Act.put, sA, sZ, sS]
  refine tk 8 34 (.int .i64 (hh : Int)) rfl hHeld ?_
  simp only [Act.put, sA, sZ, sS]
  refine tk 9 35 (.int .i64 (T : Int)) rfl hHeld ?_
  simp only [Act.put, sA, sZ, sS]
  refine tk 10 36 (.int .i64 (pr : Int)) rfl hHeld ?_
  simp only [Act.put, sA, sZ, sS]
  refine tk 11 37 (.bool fr) rfl hHeld ?_
  simp only [Act.put, sA, sZ, sS]
  refine tk 12 38 (.bool true) rfl hHeld ?_
  simp only [Act.put, sA, sZ, sS]
  refine tk 13 10 (.int .i64 (hh : Int)) rfl hHeld ?_
  simp only [Act.put, sA, sZ, sS]
  refine tk 14 11 (.int .i64 (T : Int)) rfl hHeld ?_
  simp only [Act.put, sA, sZ, sS]
  refine tk 15 12 (.int .i64 (pr : Int)) rfl hHeld ?_
  simp only [Act.put, sA, sZ, sS]
  refine tk 16 13 (.bool fr) rfl hHeld ?_
  simp only [Act.put, sA, sZ, sS]
  refine tk 17 14 (.bool true) rfl hHeld ?_
  simp only [Act.put, sA, sZ, sS]
  refine wpAnyH_done (by kernel_rfl) ?_ _
  have HD3 := Lib.hid hHeld
  have BY3 := Lib.hid (BY2.out.trans (HD3.out.mono BY2.out.size))
  clear hHeld HT13 HT14
  have HK3 := Lib.hid (HK2.out.below HK2.out.lt HD3.out)
  have HTA3 := Lib.hid (HTA2.out.below HD3.out)
  go_wp2_with (first
    | ((with_reducible show wpList _ _ _ (⟨some 41, _, _, _, _, _⟩ :: _) _ _); refine wpList_loadM (op := ⟨some 41, _, _, _, _, _⟩) 25 _ rfl (by rfl) w.heap.size 0 (by rfl) (adL s) (Blk_10.range (HQ.out.below HQ.out.lt BY3.out)) _ Try.underlying25 rfl (sizeAdL HS.out) ?_; rw [HC0.out])
    | ((with_reducible show wpList _ _ _ (⟨some 42, _, _, _, _, _⟩ :: _) _ _); refine wpList_loadM (op := ⟨some 42, _, _, _, _, _⟩) 25 _ rfl (by rfl) (w.heap.size + 1) 0 (by rfl) (adL d) (Blk_10.range (HR.out.below HR.out.lt BY3.out)) _ Try.underlying25 rfl (sizeAdL HD.out) ?_; rw [HC1.out]))
  refine (HFA.out _).mono ?_
  rintro e w4 ⟨rfl, hb4⟩
  have BY4 := Lib.hid (BY3.out.trans (hb4.mono BY3.out.size))
  have HB4 := Lib.hid (HB.out.trans (BY4.out.mono HB.out.size))
  have HK4 := Lib.hid (HK3.out.below HK3.out.lt hb4)
  have HTA4 := Lib.hid (HTA3.out.below hb4)
  clear hb4
  cases bf with
  | false =>
    obtain rfl : E = 1 := HWE.out.1 rfl
    go_wp2_with fail
    go_ret2
    first
      | exact ⟨fun h => (by cases h), fun _ => rfl, HB4.out⟩
      | exact ⟨rfl, HB4.out⟩
  | true =>
    have at4 := Blk_10.cell HK4.out (HAT.out (.slice At mt ct))
    have ty4 := Blk_10.cell HK4.out (HTY.out (.slice At mt ct))
    have sx4 := HSX.out _ BY4.out
    have hct9 := HCT9.out
    have hwp := HWP.out
    have hwr := HWR.out
    by_cases hm : T ≤ 65515
    · obtain ⟨rfl, hrg⟩ : E = 0 ∧ rightB f = true := HWE.out.2.2 rfl hm
      have HHD := Lib.hid (HHD.out hrg)
      have hgn : ¬ (65535 : Int) < (S : Int) := by have := HSB.out; omega
      have hgb : decide ((65535 : Int) < (S : Int)) = false := decide_eq_false hgn
      clear hrg hm
      go_upto_region 22 with (((with_reducible show wpList _ _ _ (⟨none, .store 3 (.tmp 77) _, _, _, _, _⟩ :: _) _ _); refine wpList_storeI_10 rfl (.tmp 77) _ rfl G 13 (by rfl) 2048 (by rfl) 41 _ HK4.out 34525 (HTY.out _) ?_; intro w5 hq5 hn5 hb5; rw [HST.out] at hq5; have HK5 := Lib.hid hq5; have BY5 := Lib.hid (BY4.out.trans (hb5.mono HG.out)); have HTA5 := Lib.hid (HTA4.out.kept (gb_of hn5 hb5) (own_ne HLTA.out)); clear hq5 hn5 hb5))
      have HB5 := Lib.hid (HB.out.trans (BY5.out.mono HB.out.size))
      have HQ5 := Lib.hid (HQ.out.below HQ.out.lt BY5.out)
      have HR5 := Lib.hid (HR.out.below HR.out.lt BY5.out)
      have HTG := Lib.hid (fun (W : World) (hW : Below w5.heap.size w5 W) => show TagsAt W W.heap.size At mt L.ts from tags_of (HTA5.out.below hW))
      have HPRW := Lib.hid (fun (W : World) (hW : Below w5.heap.size w5 W) => show Rd W w.heap.size RA T pk from HPR.out.below (HB5.out.trans (hW.mono HB5.out.size)))
      clear hct9 hwp hwr at4 ty4 sx4 hgn hgb
      refine wp_region_held_drew (S := fun W => Below w5.heap.size w5 W) (by kernel_rfl) ((Below.refl _ _).drew) (fun hHeld => ?_)
      obtain ⟨X, hX⟩ : ∃ X, w5.drew = X := ⟨_, rfl⟩
      rw [hX] at hHeld ⊢
      clear hX
      refine tkY 0 78 (lkC { L with ty := 2048 } (.slice At mt ct)) rfl (yieldsIf_load_mid (by rfl) 41 _ rfl G 0 rfl (lkL { L with ty := 2048 } (.slice At mt ct)) _ (fun W hW => Blk_10.range (HK5.out.below HK5.out.lt hW)) Try.underlying41 rfl (sizeLkL (six_ty H6.out _) _)) hHeld ?_
      simp only [Act.put, sA, sZ, sS]
      refine tk 2 80 (.int .i64 (T : Int)) rfl hHeld ?_
      simp only [Act.put, sA, sZ, sS]
      refine tkY 3 81 (.int .i64 (S : Int)) rfl (Or.inl ⟨by rfl, fun W _ => by have hwr := HWR.out; go_simp⟩) hHeld ?_
      simp only [Act.put, sA, sZ, sS]
      refine tk 4 82 (.int .i64 41) rfl hHeld ?_
      simp only [Act.put, sA, sZ, sS]
      refine tkY 5 83 (.agg (adL s).toArray) rfl (yieldsIf_load_mid (by rfl) 25 _ (by rfl) w.heap.size 0 rfl (adL s) _ (fun W hW => Blk_10.range (HQ5.out.below HQ5.out.lt hW)) Try.underlying25 rfl (sizeAdL HS.out)) hHeld ?_
      simp only [Act.put, sA, sZ, sS]
      rw [HC0.out]
      refine tkY 6 84 (.agg (adL d).toArray) rfl (yieldsIf_load_mid (by rfl) 25 _ (by rfl) (w.heap.size + 1) 0 rfl (adL d) _ (fun W hW => Blk_10.range (HR5.out.below HR5.out.lt hW)) Try.underlying25 rfl (sizeAdL HD.out)) hHeld ?_
      simp only [Act.put, sA, sZ, sS]
      rw [HC1.out]
      refine tkY 7 85 (.agg (frL_8 f).toArray) rfl (yields_build (by rfl) 68 _ rfl [(0, .int .i64 20), (1, .int .i64 (S : Int)), (5, .bool true), (6, .int .i64 64), (7, .int .i64 41), (8, .agg C0), (9, .agg C1)] (by kernel_rfl) _ HBU.out) hHeld ?_
      simp only [Act.put, sA, sZ, sS]
      refine wpAnyH_ready (rs := [1]) (by kernel_rfl) (by simp) (AllReadyH.cons (o := ⟨some 79, _, _, _, _, _⟩) rfl (fun K hK => ?_) AllReadyH.nil)
      go_simp
      refine (HLK.out _ At mt ct (HTG.out _ hHeld)).mono ?_
      rintro e w6 ⟨v6, rfl, ho6, hb6⟩
      have HO6 := Lib.hid (ho6.base_le hHeld.size)
      have HB6 := Lib.hid (hHeld.trans (hb6.mono hHeld.size))
      refine hK.out _ _ (HB6.out) (fun hHeld => ?_)
      clear hK K hb6 ho6
      refine wpAnyH_ready (rs := [8]) (by kernel_rfl) (by simp) (AllReadyH.cons (o := ⟨some 86, _, _, _, _, _⟩) rfl (fun K hK => ?_) AllReadyH.nil)
      go_simp
      refine (HHD.out _).mono ?_
      rintro e w7 ⟨A7, c7, rfl, hr7, hb7⟩
      have HR7 := Lib.hid hr7
      have HO7 := Lib.hid (HO6.out.below hb7)
      have HB7 := Lib.hid (HB6.out.trans (hb7.mono HB6.out.size))
      refine hK.out _ _ (HB7.out) (fun hHeld => ?_)
      clear hK K hb7 hr7
      refine wpAnyH_ready (rs := [9]) (by kernel_rfl) (by simp) (AllReadyH.cons (o := ⟨some 87, _, _, _, _, _⟩) rfl (fun K hK => ?_) AllReadyH.nil)
      refine step_append8 rfl (.tmp 79) (.tmp 86) rfl w5.heap.size _ lb (by rfl) HO7.out _ A7 20 c7 pf (by rfl) HR7.out (by have := HLT.out; omega) HB7.out.size ?_
      intro v8 w8 ho8 hg8
      have HO8 := Lib.hid ho8
      have HB8 := Lib.hid (HB7.out.grown hg8 HB7.out.size HO7.out.lt)
      refine hK.out _ _ (HB8.out) (fun hHeld => ?_)
      clear hK K ho8 hg8
      refine tk 10 18 v8 rfl hHeld ?_
      simp only [Act.put, sA, sZ, sS]
      refine wpAnyH_done (by kernel_rfl) ?_ _
      have HPX := Lib.hid (HPRW.out _ HB8.out)
      have LX := Lib.hid (show (lb ++ pf).length + T ≤ 2000000000 by rw [List.length_append, HHL.out]; have := HLT.out; have := HTL.out; omega)
      clear hHeld
      go_wp2_with (((with_reducible show wpList _ _ _ (⟨some 90, _, _, _, _, _⟩ :: _) _ _); refine wpList_append8 (o := ⟨some 90, _, _, _, _, _⟩) rfl _ _ rfl w5.heap.size _ (lb ++ pf) (by rfl) HO8.out _ RA T rc pk (by rfl) HPX.out LX.out HB8.out.size ?_; intro v9 w9 ho9 hg9 hq9; clear hq9; have HO9 := Lib.hid ho9; have HB9 := Lib.hid (HB8.out.grown hg9 HB8.out.size HO8.out.lt); clear ho9 hg9))
      go_ret2
      have HF9 := HB5.out.trans (HB9.out.mono HB5.out.size)
      have HO9' := HO9.out.base_le HB5.out.size
      rw [List.append_assoc] at HO9'
      first
        | exact ⟨fun _ => ⟨_, rfl, HO9'⟩, fun h => absurd rfl h, HF9⟩
        | exact ⟨⟨_, rfl, HO9'⟩, HF9⟩
    · obtain rfl : E = 4 := HWE.out.2.1 rfl hm
      have hgn : (65535 : Int) < (S : Int) := by have := HSB.out; omega
      have hgb : decide ((65535 : Int) < (S : Int)) = true := decide_eq_true hgn
      clear hm
      go_wp2_with fail
      go_ret2
      first
        | exact ⟨fun h => (by cases h), fun _ => rfl, HB4.out⟩
        | exact ⟨rfl, HB4.out⟩

set_option maxHeartbeats 16000000 in
theorem rwrap_64 (A : Option Addr) (len cap : Nat) (xs : List UInt8) {s d : Ad} (hs : s.b.length = 16) (hd : d.b.length = 16) (hlen : len ≤ 90000) (hcap : len ≤ cap) (he : (fN xs).e = 0) (hty : (rdOf xs).1.ty = 2048) (hsx : s.six = true) (w : World) (hI : Rd w w.heap.size A len xs) :
    Calls Try.prog 11 #[.slice A len cap, adC s, adC d] w (WrGave w xs s d) := by
  have hF := frame_of he
  have h0 : (rdOf xs).2 = 0 := by rw [hF.r]
  have hrt := right_ty hF.right (ty := 34525) (by simp)
  have htot : atK xs + (fN xs).total ≤ len := by have := hF.h2; rw [hI.len] at this; exact this
  have hpk : packK xs = (xs.drop (atK xs)).take (fN xs).total := rfl
  have hwE : (famB s d = false → wrapE xs s d = 1) ∧ (famB s d = true → ¬ (fN xs).total ≤ 65535 → wrapE xs s d = 4) ∧ (famB s d = true → (fN xs).total ≤ 65535 → wrapE xs s d = 0 ∧ rightB_9 (h6T s d 4 (fN xs).total) = true) := by
    have hm : mostT s = 65535 := by unfold mostT; rw [hsx]; rfl
    have ho := okT_eq s d (p := 4) (by simp) (fN xs).total
    unfold okT at ho
    rw [hsx, hm] at ho
    unfold wrapE
    rw [if_neg (by omega), hm]
    refine ⟨fun h => if_pos h, fun h h2 => ?_, fun h h2 => ⟨?_, ?_⟩⟩
    · rw [if_neg (by rw [h]; decide), if_pos (by omega)]
    · rw [if_neg (by rw [h]; decide), if_neg (by omega)]
    · rw [h, decide_eq_true h2] at ho
      exact ho
  have hwL : wrapL xs s d = lkB { (rdOf xs).1 with ty := 34525 } ++ (putF_9 (h6T s d 4 (fN xs).total) ++ packK xs) := by
    unfold wrapL headT tyA
    rw [hsx, hty]
    rfl
  unfold WrGave
  obtain ⟨Y, hY, hq, hr, hbel⟩ := box_ads w s d
  have HQ := Lib.hid hq
  have HR := Lib.hid hr
  have HB := Lib.hid hbel
  have HS := Lib.hid hs
  have HD := Lib.hid hd
  have hRD := rread_any_7 A len cap xs (by omega) Y ((hI.below HB.out).more HB.out.size)
  unfold ReadGave_7 at hRD
  have H6 := Lib.hid ((rdOf_six xs (rdOf xs).1 (rdOf xs).2 rfl).1)
  obtain ⟨L, hL⟩ : ∃ L, (rdOf xs).1 = L := ⟨_, rfl⟩
  have hwL : wrapL xs s d = lkB { L with ty := 34525 } ++ (putF_9 (h6T s d 4 (fN xs).total) ++ packK xs) := by rw [← hL]; exact hwL
  obtain ⟨E, hE⟩ : ∃ E, wrapE xs s d = E := ⟨_, rfl⟩
  rw [hE] at hwE ⊢
  rw [hwL]
  clear hwL hE
  obtain ⟨a1, a2, a3, a4, _⟩ := atK_ok h0
  obtain ⟨p, hp⟩ : ∃ p, atK xs = p := ⟨_, rfl⟩
  have hfN := fN_yes h0
  rw [hL, h0] at hRD
  rw [hL] at H6 a1
  rw [hL, hp] at hfN
  rw [hp] at a1 a2 a3 a4
  rw [hI.len] at a2
  have HRR := Lib.hid (hI.from (l := p) a2 cap hcap)
  have hcut := fun W => run_from8 A len cap p a2 W
  obtain ⟨RA, hRA⟩ : ∃ R, cutA A cap p = R := ⟨_, rfl⟩
  obtain ⟨rl, hrl⟩ : ∃ n, len - p = n := ⟨_, rfl⟩
  obtain ⟨rc, hrc⟩ : ∃ n, cap - p = n := ⟨_, rfl⟩
  have hrcl : rl ≤ rc := by omega
  have hrll : rl ≤ 90000 := by omega
  rw [hRA, hrl, hrc] at hcut
  rw [hRA, hrl] at HRR
  have HCUT := Lib.hid hcut
  have HTY := Lib.hid (fun tv => (lk_ty L H6.out tv).1)
  have HAT := Lib.hid (fun tv => show (lkL L tv)[14]? = some (.int .i64 (p : Int)) from a1 ▸ (lk_ty L H6.out tv).2)
  have HNT := Lib.hid (fun W (hB : Below w.heap.size w W) => rnet_any L.ty RA rl rc (xs.drop p) (by omega) hrcl W ((HRR.out.below hB).more hB.size))
  rw [← hfN] at HNT
  unfold ntV at HNT
  have HRD := Lib.hid hRD
  obtain ⟨n, hn⟩ : ∃ n, fN xs = n := ⟨_, rfl⟩
  rw [hn] at HNT
  obtain ⟨T, hT⟩ : ∃ T, n.total = T := ⟨_, rfl⟩
  obtain ⟨hh, hhd⟩ : ∃ T, n.head = T := ⟨_, rfl⟩
  obtain ⟨pr, hpr⟩ : ∃ T, n.proto = T := ⟨_, rfl⟩
  obtain ⟨fr, hfr⟩ : ∃ T, n.frag = T := ⟨_, rfl⟩
  rw [hT, hhd, hpr, hfr] at HNT
  rw [hn] at he hwE htot hpk ⊢
  rw [hT] at hwE htot hpk ⊢
  rw [hp] at htot hpk
  rw [decide_eq_true he] at HNT
  rw [hL] at hty hrt
  rw [hty] at HNT HTY
  obtain ⟨S, hS⟩ : ∃ S, 40 + T = S := ⟨_, rfl⟩
  have hwr : IntKind.i64.wrap (40 + (T : Int)) = (S : Int) := by rw [IntKind.wrap_i64]; omega
  have hwp : IntKind.i64.wrap ((p : Int) + (T : Int)) = (p : Int) + (T : Int) := by rw [IntKind.wrap_i64]; omega
  have hct9 := fun W => run_cut8 A len cap p T (p : Int) ((p : Int) + (T : Int)) rfl (by omega) (by omega) W
  have HPR := Lib.hid (hI.cut (l := p) (n := T) htot cap hcap)
  rw [← hpk] at HPR
  rw [hRA] at hct9 HPR
  rw [hrc] at hct9
  have HCT9 := Lib.hid hct9
  have HTL := Lib.hid (show T ≤ 90000 by omega)
  have HWR := Lib.hid hwr
  have HWP := Lib.hid hwp
  have HLK := Lib.hid (fun W A n cap hT => rput_any7 { L with ty := 34525 } (six_ty H6.out _) (A := A) (n := n) cap (w := W) hT hrt)
  have HLT := Lib.hid (show (lkB { L with ty := 34525 }).length ≤ 22 by
    have h2 : L.ts.length ≤ 2 := (right_parts hrt).1
    have e : (lkB { L with ty := 34525 }).length = 14 + 4 * L.ts.length := lkB_len (six_ty H6.out _)
    rw [e]
    omega)
  have HST := Lib.hid (fun tv => lk_set L H6.out tv 34525)
  have HFA := Lib.hid (fun W => rfamily_any hs hd W)
  have HHL := Lib.hid (show (putF_9 (h6T s d 4 T)).length = 40 from putF_len_9 (f := h6T s d 4 T) ⟨hs, hd⟩)
  have HHD := Lib.hid (fun h W => rput_any_9 (f := h6T s d 4 T) ⟨hs, hd⟩ h W)
  have HBU := Lib.hid (show Try.prog.built 65 [(0, .int .i64 40), (1, .int .i64 (S : Int)), (2, .int .i64 64), (5, .int .i64 4), (6, adC s), (7, adC d)] = some (frL_9 (h6T s d 4 T)).toArray by rw [← hS]; exact built_at_9 40 ((40 + T : Nat) : Int) 64 4 s d hs hd)
  have HSX := Lib.hid (fun W (h : Below Y.heap.size Y W) => show W.cell? ⟨w.heap.size, 0, none⟩ = some (.bool true) from hsx ▸ Blk_10.cell (HQ.out.below HQ.out.lt h) rfl)
  unfold frC_9 at HHD
  obtain ⟨f, hf⟩ : ∃ f, h6T s d 4 T = f := ⟨_, rfl⟩
  rw [hf] at hwE HHL HHD HBU ⊢
  obtain ⟨lb, hlb⟩ : ∃ l, lkB { L with ty := 34525 } = l := ⟨_, rfl⟩
  rw [hlb] at HLK HLT ⊢
  obtain ⟨pf, hpf⟩ : ∃ l, putF_9 f = l := ⟨_, rfl⟩
  rw [hpf] at HHL HHD ⊢
  obtain ⟨pk, hpk2⟩ : ∃ l, packK xs = l := ⟨_, rfl⟩
  rw [hpk2] at HPR ⊢
  obtain ⟨bf, hbf⟩ : ∃ b, famB s d = b := ⟨_, rfl⟩
  rw [hbf] at hwE HFA
  have HWE := Lib.hid hwE
  unfold adC at *
  obtain ⟨C0, hC0⟩ : ∃ C, (adL s).toArray = C := ⟨_, rfl⟩
  obtain ⟨C1, hC1⟩ : ∃ C, (adL d).toArray = C := ⟨_, rfl⟩
  rw [hC0] at hY HFA HBU ⊢
  rw [hC1] at hY HFA HBU ⊢
  have HC0 := Lib.hid hC0
  have HC1 := Lib.hid hC1
  have HY := Lib.hid hY
  have HSB := Lib.hid hS
  have HPB := Lib.hid (show p ≤ 22 from a4)
  clear hY hq hr hbel hs hd hC0 hC1 hRD h0 hI hL hF a1 a2 a3 a4 hp hfN hcut hRA hrl hrc hrcl hrll hn hT hhd hpr hfr hty hrt he hwE htot hpk hpk2 hct9 hwr hwp hsx hS hf hlb hpf hbf
  go_enter Try.func11, Try.ntmps11
  go_wp2_with fail
  rw [HY.out]
  refine HRD.out.mono ?_
  rintro e w1 ⟨tv, rfl, hown, hb1⟩
  obtain ⟨At, mt, ct, rfl, q1, q2, q3, q4, q5⟩ := hown.sl
  have HTA := Lib.hid hown
  have BY1 := Lib.hid hb1
  clear hb1 hown q1 q2 q3 q4 q5
  go_upto_region 4 with (((with_reducible show wpList _ _ _ (⟨none, .store 41 (.tmp 8) (.tmp 22), _, _, _, _⟩ :: _) _ _); refine wpList_storeNewG (op := ⟨none, .store 41 (.tmp 8) (.tmp 22), _, _, _, _⟩) rfl 41 _ _ rfl (by rfl) (lkL L (.slice At mt ct)) (by rfl) (by rw [lkL_len H6.out]; rfl) (sizeLkL H6.out _) (lkL_one L _ rfl) ?_; intro w2 hl2 hb2 hz2; clear hz2; have BY2 := Lib.hid (BY1.out.trans (hb2.mono BY1.out.size)); have HTA2 := Lib.hid (HTA.out.below hb2); have HLTA := Lib.hid (fun g hg => (HTA.out.lt g hg).2); have HG := Lib.hid BY1.out.size; have HK2 := Lib.hid hl2; clear hl2 hb2; generalize w1.heap.size = G at HK2 HG HLTA ⊢))
  have HT13 := Lib.hid (fun W (hW : Below w2.heap.size w2 W) => Blk_10.cell (HK2.out.below HK2.out.lt hW) (HTY.out (.slice At mt ct)))
  have HT14 := Lib.hid (fun W (hW : Below w2.heap.size w2 W) => Blk_10.cell (HK2.out.below HK2.out.lt hW) (HAT.out (.slice At mt ct)))
  refine wp_region_held_drew (S := fun W => Below w2.heap.size w2 W) (by kernel_rfl) ((Below.refl _ _).drew) (fun hHeld => ?_)
  obtain ⟨X, hX⟩ : ∃ X, w2.drew = X := ⟨_, rfl⟩
  rw [hX] at hHeld ⊢
  clear hX
  refine tk 0 27 (.pointer (some ⟨G, 13, none⟩)) rfl hHeld ?_
  simp only [Act.put, sA, sZ, sS]
  refine tkY 1 28 (.int .i64 2048) rfl (Or.inl ⟨by rfl, fun W hW => by have hc := HT13.out W hW; go_simp⟩) hHeld ?_
  simp only [Act.put, sA, sZ, sS]
  refine tk 2 29 (.slice A len cap) rfl hHeld ?_
  simp only [Act.put, sA, sZ, sS]
  refine tk 3 30 (.pointer (some ⟨G, 14, none⟩)) rfl hHeld ?_
  simp only [Act.put, sA, sZ, sS]
  refine tkY 4 31 (.int .i64 (p : Int)) rfl (Or.inl ⟨by rfl, fun W hW => by have hc := HT14.out W hW; go_simp⟩) hHeld ?_
  simp only [Act.put, sA, sZ, sS]
  refine tkY 5 32 (.slice RA rl rc) rfl (Or.inl ⟨by rfl, fun W _ => by have hs := HCUT.out W; go_simp⟩) hHeld ?_
  simp only [Act.put, sA, sZ, sS]
  refine wpAnyH_ready (rs := [6]) (by kernel_rfl) (by simp) (AllReadyH.cons (o := ⟨some 33, _, _, _, _, _⟩) rfl (fun K hK => ?_) AllReadyH.nil)
  go_simp
  refine (HNT.out _ (HB.out.trans ((BY2.out.trans (hHeld.mono BY2.out.size)).mono HB.out.size))).mono ?_
  rintro e w3 ⟨rfl, hb3⟩
  refine hK.out _ _ (hHeld.trans (hb3.mono hHeld.size)) (fun hHeld => ?_)
  clear hK K hb3
  refine tk 7 26 (.tuple #[.int .i64 (hh : Int), .int .i64 (T : Int), .int .i64 (pr : Int), .bool fr, .bool true]) rfl hHeld ?_
  simp only [Act.put, sA, sZ, sS]
  refine tk 8 34 (.int .i64 (hh : Int)) rfl hHeld ?_
  simp only [Act.put, sA, sZ, sS]
  refine tk 9 35 (.int .i64 (T : Int)) rfl hHeld ?_
  simp only [Act.put, sA, sZ, sS]
  refine tk 10 36 (.int .i64 (pr : Int)) rfl hHeld ?_
  simp only [Act.put, sA, sZ, sS]
  refine tk 11 37 (.bool fr) rfl hHeld ?_
  simp only [Act.put, sA, sZ, sS]
  refine tk 12 38 (.bool true) rfl hHeld ?_
  simp only [Act.put, sA, sZ, sS]
  refine tk 13 10 (.int .i64 (hh : Int)) rfl hHeld ?_
  simp only [Act.put, sA, sZ, sS]
  refine tk 14 11 (.int .i64 (T : Int)) rfl hHeld ?_
  simp only [Act.put, sA, sZ, sS]
  refine tk 15 12 (.int .i64 (pr : Int)) rfl hHeld ?_
  simp only [Act.put, sA, sZ, sS]
  refine tk 16 13 (.bool fr) rfl hHeld ?_
  simp only [Act.put, sA, sZ, sS]
  refine tk 17 14 (.bool true) rfl hHeld ?_
  simp only [Act.put, sA, sZ, sS]
  refine wpAnyH_done (by kernel_rfl) ?_ _
  have HD3 := Lib.hid hHeld
  have BY3 := Lib.hid (BY2.out.trans (HD3.out.mono BY2.out.size))
  clear hHeld HT13 HT14
  have HK3 := Lib.hid (HK2.out.below HK2.out.lt HD3.out)
  have HTA3 := Lib.hid (HTA2.out.below HD3.out)
  go_wp2_with (first
    | ((with_reducible show wpList _ _ _ (⟨some 41, _, _, _, _, _⟩ :: _) _ _); refine wpList_loadM (op := ⟨some 41, _, _, _, _, _⟩) 25 _ rfl (by rfl) w.heap.size 0 (by rfl) (adL s) (Blk_10.range (HQ.out.below HQ.out.lt BY3.out)) _ Try.underlying25 rfl (sizeAdL HS.out) ?_; rw [HC0.out])
    | ((with_reducible show wpList _ _ _ (⟨some 42, _, _, _, _, _⟩ :: _) _ _); refine wpList_loadM (op := ⟨some 42, _, _, _, _, _⟩) 25 _ rfl (by rfl) (w.heap.size + 1) 0 (by rfl) (adL d) (Blk_10.range (HR.out.below HR.out.lt BY3.out)) _ Try.underlying25 rfl (sizeAdL HD.out) ?_; rw [HC1.out]))
  refine (HFA.out _).mono ?_
  rintro e w4 ⟨rfl, hb4⟩
  have BY4 := Lib.hid (BY3.out.trans (hb4.mono BY3.out.size))
  have HB4 := Lib.hid (HB.out.trans (BY4.out.mono HB.out.size))
  have HK4 := Lib.hid (HK3.out.below HK3.out.lt hb4)
  have HTA4 := Lib.hid (HTA3.out.below hb4)
  clear hb4
  cases bf with
  | false =>
    obtain rfl : E = 1 := HWE.out.1 rfl
    go_wp2_with fail
    go_ret2
    first
      | exact ⟨fun h => (by cases h), fun _ => rfl, HB4.out⟩
      | exact ⟨rfl, HB4.out⟩
  | true =>
    have at4 := Blk_10.cell HK4.out (HAT.out (.slice At mt ct))
    have ty4 := Blk_10.cell HK4.out (HTY.out (.slice At mt ct))
    have sx4 := HSX.out _ BY4.out
    have hct9 := HCT9.out
    have hwp := HWP.out
    have hwr := HWR.out
    by_cases hm : T ≤ 65535
    · obtain ⟨rfl, hrg⟩ : E = 0 ∧ rightB_9 f = true := HWE.out.2.2 rfl hm
      have HHD := Lib.hid (HHD.out hrg)
      have hgn : ¬ (65535 : Int) < (T : Int) := by have := HSB.out; omega
      have hgb : decide ((65535 : Int) < (T : Int)) = false := decide_eq_false hgn
      clear hrg hm
      go_upto_region 17 with (((with_reducible show wpList _ _ _ (⟨none, .store 3 (.tmp 60) _, _, _, _, _⟩ :: _) _ _); refine wpList_storeI_10 rfl (.tmp 60) _ rfl G 13 (by rfl) 34525 (by rfl) 41 _ HK4.out 2048 (HTY.out _) ?_; intro w5 hq5 hn5 hb5; rw [HST.out] at hq5; have HK5 := Lib.hid hq5; have BY5 := Lib.hid (BY4.out.trans (hb5.mono HG.out)); have HTA5 := Lib.hid (HTA4.out.kept (gb_of hn5 hb5) (own_ne HLTA.out)); clear hq5 hn5 hb5))
      have HB5 := Lib.hid (HB.out.trans (BY5.out.mono HB.out.size))
      have HQ5 := Lib.hid (HQ.out.below HQ.out.lt BY5.out)
      have HR5 := Lib.hid (HR.out.below HR.out.lt BY5.out)
      have HTG := Lib.hid (fun (W : World) (hW : Below w5.heap.size w5 W) => show TagsAt W W.heap.size At mt L.ts from tags_of (HTA5.out.below hW))
      have HPRW := Lib.hid (fun (W : World) (hW : Below w5.heap.size w5 W) => show Rd W w.heap.size RA T pk from HPR.out.below (HB5.out.trans (hW.mono HB5.out.size)))
      clear hct9 hwp hwr at4 ty4 sx4 hgn hgb
      refine wp_region_held_drew (S := fun W => Below w5.heap.size w5 W) (by kernel_rfl) ((Below.refl _ _).drew) (fun hHeld => ?_)
      obtain ⟨X, hX⟩ : ∃ X, w5.drew = X := ⟨_, rfl⟩
      rw [hX] at hHeld ⊢
      clear hX
      refine tkY 0 61 (lkC { L with ty := 34525 } (.slice At mt ct)) rfl (yieldsIf_load_mid (by rfl) 41 _ rfl G 0 rfl (lkL { L with ty := 34525 } (.slice At mt ct)) _ (fun W hW => Blk_10.range (HK5.out.below HK5.out.lt hW)) Try.underlying41 rfl (sizeLkL (six_ty H6.out _) _)) hHeld ?_
      simp only [Act.put, sA, sZ, sS]
      refine tk 2 63 (.int .i64 (T : Int)) rfl hHeld ?_
      simp only [Act.put, sA, sZ, sS]
      refine tkY 3 64 (.int .i64 (S : Int)) rfl (Or.inl ⟨by rfl, fun W _ => by have hwr := HWR.out; go_simp⟩) hHeld ?_
      simp only [Act.put, sA, sZ, sS]
      refine tk 4 65 (.int .i64 4) rfl hHeld ?_
      simp only [Act.put, sA, sZ, sS]
      refine tkY 5 66 (.agg (adL s).toArray) rfl (yieldsIf_load_mid (by rfl) 25 _ (by rfl) w.heap.size 0 rfl (adL s) _ (fun W hW => Blk_10.range (HQ5.out.below HQ5.out.lt hW)) Try.underlying25 rfl (sizeAdL HS.out)) hHeld ?_
      simp only [Act.put, sA, sZ, sS]
      rw [HC0.out]
      refine tkY 6 67 (.agg (adL d).toArray) rfl (yieldsIf_load_mid (by rfl) 25 _ (by rfl) (w.heap.size + 1) 0 rfl (adL d) _ (fun W hW => Blk_10.range (HR5.out.below HR5.out.lt hW)) Try.underlying25 rfl (sizeAdL HD.out)) hHeld ?_
      simp only [Act.put, sA, sZ, sS]
      rw [HC1.out]
      refine tkY 7 68 (.agg (frL_9 f).toArray) rfl (yields_build (by rfl) 65 _ rfl [(0, .int .i64 40), (1, .int .i64 (S : Int)), (2, .int .i64 64), (5, .int .i64 4), (6, .agg C0), (7, .agg C1)] (by kernel_rfl) _ HBU.out) hHeld ?_
      simp only [Act.put, sA, sZ, sS]
      refine wpAnyH_ready (rs := [1]) (by kernel_rfl) (by simp) (AllReadyH.cons (o := ⟨some 62, _, _, _, _, _⟩) rfl (fun K hK => ?_) AllReadyH.nil)
      go_simp
      refine (HLK.out _ At mt ct (HTG.out _ hHeld)).mono ?_
      rintro e w6 ⟨v6, rfl, ho6, hb6⟩
      have HO6 := Lib.hid (ho6.base_le hHeld.size)
      have HB6 := Lib.hid (hHeld.trans (hb6.mono hHeld.size))
      refine hK.out _ _ (HB6.out) (fun hHeld => ?_)
      clear hK K hb6 ho6
      refine wpAnyH_ready (rs := [8]) (by kernel_rfl) (by simp) (AllReadyH.cons (o := ⟨some 69, _, _, _, _, _⟩) rfl (fun K hK => ?_) AllReadyH.nil)
      go_simp
      refine (HHD.out _).mono ?_
      rintro e w7 ⟨v7, rfl, ho7, hb7⟩
      obtain ⟨A7, c7, rfl, _, _, hr7⟩ := ho7.formN HHL.out
      have HR7 := Lib.hid hr7
      have HO7 := Lib.hid (HO6.out.below hb7)
      have HB7 := Lib.hid (HB6.out.trans (hb7.mono HB6.out.size))
      refine hK.out _ _ (HB7.out) (fun hHeld => ?_)
      clear hK K hb7 hr7 ho7
      refine wpAnyH_ready (rs := [9]) (by kernel_rfl) (by simp) (AllReadyH.cons (o := ⟨some 70, _, _, _, _, _⟩) rfl (fun K hK => ?_) AllReadyH.nil)
      refine step_append8 rfl (.tmp 62) (.tmp 69) rfl w5.heap.size _ lb (by rfl) HO7.out _ A7 40 c7 pf (by rfl) HR7.out (by have := HLT.out; omega) HB7.out.size ?_
      intro v8 w8 ho8 hg8
      have HO8 := Lib.hid ho8
      have HB8 := Lib.hid (HB7.out.grown hg8 HB7.out.size HO7.out.lt)
      refine hK.out _ _ (HB8.out) (fun hHeld => ?_)
      clear hK K ho8 hg8
      refine tk 10 17 v8 rfl hHeld ?_
      simp only [Act.put, sA, sZ, sS]
      refine wpAnyH_done (by kernel_rfl) ?_ _
      have HPX := Lib.hid (HPRW.out _ HB8.out)
      have LX := Lib.hid (show (lb ++ pf).length + T ≤ 2000000000 by rw [List.length_append, HHL.out]; have := HLT.out; have := HTL.out; omega)
      clear hHeld
      go_wp2_with (((with_reducible show wpList _ _ _ (⟨some 73, _, _, _, _, _⟩ :: _) _ _); refine wpList_append8 (o := ⟨some 73, _, _, _, _, _⟩) rfl _ _ rfl w5.heap.size _ (lb ++ pf) (by rfl) HO8.out _ RA T rc pk (by rfl) HPX.out LX.out HB8.out.size ?_; intro v9 w9 ho9 hg9 hq9; clear hq9; have HO9 := Lib.hid ho9; have HB9 := Lib.hid (HB8.out.grown hg9 HB8.out.size HO8.out.lt); clear ho9 hg9))
      go_ret2
      have HF9 := HB5.out.trans (HB9.out.mono HB5.out.size)
      have HO9' := HO9.out.base_le HB5.out.size
      rw [List.append_assoc] at HO9'
      first
        | exact ⟨fun _ => ⟨_, rfl, HO9'⟩, fun h => absurd rfl h, HF9⟩
        | exact ⟨⟨_, rfl, HO9'⟩, HF9⟩
    · obtain rfl : E = 4 := HWE.out.2.1 rfl hm
      have hgn : (65535 : Int) < (T : Int) := by have := HSB.out; omega
      have hgb : decide ((65535 : Int) < (T : Int)) = true := decide_eq_true hgn
      clear hm
      go_wp2_with fail
      go_ret2
      first
        | exact ⟨fun h => (by cases h), fun _ => rfl, HB4.out⟩
        | exact ⟨rfl, HB4.out⟩

set_option maxHeartbeats 16000000 in
theorem rwrap_66 (A : Option Addr) (len cap : Nat) (xs : List UInt8) {s d : Ad} (hs : s.b.length = 16) (hd : d.b.length = 16) (hlen : len ≤ 90000) (hcap : len ≤ cap) (he : (fN xs).e = 0) (hty : (rdOf xs).1.ty = 34525) (hsx : s.six = true) (w : World) (hI : Rd w w.heap.size A len xs) :
    Calls Try.prog 11 #[.slice A len cap, adC s, adC d] w (WrGave w xs s d) := by
  have hF := frame_of he
  have h0 : (rdOf xs).2 = 0 := by rw [hF.r]
  have hrt := right_ty hF.right (ty := 34525) (by simp)
  have htot : atK xs + (fN xs).total ≤ len := by have := hF.h2; rw [hI.len] at this; exact this
  have hpk : packK xs = (xs.drop (atK xs)).take (fN xs).total := rfl
  have hwE : (famB s d = false → wrapE xs s d = 1) ∧ (famB s d = true → ¬ (fN xs).total ≤ 65535 → wrapE xs s d = 4) ∧ (famB s d = true → (fN xs).total ≤ 65535 → wrapE xs s d = 0 ∧ rightB_9 (h6T s d 41 (fN xs).total) = true) := by
    have hm : mostT s = 65535 := by unfold mostT; rw [hsx]; rfl
    have ho := okT_eq s d (p := 41) (by simp) (fN xs).total
    unfold okT at ho
    rw [hsx, hm] at ho
    unfold wrapE
    rw [if_neg (by omega), hm]
    refine ⟨fun h => if_pos h, fun h h2 => ?_, fun h h2 => ⟨?_, ?_⟩⟩
    · rw [if_neg (by rw [h]; decide), if_pos (by omega)]
    · rw [if_neg (by rw [h]; decide), if_neg (by omega)]
    · rw [h, decide_eq_true h2] at ho
      exact ho
  have hwL : wrapL xs s d = lkB { (rdOf xs).1 with ty := 34525 } ++ (putF_9 (h6T s d 41 (fN xs).total) ++ packK xs) := by
    unfold wrapL headT tyA
    rw [hsx, hty]
    rfl
  unfold WrGave
  obtain ⟨Y, hY, hq, hr, hbel⟩ := box_ads w s d
  have HQ := Lib.hid hq
  have HR := Lib.hid hr
  have HB := Lib.hid hbel
  have HS := Lib.hid hs
  have HD := Lib.hid hd
  have hRD := rread_any_7 A len cap xs (by omega) Y ((hI.below HB.out).more HB.out.size)
  unfold ReadGave_7 at hRD
  have H6 := Lib.hid ((rdOf_six xs (rdOf xs).1 (rdOf xs).2 rfl).1)
  obtain ⟨L, hL⟩ : ∃ L, (rdOf xs).1 = L := ⟨_, rfl⟩
  have hwL : wrapL xs s d = lkB { L with ty := 34525 } ++ (putF_9 (h6T s d 41 (fN xs).total) ++ packK xs) := by rw [← hL]; exact hwL
  obtain ⟨E, hE⟩ : ∃ E, wrapE xs s d = E := ⟨_, rfl⟩
  rw [hE] at hwE ⊢
  rw [hwL]
  clear hwL hE
  obtain ⟨a1, a2, a3, a4, _⟩ := atK_ok h0
  obtain ⟨p, hp⟩ : ∃ p, atK xs = p := ⟨_, rfl⟩
  have hfN := fN_yes h0
  rw [hL, h0] at hRD
  rw [hL] at H6 a1
  rw [hL, hp] at hfN
  rw [hp] at a1 a2 a3 a4
  rw [hI.len] at a2
  have HRR := Lib.hid (hI.from (l := p) a2 cap hcap)
  have hcut := fun W => run_from8 A len cap p a2 W
  obtain ⟨RA, hRA⟩ : ∃ R, cutA A cap p = R := ⟨_, rfl⟩
  obtain ⟨rl, hrl⟩ : ∃ n, len - p = n := ⟨_, rfl⟩
  obtain ⟨rc, hrc⟩ : ∃ n, cap - p = n := ⟨_, rfl⟩
  have hrcl : rl ≤ rc := by omega
  have hrll : rl ≤ 90000 := by omega
  rw [hRA, hrl, hrc] at hcut
  rw [hRA, hrl] at HRR
  have HCUT := Lib.hid hcut
  have HTY := Lib.hid (fun tv => (lk_ty L H6.out tv).1)
  have HAT := Lib.hid (fun tv => show (lkL L tv)[14]? = some (.int .i64 (p : Int)) from a1 ▸ (lk_ty L H6.out tv).2)
  have HNT := Lib.hid (fun W (hB : Below w.heap.size w W) => rnet_any L.ty RA rl rc (xs.drop p) (by omega) hrcl W ((HRR.out.below hB).more hB.size))
  rw [← hfN] at HNT
  unfold ntV at HNT
  have HRD := Lib.hid hRD
  obtain ⟨n, hn⟩ : ∃ n, fN xs = n := ⟨_, rfl⟩
  rw [hn] at HNT
  obtain ⟨T, hT⟩ : ∃ T, n.total = T := ⟨_, rfl⟩
  obtain ⟨hh, hhd⟩ : ∃ T, n.head = T := ⟨_, rfl⟩
  obtain ⟨pr, hpr⟩ : ∃ T, n.proto = T := ⟨_, rfl⟩
  obtain ⟨fr, hfr⟩ : ∃ T, n.frag = T := ⟨_, rfl⟩
  rw [hT, hhd, hpr, hfr] at HNT
  rw [hn] at he hwE htot hpk ⊢
  rw [hT] at hwE htot hpk ⊢
  rw [hp] at htot hpk
  rw [decide_eq_true he] at HNT
  rw [hL] at hty hrt
  rw [hty] at HNT HTY
  obtain ⟨S, hS⟩ : ∃ S, 40 + T = S := ⟨_, rfl⟩
  have hwr : IntKind.i64.wrap (40 + (T : Int)) = (S : Int) := by rw [IntKind.wrap_i64]; omega
  have hwp : IntKind.i64.wrap ((p : Int) + (T : Int)) = (p : Int) + (T : Int) := by rw [IntKind.wrap_i64]; omega
  have hct9 := fun W => run_cut8 A len cap p T (p : Int) ((p : Int) + (T : Int)) rfl (by omega) (by omega) W
  have HPR := Lib.hid (hI.cut (l := p) (n := T) htot cap hcap)
  rw [← hpk] at HPR
  rw [hRA] at hct9 HPR
  rw [hrc] at hct9
  have HCT9 := Lib.hid hct9
  have HTL := Lib.hid (show T ≤ 90000 by omega)
  have HWR := Lib.hid hwr
  have HWP := Lib.hid hwp
  have HLK := Lib.hid (fun W A n cap hT => rput_any7 { L with ty := 34525 } (six_ty H6.out _) (A := A) (n := n) cap (w := W) hT hrt)
  have HLT := Lib.hid (show (lkB { L with ty := 34525 }).length ≤ 22 by
    have h2 : L.ts.length ≤ 2 := (right_parts hrt).1
    have e : (lkB { L with ty := 34525 }).length = 14 + 4 * L.ts.length := lkB_len (six_ty H6.out _)
    rw [e]
    omega)
  have HST := Lib.hid (fun tv => lk_set L H6.out tv 34525)
  have HFA := Lib.hid (fun W => rfamily_any hs hd W)
  have HHL := Lib.hid (show (putF_9 (h6T s d 41 T)).length = 40 from putF_len_9 (f := h6T s d 41 T) ⟨hs, hd⟩)
  have HHD := Lib.hid (fun h W => rput_any_9 (f := h6T s d 41 T) ⟨hs, hd⟩ h W)
  have HBU := Lib.hid (show Try.prog.built 65 [(0, .int .i64 40), (1, .int .i64 (S : Int)), (2, .int .i64 64), (5, .int .i64 41), (6, adC s), (7, adC d)] = some (frL_9 (h6T s d 41 T)).toArray by rw [← hS]; exact built_at_9 40 ((40 + T : Nat) : Int) 64 41 s d hs hd)
  have HSX := Lib.hid (fun W (h : Below Y.heap.size Y W) => show W.cell? ⟨w.heap.size, 0, none⟩ = some (.bool true) from hsx ▸ Blk_10.cell (HQ.out.below HQ.out.lt h) rfl)
  unfold frC_9 at HHD
  obtain ⟨f, hf⟩ : ∃ f, h6T s d 41 T = f := ⟨_, rfl⟩
  rw [hf] at hwE HHL HHD HBU ⊢
  obtain ⟨lb, hlb⟩ : ∃ l, lkB { L with ty := 34525 } = l := ⟨_, rfl⟩
  rw [hlb] at HLK HLT ⊢
  obtain ⟨pf, hpf⟩ : ∃ l, putF_9 f = l := ⟨_, rfl⟩
  rw [hpf] at HHL HHD ⊢
  obtain ⟨pk, hpk2⟩ : ∃ l, packK xs = l := ⟨_, rfl⟩
  rw [hpk2] at HPR ⊢
  obtain ⟨bf, hbf⟩ : ∃ b, famB s d = b := ⟨_, rfl⟩
  rw [hbf] at hwE HFA
  have HWE := Lib.hid hwE
  unfold adC at *
  obtain ⟨C0, hC0⟩ : ∃ C, (adL s).toArray = C := ⟨_, rfl⟩
  obtain ⟨C1, hC1⟩ : ∃ C, (adL d).toArray = C := ⟨_, rfl⟩
  rw [hC0] at hY HFA HBU ⊢
  rw [hC1] at hY HFA HBU ⊢
  have HC0 := Lib.hid hC0
  have HC1 := Lib.hid hC1
  have HY := Lib.hid hY
  have HSB := Lib.hid hS
  have HPB := Lib.hid (show p ≤ 22 from a4)
  clear hY hq hr hbel hs hd hC0 hC1 hRD h0 hI hL hF a1 a2 a3 a4 hp hfN hcut hRA hrl hrc hrcl hrll hn hT hhd hpr hfr hty hrt he hwE htot hpk hpk2 hct9 hwr hwp hsx hS hf hlb hpf hbf
  go_enter Try.func11, Try.ntmps11
  go_wp2_with fail
  rw [HY.out]
  refine HRD.out.mono ?_
  rintro e w1 ⟨tv, rfl, hown, hb1⟩
  obtain ⟨At, mt, ct, rfl, q1, q2, q3, q4, q5⟩ := hown.sl
  have HTA := Lib.hid hown
  have BY1 := Lib.hid hb1
  clear hb1 hown q1 q2 q3 q4 q5
  go_upto_region 4 with (((with_reducible show wpList _ _ _ (⟨none, .store 41 (.tmp 8) (.tmp 22), _, _, _, _⟩ :: _) _ _); refine wpList_storeNewG (op := ⟨none, .store 41 (.tmp 8) (.tmp 22), _, _, _, _⟩) rfl 41 _ _ rfl (by rfl) (lkL L (.slice At mt ct)) (by rfl) (by rw [lkL_len H6.out]; rfl) (sizeLkL H6.out _) (lkL_one L _ rfl) ?_; intro w2 hl2 hb2 hz2; clear hz2; have BY2 := Lib.hid (BY1.out.trans (hb2.mono BY1.out.size)); have HTA2 := Lib.hid (HTA.out.below hb2); have HLTA := Lib.hid (fun g hg => (HTA.out.lt g hg).2); have HG := Lib.hid BY1.out.size; have HK2 := Lib.hid hl2; clear hl2 hb2; generalize w1.heap.size = G at HK2 HG HLTA ⊢))
  have HT13 := Lib.hid (fun W (hW : Below w2.heap.size w2 W) => Blk_10.cell (HK2.out.below HK2.out.lt hW) (HTY.out (.slice At mt ct)))
  have HT14 := Lib.hid (fun W (hW : Below w2.heap.size w2 W) => Blk_10.cell (HK2.out.below HK2.out.lt hW) (HAT.out (.slice At mt ct)))
  refine wp_region_held_drew (S := fun W => Below w2.heap.size w2 W) (by kernel_rfl) ((Below.refl _ _).drew) (fun hHeld => ?_)
  obtain ⟨X, hX⟩ : ∃ X, w2.drew = X := ⟨_, rfl⟩
  rw [hX] at hHeld ⊢
  clear hX
  refine tk 0 27 (.pointer (some ⟨G, 13, none⟩)) rfl hHeld ?_
  simp only [Act.put, sA, sZ, sS]
  refine tkY 1 28 (.int .i64 34525) rfl (Or.inl ⟨by rfl, fun W hW => by have hc := HT13.out W hW; go_simp⟩) hHeld ?_
  simp only [Act.put, sA, sZ, sS]
  refine tk 2 29 (.slice A len cap) rfl hHeld ?_
  simp only [Act.put, sA, sZ, sS]
  refine tk 3 30 (.pointer (some ⟨G, 14, none⟩)) rfl hHeld ?_
  simp only [Act.put, sA, sZ, sS]
  refine tkY 4 31 (.int .i64 (p : Int)) rfl (Or.inl ⟨by rfl, fun W hW => by have hc := HT14.out W hW; go_simp⟩) hHeld ?_
  simp only [Act.put, sA, sZ, sS]
  refine tkY 5 32 (.slice RA rl rc) rfl (Or.inl ⟨by rfl, fun W _ => by have hs := HCUT.out W; go_simp⟩) hHeld ?_
  simp only [Act.put, sA, sZ, sS]
  refine wpAnyH_ready (rs := [6]) (by kernel_rfl) (by simp) (AllReadyH.cons (o := ⟨some 33, _, _, _, _, _⟩) rfl (fun K hK => ?_) AllReadyH.nil)
  go_simp
  refine (HNT.out _ (HB.out.trans ((BY2.out.trans (hHeld.mono BY2.out.size)).mono HB.out.size))).mono ?_
  rintro e w3 ⟨rfl, hb3⟩
  refine hK.out _ _ (hHeld.trans (hb3.mono hHeld.size)) (fun hHeld => ?_)
  clear hK K hb3
  refine tk 7 26 (.tuple #[.int .i64 (hh : Int), .int .i64 (T : Int), .int .i64 (pr : Int), .bool fr, .bool true]) rfl hHeld ?_
  simp only [Act.put, sA, sZ, sS]
  refine tk 8 34 (.int .i64 (hh : Int)) rfl hHeld ?_
  simp only [Act.put, sA, sZ, sS]
  refine tk 9 35 (.int .i64 (T : Int)) rfl hHeld ?_
  simp only [Act.put, sA, sZ, sS]
  refine tk 10 36 (.int .i64 (pr : Int)) rfl hHeld ?_
  simp only [Act.put, sA, sZ, sS]
  refine tk 11 37 (.bool fr) rfl hHeld ?_
  simp only [Act.put, sA, sZ, sS]
  refine tk 12 38 (.bool true) rfl hHeld ?_
  simp only [Act.put, sA, sZ, sS]
  refine tk 13 10 (.int .i64 (hh : Int)) rfl hHeld ?_
  simp only [Act.put, sA, sZ, sS]
  refine tk 14 11 (.int .i64 (T : Int)) rfl hHeld ?_
  simp only [Act.put, sA, sZ, sS]
  refine tk 15 12 (.int .i64 (pr : Int)) rfl hHeld ?_
  simp only [Act.put, sA, sZ, sS]
  refine tk 16 13 (.bool fr) rfl hHeld ?_
  simp only [Act.put, sA, sZ, sS]
  refine tk 17 14 (.bool true) rfl hHeld ?_
  simp only [Act.put, sA, sZ, sS]
  refine wpAnyH_done (by kernel_rfl) ?_ _
  have HD3 := Lib.hid hHeld
  have BY3 := Lib.hid (BY2.out.trans (HD3.out.mono BY2.out.size))
  clear hHeld HT13 HT14
  have HK3 := Lib.hid (HK2.out.below HK2.out.lt HD3.out)
  have HTA3 := Lib.hid (HTA2.out.below HD3.out)
  go_wp2_with (first
    | ((with_reducible show wpList _ _ _ (⟨some 41, _, _, _, _, _⟩ :: _) _ _); refine wpList_loadM (op := ⟨some 41, _, _, _, _, _⟩) 25 _ rfl (by rfl) w.heap.size 0 (by rfl) (adL s) (Blk_10.range (HQ.out.below HQ.out.lt BY3.out)) _ Try.underlying25 rfl (sizeAdL HS.out) ?_; rw [HC0.out])
    | ((with_reducible show wpList _ _ _ (⟨some 42, _, _, _, _, _⟩ :: _) _ _); refine wpList_loadM (op := ⟨some 42, _, _, _, _, _⟩) 25 _ rfl (by rfl) (w.heap.size + 1) 0 (by rfl) (adL d) (Blk_10.range (HR.out.below HR.out.lt BY3.out)) _ Try.underlying25 rfl (sizeAdL HD.out) ?_; rw [HC1.out]))
  refine (HFA.out _).mono ?_
  rintro e w4 ⟨rfl, hb4⟩
  have BY4 := Lib.hid (BY3.out.trans (hb4.mono BY3.out.size))
  have HB4 := Lib.hid (HB.out.trans (BY4.out.mono HB.out.size))
  have HK4 := Lib.hid (HK3.out.below HK3.out.lt hb4)
  have HTA4 := Lib.hid (HTA3.out.below hb4)
  clear hb4
  cases bf with
  | false =>
    obtain rfl : E = 1 := HWE.out.1 rfl
    go_wp2_with fail
    go_ret2
    first
      | exact ⟨fun h => (by cases h), fun _ => rfl, HB4.out⟩
      | exact ⟨rfl, HB4.out⟩
  | true =>
    have at4 := Blk_10.cell HK4.out (HAT.out (.slice At mt ct))
    have ty4 := Blk_10.cell HK4.out (HTY.out (.slice At mt ct))
    have sx4 := HSX.out _ BY4.out
    have hct9 := HCT9.out
    have hwp := HWP.out
    have hwr := HWR.out
    by_cases hm : T ≤ 65535
    · obtain ⟨rfl, hrg⟩ : E = 0 ∧ rightB_9 f = true := HWE.out.2.2 rfl hm
      have HHD := Lib.hid (HHD.out hrg)
      have hgn : ¬ (65535 : Int) < (T : Int) := by have := HSB.out; omega
      have hgb : decide ((65535 : Int) < (T : Int)) = false := decide_eq_false hgn
      clear hrg hm
      go_upto_region 17 with (((with_reducible show wpList _ _ _ (⟨none, .store 3 (.tmp 60) _, _, _, _, _⟩ :: _) _ _); refine wpList_storeI_10 rfl (.tmp 60) _ rfl G 13 (by rfl) 34525 (by rfl) 41 _ HK4.out 34525 (HTY.out _) ?_; intro w5 hq5 hn5 hb5; rw [HST.out] at hq5; have HK5 := Lib.hid hq5; have BY5 := Lib.hid (BY4.out.trans (hb5.mono HG.out)); have HTA5 := Lib.hid (HTA4.out.kept (gb_of hn5 hb5) (own_ne HLTA.out)); clear hq5 hn5 hb5))
      have HB5 := Lib.hid (HB.out.trans (BY5.out.mono HB.out.size))
      have HQ5 := Lib.hid (HQ.out.below HQ.out.lt BY5.out)
      have HR5 := Lib.hid (HR.out.below HR.out.lt BY5.out)
      have HTG := Lib.hid (fun (W : World) (hW : Below w5.heap.size w5 W) => show TagsAt W W.heap.size At mt L.ts from tags_of (HTA5.out.below hW))
      have HPRW := Lib.hid (fun (W : World) (hW : Below w5.heap.size w5 W) => show Rd W w.heap.size RA T pk from HPR.out.below (HB5.out.trans (hW.mono HB5.out.size)))
      clear hct9 hwp hwr at4 ty4 sx4 hgn hgb
      refine wp_region_held_drew (S := fun W => Below w5.heap.size w5 W) (by kernel_rfl) ((Below.refl _ _).drew) (fun hHeld => ?_)
      obtain ⟨X, hX⟩ : ∃ X, w5.drew = X := ⟨_, rfl⟩
      rw [hX] at hHeld ⊢
      clear hX
      refine tkY 0 61 (lkC { L with ty := 34525 } (.slice At mt ct)) rfl (yieldsIf_load_mid (by rfl) 41 _ rfl G 0 rfl (lkL { L with ty := 34525 } (.slice At mt ct)) _ (fun W hW => Blk_10.range (HK5.out.below HK5.out.lt hW)) Try.underlying41 rfl (sizeLkL (six_ty H6.out _) _)) hHeld ?_
      simp only [Act.put, sA, sZ, sS]
      refine tk 2 63 (.int .i64 (T : Int)) rfl hHeld ?_
      simp only [Act.put, sA, sZ, sS]
      refine tkY 3 64 (.int .i64 (S : Int)) rfl (Or.inl ⟨by rfl, fun W _ => by have hwr := HWR.out; go_simp⟩) hHeld ?_
      simp only [Act.put, sA, sZ, sS]
      refine tk 4 65 (.int .i64 41) rfl hHeld ?_
      simp only [Act.put, sA, sZ, sS]
      refine tkY 5 66 (.agg (adL s).toArray) rfl (yieldsIf_load_mid (by rfl) 25 _ (by rfl) w.heap.size 0 rfl (adL s) _ (fun W hW => Blk_10.range (HQ5.out.below HQ5.out.lt hW)) Try.underlying25 rfl (sizeAdL HS.out)) hHeld ?_
      simp only [Act.put, sA, sZ, sS]
      rw [HC0.out]
      refine tkY 6 67 (.agg (adL d).toArray) rfl (yieldsIf_load_mid (by rfl) 25 _ (by rfl) (w.heap.size + 1) 0 rfl (adL d) _ (fun W hW => Blk_10.range (HR5.out.below HR5.out.lt hW)) Try.underlying25 rfl (sizeAdL HD.out)) hHeld ?_
      simp only [Act.put, sA, sZ, sS]
      rw [HC1.out]
      refine tkY 7 68 (.agg (frL_9 f).toArray) rfl (yields_build (by rfl) 65 _ rfl [(0, .int .i64 40), (1, .int .i64 (S : Int)), (2, .int .i64 64), (5, .int .i64 41), (6, .agg C0), (7, .agg C1)] (by kernel_rfl) _ HBU.out) hHeld ?_
      simp only [Act.put, sA, sZ, sS]
      refine wpAnyH_ready (rs := [1]) (by kernel_rfl) (by simp) (AllReadyH.cons (o := ⟨some 62, _, _, _, _, _⟩) rfl (fun K hK => ?_) AllReadyH.nil)
      go_simp
      refine (HLK.out _ At mt ct (HTG.out _ hHeld)).mono ?_
      rintro e w6 ⟨v6, rfl, ho6, hb6⟩
      have HO6 := Lib.hid (ho6.base_le hHeld.size)
      have HB6 := Lib.hid (hHeld.trans (hb6.mono hHeld.size))
      refine hK.out _ _ (HB6.out) (fun hHeld => ?_)
      clear hK K hb6 ho6
      refine wpAnyH_ready (rs := [8]) (by kernel_rfl) (by simp) (AllReadyH.cons (o := ⟨some 69, _, _, _, _, _⟩) rfl (fun K hK => ?_) AllReadyH.nil)
      go_simp
      refine (HHD.out _).mono ?_
      rintro e w7 ⟨v7, rfl, ho7, hb7⟩
      obtain ⟨A7, c7, rfl, _, _, hr7⟩ := ho7.formN HHL.out
      have HR7 := Lib.hid hr7
      have HO7 := Lib.hid (HO6.out.below hb7)
      have HB7 := Lib.hid (HB6.out.trans (hb7.mono HB6.out.size))
      refine hK.out _ _ (HB7.out) (fun hHeld => ?_)
      clear hK K hb7 hr7 ho7
      refine wpAnyH_ready (rs := [9]) (by kernel_rfl) (by simp) (AllReadyH.cons (o := ⟨some 70, _, _, _, _, _⟩) rfl (fun K hK => ?_) AllReadyH.nil)
      refine step_append8 rfl (.tmp 62) (.tmp 69) rfl w5.heap.size _ lb (by rfl) HO7.out _ A7 40 c7 pf (by rfl) HR7.out (by have := HLT.out; omega) HB7.out.size ?_
      intro v8 w8 ho8 hg8
      have HO8 := Lib.hid ho8
      have HB8 := Lib.hid (HB7.out.grown hg8 HB7.out.size HO7.out.lt)
      refine hK.out _ _ (HB8.out) (fun hHeld => ?_)
      clear hK K ho8 hg8
      refine tk 10 17 v8 rfl hHeld ?_
      simp only [Act.put, sA, sZ, sS]
      refine wpAnyH_done (by kernel_rfl) ?_ _
      have HPX := Lib.hid (HPRW.out _ HB8.out)
      have LX := Lib.hid (show (lb ++ pf).length + T ≤ 2000000000 by rw [List.length_append, HHL.out]; have := HLT.out; have := HTL.out; omega)
      clear hHeld
      go_wp2_with (((with_reducible show wpList _ _ _ (⟨some 73, _, _, _, _, _⟩ :: _) _ _); refine wpList_append8 (o := ⟨some 73, _, _, _, _, _⟩) rfl _ _ rfl w5.heap.size _ (lb ++ pf) (by rfl) HO8.out _ RA T rc pk (by rfl) HPX.out LX.out HB8.out.size ?_; intro v9 w9 ho9 hg9 hq9; clear hq9; have HO9 := Lib.hid ho9; have HB9 := Lib.hid (HB8.out.grown hg9 HB8.out.size HO8.out.lt); clear ho9 hg9))
      go_ret2
      have HF9 := HB5.out.trans (HB9.out.mono HB5.out.size)
      have HO9' := HO9.out.base_le HB5.out.size
      rw [List.append_assoc] at HO9'
      first
        | exact ⟨fun _ => ⟨_, rfl, HO9'⟩, fun h => absurd rfl h, HF9⟩
        | exact ⟨⟨_, rfl, HO9'⟩, HF9⟩
    · obtain rfl : E = 4 := HWE.out.2.1 rfl hm
      have hgn : (65535 : Int) < (T : Int) := by have := HSB.out; omega
      have hgb : decide ((65535 : Int) < (T : Int)) = true := decide_eq_true hgn
      clear hm
      go_wp2_with fail
      go_ret2
      first
        | exact ⟨fun h => (by cases h), fun _ => rfl, HB4.out⟩
        | exact ⟨rfl, HB4.out⟩

/-- The document's Wrap. -/
theorem rwrap_any (A : Option Addr) (len cap : Nat) (xs : List UInt8) {s d : Ad} (hs : s.b.length = 16) (hd : d.b.length = 16) (hlen : len ≤ 90000) (hcap : len ≤ cap) (w : World) (hI : Rd w w.heap.size A len xs) :
    Calls Try.prog 11 #[.slice A len cap, adC s, adC d] w (WrGave w xs s d) := by
  have hno : (fN xs).e ≠ 0 → wrapE xs s d = 3 := fun h => if_pos h
  by_cases h0 : (rdOf xs).2 = 0
  · by_cases he : (fN xs).e = 0
    · rcases ntK_ty (by rw [← fN_yes h0]; exact he) with hty | hty
      · cases hsx : s.six with
        | false => exact rwrap_44 A len cap xs hs hd hlen hcap he hty hsx w hI
        | true => exact rwrap_64 A len cap xs hs hd hlen hcap he hty hsx w hI
      · cases hsx : s.six with
        | false => exact rwrap_46 A len cap xs hs hd hlen hcap he hty hsx w hI
        | true => exact rwrap_66 A len cap xs hs hd hlen hcap he hty hsx w hI
    · refine (rwrap_bad A len cap xs hs hd hlen hcap h0 he w hI).mono ?_
      rintro e w' ⟨rfl, hb⟩
      refine ⟨fun h => ?_, fun _ => ?_, hb⟩
      · rw [hno he] at h; cases h
      · rw [hno he]; rfl
  · have he : (fN xs).e ≠ 0 := by rw [fN_no h0]; decide
    refine (rwrap_no A len cap xs hs hd hlen h0 w hI).mono ?_
    rintro e w' ⟨rfl, hb⟩
    refine ⟨fun h => ?_, fun _ => ?_, hb⟩
    · rw [hno he] at h; cases h
    · rw [hno he]; rfl
end Go.Proofs.Ytomkfcpellcncaa
