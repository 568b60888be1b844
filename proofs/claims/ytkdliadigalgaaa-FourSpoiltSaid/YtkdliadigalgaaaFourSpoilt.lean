/-
  PROVED HERE: 'FourSpoiltSaid': whatever header h, place at and byte turn are, the Go function FourSpoilt of package wayleavelaw08 returns true, and its arguments read behind the call as they read before. No condition.
-/
import Derived.Test.YtkdliadigalgaaaFOpen
namespace Go.Proofs.Ytkdliadigalgaaa
open Go.RowKit Go.Lib Go.ChangeShapes Go.WideShapes Go.ChangeAt

theorem xor8 (x y : UInt8) : bits .xor .u8 (x.toNat : Int) (y.toNat : Int) = ((x ^^^ y).toNat : Int) := by
  rw [u8_xor_nat _ _ x.toNat_lt y.toNat_lt, UInt8.toNat_xor]

set_option maxRecDepth 100000 in
set_option maxHeartbeats 4000000 in
theorem fourSpoilt_walk (f : Fr) (hok : f.Ok) (a : Nat) (ha : a < 256) (u : Nat) (hu : u < 256) (w : World) :
    Calls Try.prog 6 #[frC f, .int .u8 (a : Int), .int .u8 (u : Int)] w fun e w' => e = .returned (.bool true) ∧ Below w.heap.size w w' := by
  obtain ⟨tb, htb⟩ : ∃ tb : UInt8, (tb.toNat : Int) = (u : Int) := ⟨UInt8.ofNat u, by rw [u8nat hu]⟩
  rw [← htb]
  clear htb
  have hq := Blk.new w 28 (frL f)
  have hB := (Below.refl w.heap.size w).alloc (Nat.le_refl _) (.cells (frL f).toArray 28)
  have HOK := Lib.hid hok
  unfold frC
  obtain ⟨Z, hZ⟩ : ∃ Z, w.alloc (.cells (frL f).toArray 28) = Z := ⟨_, rfl⟩
  rw [hZ] at hq hB
  have HQ := Lib.hid hq
  have HB := Lib.hid hB
  have HZ := Lib.hid hZ
  have HTOT := Lib.hid (fun (W : World) (hW : Blk W 28 w.heap.size (frL f)) => hW.cell (i := 1) (v := .int .i64 f.total) rfl)
  obtain ⟨t, ht⟩ : ∃ t, f.total = t := ⟨_, rfl⟩
  rw [ht] at HTOT
  have HT := Lib.hid ht
  clear hq hB hZ hok ht
  go_enter Try.func6, Try.ntmps6
  go_wp2_with fail
  rw [HZ.out]
  refine (awake_any _).mono ?_
  rintro e w1 ⟨rfl, hb1⟩
  have HQ1 := Lib.hid (HQ.out.below HQ.out.lt hb1)
  have HB1 := Lib.hid (HB.out.trans (hb1.mono HB.out.size))
  have ct := HTOT.out w1 HQ1.out
  clear hb1
  by_cases htl : 1000 < t
  · go_wp2_with fail
    refine (awake_any _).mono ?_
    rintro e w2 ⟨rfl, hb2⟩
    go_wp2_with fail
    go_ret
    exact ⟨rfl, HB1.out.trans (hb2.mono HB1.out.size)⟩
  · by_cases hu0 : tb = 0
    · have hu1 : ((tb.toNat : Int) == 0) = true := by rw [hu0]; rfl
      go_wp2_with fail
      refine (awake_any _).mono ?_
      rintro e w2 ⟨rfl, hb2⟩
      go_wp2_with fail
      go_ret
      exact ⟨rfl, HB1.out.trans (hb2.mono HB1.out.size)⟩
    · have hu2 : tb.toNat ≠ 0 := fun h => hu0 (UInt8.toNat_inj.1 h)
      have hu1 : ((tb.toNat : Int) == 0) = false := beq_eq_false_iff_ne.2 (by omega)
      have HTB := Lib.hid hu0
      clear hu0
      cases hr : rightB f with
      | false =>
        have HP := Lib.hid (fun W => fput_no HOK.out hr W)
        clear hr
        go_wp2_with ((with_reducible show wpList _ _ _ _ _ _); refine wpList_loadF rfl _ rfl w.heap.size (by rfl) f HOK.out HQ1.out ?_)
        refine (HP.out _).mono ?_
        rintro e w2 ⟨rfl, hb2⟩
        go_wp2_with fail
        go_ret
        exact ⟨rfl, HB1.out.trans (hb2.mono HB1.out.size)⟩
      | true =>
        have g := right_good hr
        obtain ⟨T, hT⟩ := Int.eq_ofNat_of_zero_le (show 0 ≤ t by have := g.t0; rw [HT.out] at this; omega)
        have hT20 : 20 ≤ T := by have := g.t0; rw [HT.out] at this; omega
        subst hT
        have HP := Lib.hid (fun W => fput_yes HOK.out hr W)
        have HRT := Lib.hid hr
        clear hr g
        go_wp2_with ((with_reducible show wpList _ _ _ _ _ _); refine wpList_loadF rfl _ rfl w.heap.size (by rfl) f HOK.out HQ1.out ?_)
        refine (HP.out _).mono ?_
        rintro e w2 ⟨A2, c2, rfl, hc2, hm2, ho2, hr2, hb2⟩
        have HQ2 := Lib.hid (HQ1.out.below HQ1.out.lt hb2)
        have HB2 := Lib.hid (HB1.out.trans (hb2.mono HB1.out.size))
        have hw12 := hb2.size
        have HLB := Lib.hid (show w.heap.size + 1 ≤ w1.heap.size from Nat.succ_le_of_lt HQ1.out.lt)
        have O0 := Lib.hid (empty8 (base := w2.heap.size) w2 (Nat.le_refl _))
        have HR2 := Lib.hid hr2
        clear hb2 hr2 ho2 ct
        go_wp2_with (at_builtin; refine wpList_append8 (o := ⟨some 37, _, _, _, _, _⟩) rfl _ _ rfl w2.heap.size _ [] (by rfl) O0.out _ _ _ _ (putF f) (by rfl) (HR2.out.alloc (Nat.le_refl _) _) (by decide) (by simp) ?_; intro v3 w3 ho3 hg3 _; rw [List.nil_append] at ho3)
        have e3 : Below w2.heap.size w2 w3 := ((Below.refl _ w2).alloc (Nat.le_refl _) (.cells #[] 5)).grown hg3 (by simp) (fun g hg => by simp [Value.ownBlock] at hg; omega)
        have HQ3 := Lib.hid (HQ2.out.below HQ2.out.lt e3)
        have HB3 := Lib.hid (HB2.out.trans (e3.mono HB2.out.size))
        have HO3 := Lib.hid (ho3.base_le (base' := w1.heap.size) hw12)
        clear hg3 e3 ho3
        go_wp2_with fail
        go_loopw [9] (fun vv wr => ∃ (k : Nat), 20 + k ≤ 1000 ∧ Own8 wr w1.heap.size vv (putF f ++ List.replicate k 0) ∧ Blk wr 28 w.heap.size (frL f) ∧ Below w.heap.size w wr) (fun vv _ => 1000 - lenOf8 vv)
        case atStart => exact ⟨0, by omega, by rw [List.replicate_zero, List.append_nil]; exact HO3.out, HQ3.out, HB3.out⟩
        case round =>
          clear HO3 HQ3 HB3
          obtain ⟨k, hk, hown, hq, hB⟩ := hrel
          have hln : (putF f ++ List.replicate k 0).length = 20 + k := by rw [List.length_append, List.length_replicate, putF_len HOK.out]
          obtain ⟨Av, cv, rfl, hcv, hmv, hrv⟩ := hown.form hln
          have hlr : w1.heap.size ≤ wr.heap.size := by
            obtain ⟨g, _, _, _, _, h1, h2, _⟩ := own_form hown hln (by omega)
            omega
          by_cases hlt : 20 + k < 1000
          · have hlt' : ((20 + k : Nat) : Int) < (1000 : Int) := by omega
            have htt : (putF f ++ List.replicate k 0) ++ [0] = putF f ++ List.replicate (k + 1) 0 := by rw [List.append_assoc, ← List.replicate_succ']
            have HTT := Lib.hid htt
            have HQr := Lib.hid hq
            have HBr := Lib.hid hB
            have HLN := Lib.hid hln
            clear htt hq hB hrv
            rw [Int.natCast_add] at hlt'
            go_wp2_with (at_builtin; refine wpList_append8 rfl _ _ rfl w1.heap.size _ (putF f ++ List.replicate k 0) (by rfl) (hown.alloc _) _ _ _ _ [0] (by rfl) (show Rd (wr.alloc (.cells #[.int .u8 0] 5)) (wr.heap.size + 1) (some ⟨wr.heap.size, 0, none⟩) 1 [0] from Rd.one wr 0) (by rw [HLN.out]; omega) (by simp; omega) ?_; intro v' wz hown' hgrow _)
            have hb1' := (HBr.out.alloc HBr.out.size (.cells #[.int .u8 0] 5)).grown hgrow (by have := HBr.out.size; simp; omega) (fun g hg => by have := hown.lt g hg; have := HLB.out; omega)
            have hq1' := (HQr.out.alloc (.cells #[.int .u8 0] 5)).grown hgrow (fun e => by have := hown.lt _ e; have := HLB.out; omega)
            rw [HTT.out] at hown'
            go_wp2_with fail
            go_roundw
            case rel => exact ⟨k + 1, by omega, hown', hq1', hb1'⟩
            case measure =>
              obtain ⟨Ax, cx, rfl, _, _, _⟩ := hown'.form (n := 20 + k + 1) (by rw [List.length_append, List.length_replicate, putF_len HOK.out]; omega)
              simp [lenOf8]; omega
          · have hlt' : ¬ ((20 + k : Nat) : Int) < (1000 : Int) := by omega
            have hkT : 20 + k = 1000 := by omega
            rw [hkT]
            obtain ⟨j, hj⟩ : ∃ j, a % 20 = j := ⟨_, rfl⟩
            have hj20 : j < 20 := by omega
            obtain ⟨x, hx⟩ : ∃ x, (putF f ++ List.replicate k 0)[j]? = some x := ⟨_, List.getElem?_eq_getElem (by omega)⟩
            have hbad := putF_spoilt HOK.out (List.replicate k 0) j hj20 x (x ^^^ tb) hx (xor_ne HTB.out)
            obtain ⟨ALL, hALL⟩ : ∃ ALL, putF f ++ List.replicate k 0 = ALL := ⟨_, rfl⟩
            rw [hALL] at hx hbad hrv hln hown
            rw [hkT] at hrv hln hcv hown hlt'
            obtain ⟨g, cg, hv, _, _, hbg, hgl, hheld⟩ := own_form hown hln (by omega)
            obtain ⟨rfl, rfl⟩ : Av = some ⟨g, 0, none⟩ ∧ cg = cv := by cases hv; exact ⟨rfl, rfl⟩
            clear hv
            obtain ⟨hc, hf⟩ := hheld j x hx
            unfold v8 at hc
            have hxor : bits .xor .u8 (x.toNat : Int) (tb.toNat : Int) = ((x ^^^ tb).toNat : Int) := xor8 x tb
            have m1 : (a : Int).tmod 20 = (j : Int) := by rw [Int.tmod_eq_emod_of_nonneg (by omega)]; omega
            have m2 : (a : Int) % 20 = (j : Int) := by omega
            have m4 : IntKind.i64.wrap (a : Int) = (a : Int) := by rw [IntKind.wrap_i64]; omega
            have m5 : IntKind.i64.wrap (j : Int) = (j : Int) := by rw [IntKind.wrap_i64]; omega
            have m6 : (j : Int) < 1000 := by omega
            obtain ⟨y, hy⟩ : ∃ y, x ^^^ tb = y := ⟨_, rfl⟩
            rw [hy] at hbad hxor
            have HH := Lib.hid hheld
            have HLN := Lib.hid hln
            have HX := Lib.hid hx
            have HBAD := Lib.hid hbad
            have HQw := Lib.hid hq
            have HBw := Lib.hid hB
            have HGL := Lib.hid hgl
            have HLE := Lib.hid hlr
            have HBG := Lib.hid hbg
            clear hALL hbad hrv hln hown hq hB hheld hx hy hkT hk hlt' hbg
            go_wp2_with ((with_reducible show wpList _ _ _ _ _ _); refine wpList_storeH rfl (.tmp 55) (.tmp 54) rfl g j (by rfl) y (y.toNat : Int) rfl (by rfl) ALL HH.out (by rw [HLN.out]; omega) ?_; intro w4 hH4 hB4; have HH4 := Lib.hid hH4; have HQ4 := Lib.hid (HQw.out.below (by have := HLB.out; have := HBG.out; omega) hB4); have HB4 := Lib.hid (HBw.out.trans (hB4.mono (by have := HLB.out; have := HBG.out; omega))); have HS4 := Lib.hid hB4.size; clear hH4 hB4)
            clear hc hf
            have hzl : (ALL.set j y).length = 1000 := by rw [List.length_set]; exact HLN.out
            have HOKR := Lib.hid (rdF_ok (ALL.set j y))
            have HFZ := Lib.hid (fun h => fault_zero (xs := ALL.set j y) h)
            have hfle := faultN_le (ALL.set j y)
            obtain ⟨R, hR⟩ : ∃ R, rdF (ALL.set j y) = R := ⟨_, rfl⟩
            obtain ⟨F, hF⟩ : ∃ F, faultN (ALL.set j y) = F := ⟨_, rfl⟩
            rw [hF] at HBAD hfle HFZ
            rw [hR] at HOKR
            have HR := Lib.hid hR
            have HF := Lib.hid hF
            have HZL := Lib.hid hzl
            have hgl4 : g < w4.heap.size := HH4.out.lt (by rw [hzl]; omega)
            have HY0 := Lib.hid (fun (h : j = 0) => show (ALL.set j y)[0]? = some y by subst h; rw [List.getElem?_set_self (by rw [HLN.out]; omega)])
            clear hR hF
            refine (read_as HR.out HF.out (by omega) (by assumption) (by assumption) (HH4.out.rd hgl4 hzl)).mono ?_
            rintro e w5 ⟨rfl, hb5⟩
            have HH5 := Lib.hid (HH4.out.below hgl4 hb5)
            have HB5 := Lib.hid (HB4.out.trans (hb5.mono HB4.out.size))
            have hgl5 : g < w5.heap.size := Nat.lt_of_lt_of_le hgl4 hb5.size
            clear hb5 hzl
            by_cases hj0 : j = 0
            · subst hj0
              rw [show ((0 : Nat) : Int) = (0 : Int) from rfl] at m1 m2 m5 m6 ⊢
              have hj0 : (0 : Nat) = 0 := rfl
              have hyl := y.toNat_lt
              have hyz := HY0.out hj0
              obtain ⟨yn, hyn⟩ : ∃ yn, y.toNat = yn := ⟨_, rfl⟩
              have HIH := Lib.hid (show ihl (ALL.set 0 y) = 4 * (yn % 16) by rw [← hyn]; unfold ihl batN; rw [List.getD, hyz]; rfl)
              have HC0 := Lib.hid (fun (W : World) (h : Held W g (ALL.set 0 y)) => show W.cell? ⟨g, 0, none⟩ = some (.int .u8 (yn : Int)) by rw [← hyn]; exact (h 0 y hyz).1)
              have HJ0 := Lib.hid hj0
              rw [hyn] at hyl HBAD
              have q1 : IntKind.u8.wrap ((yn : Int) / 16) = (yn : Int) / 16 := by rw [IntKind.wrap_u8]; omega
              have q2 : IntKind.u8.wrap ((yn : Int) % 16) = (yn : Int) % 16 := by rw [IntKind.wrap_u8]; omega
              clear hyz hj0 hyn
              by_cases hv4 : yn / 16 = 4
              · have n2 : ((yn : Int) / 16 == 4) = true := by rw [beq_iff_eq]; omega
                by_cases hv5 : 5 < yn % 16
                · have n3 : (5 : Int) < (yn : Int) % 16 := by omega
                  have hcap16 : yn % 16 * 4 ≤ cg := by omega
                  have q3 : IntKind.i64.wrap ((yn : Int) % 16) = (yn : Int) % 16 := by rw [IntKind.wrap_i64]; omega
                  have q4 : IntKind.i64.wrap ((yn : Int) % 16 * 4) = (yn : Int) % 16 * 4 := by rw [IntKind.wrap_i64]; omega
                  by_cases hF0 : F = 0
                  · have n4 : ((F : Int) != 0) = false := by rw [hF0]; rfl
                    have hck := (HFZ.out hF0).2
                    rw [HIH.out] at hck
                    have HCK := Lib.hid hck
                    have HF0 := Lib.hid hF0
                    have hsl := run_upto8 (some ⟨g, 0, none⟩) 1000 cg (4 * (yn % 16)) ((yn : Int) % 16 * 4) (by omega) (by omega)
                    clear hck hF0
                    go_wp2_with ((with_reducible show wpList _ _ _ _ _ _); refine wpList_storeNew rfl _ _ rfl (by rfl) R HOKR.out (by rfl) ?_; intro w6 _ hb6 hz6; have HH6 := Lib.hid (HH5.out.below hgl5 hb6); have hgl6 : g < w6.heap.size := (by omega); have hc0 := HC0.out w6 HH6.out; have HB6 := Lib.hid (HB5.out.trans (hb6.mono HB5.out.size)); clear hb6)
                    refine (rsum_any (some ⟨g, 0, none⟩) (4 * (yn % 16)) cg ((ALL.set 0 y).take (4 * (yn % 16))) (by omega) w6 ((HH6.out.rd (B := w6.heap.size) hgl6 HZL.out).take (by omega)) (Nat.le_refl _)).mono ?_
                    rintro e w7 ⟨rfl, hb7⟩
                    rw [HCK.out]
                    have HB7 := Lib.hid (HB6.out.trans (hb7.mono HB6.out.size))
                    clear hb7
                    go_wp2_with fail
                    go_ret
                    exact ⟨rfl, HB7.out⟩
                  · have n4 : ((F : Int) != 0) = true := by simp; omega
                    go_wp2_with ((with_reducible show wpList _ _ _ _ _ _); refine wpList_storeNew rfl _ _ rfl (by rfl) R HOKR.out (by rfl) ?_; intro w6 _ hb6 hz6; have HH6 := Lib.hid (HH5.out.below hgl5 hb6); have hgl6 : g < w6.heap.size := (by omega); have hc0 := HC0.out w6 HH6.out; have HB6 := Lib.hid (HB5.out.trans (hb6.mono HB5.out.size)); clear hb6)
                    go_ret
                    exact ⟨rfl, HB6.out⟩
                · have n3 : ¬ (5 : Int) < (yn : Int) % 16 := by omega
                  have hF0 : F ≠ 0 := HBAD.out (fun h => hv5 h.2.2)
                  have n4 : ((F : Int) != 0) = true := by simp; omega
                  go_wp2_with ((with_reducible show wpList _ _ _ _ _ _); refine wpList_storeNew rfl _ _ rfl (by rfl) R HOKR.out (by rfl) ?_; intro w6 _ hb6 hz6; have HH6 := Lib.hid (HH5.out.below hgl5 hb6); have hgl6 : g < w6.heap.size := (by omega); have hc0 := HC0.out w6 HH6.out; have HB6 := Lib.hid (HB5.out.trans (hb6.mono HB5.out.size)); clear hb6)
                  go_ret
                  exact ⟨rfl, HB6.out⟩
              · have n2 : ((yn : Int) / 16 == 4) = false := by rw [beq_eq_false_iff_ne]; omega
                have hF0 : F ≠ 0 := HBAD.out (fun h => hv4 h.2.1)
                have n4 : ((F : Int) != 0) = true := by simp; omega
                go_wp2_with ((with_reducible show wpList _ _ _ _ _ _); refine wpList_storeNew rfl _ _ rfl (by rfl) R HOKR.out (by rfl) ?_; intro w6 _ hb6 hz6; have HH6 := Lib.hid (HH5.out.below hgl5 hb6); have hgl6 : g < w6.heap.size := (by omega); have hc0 := HC0.out w6 HH6.out; have HB6 := Lib.hid (HB5.out.trans (hb6.mono HB5.out.size)); clear hb6)
                go_ret
                exact ⟨rfl, HB6.out⟩
            · have n1 : ((j : Int) == 0) = false := beq_eq_false_iff_ne.2 (by omega)
              have hF0 : F ≠ 0 := HBAD.out (fun h => hj0 h.1)
              have n4 : ((F : Int) != 0) = true := by simp; omega
              go_wp2_with ((with_reducible show wpList _ _ _ _ _ _); refine wpList_storeNew rfl _ _ rfl (by rfl) R HOKR.out (by rfl) ?_; intro w6 _ hb6 hz6; have HH6 := Lib.hid (HH5.out.below hgl5 hb6); have hgl6 : g < w6.heap.size := (by omega); have HB6 := Lib.hid (HB5.out.trans (hb6.mono HB5.out.size)); clear hb6)
              go_ret
              exact ⟨rfl, HB6.out⟩

theorem fourSpoilt_walks : WalksTrue 6 Try.f6 := by
  intro H enc W base args ds p hval hA
  rw [Try.params6] at hA hval
  obtain ⟨v0, vs0, d0, ds0, p0, q0, hargs, rfl, rfl, h0, r0⟩ := trodAll_cons hA
  obtain ⟨v1, vs1, d1, ds1, p1, q1, rfl, rfl, rfl, h1, r1⟩ := trodAll_cons r0
  obtain ⟨v2, vs2, d2, ds2, p2, q2, rfl, rfl, rfl, h2, r2⟩ := trodAll_cons r1
  obtain ⟨rfl, rfl, rfl⟩ := trodAll_nil r2
  obtain rfl : args = #[v0, v1, v2] := by cases args; simp_all
  obtain ⟨L0, rfl, s0⟩ := open_four (hval 0 28 v0 rfl rfl) h0
  obtain ⟨a1, rfl, rfl, rfl, w1⟩ := open_int Try.underlying5 (hval 1 5 v1 rfl rfl) h1
  obtain ⟨g1a, g1b⟩ := range_u8 w1
  obtain ⟨n1, rfl⟩ := Int.eq_ofNat_of_zero_le g1a
  obtain ⟨a2, rfl, rfl, rfl, w2⟩ := open_int Try.underlying5 (hval 2 5 v2 rfl rfl) h2
  obtain ⟨g2a, g2b⟩ := range_u8 w2
  obtain ⟨n2, rfl⟩ := Int.eq_ofNat_of_zero_le g2a
  exact fourSpoilt_walk L0 s0 n1 (by omega) n2 (by omega) W

theorem fourSpoilt_said : Rows.FourSpoiltSaid :=
  OpenClaim.holds_of_wide 6 Try.f6 rfl rfl rfl rfl rfl rfl rfl ⟨rfl, rfl, rfl, rfl, rfl⟩ rfl rfl rfl rfl rfl (by kernel_rfl) Try.func6 (by kernel_rfl)
    (of_decide_eq_true (by kernel_rfl)) (by unfold Func.isWrapper; first | (rw [if_pos (by decide +kernel)]; kernel_rfl) | (rw [if_neg (by decide +kernel)]; exact ⟨rfl, rfl⟩))
    (fun os started H enc _ => law_lift (s := Rows.fourSpoiltSpec) Try.func6 (by kernel_rfl) rfl rfl (by intro H ds hd; match ds, hd with | [_, _, _], _ => exact ⟨rfl, rfl, rfl⟩) (by kernel_rfl) fourSpoilt_walks os started H enc
      (ChangeSpec.witness6 (enc := enc) (C := Try.checked) false ⟨#[], #[.agg #[.int .i64 0, .int .i64 0, .int .i64 0, .int .i64 0, .bool false, .bool false, .int .i64 0, .int .i64 0, .bool false, .int .u8 0, .int .u8 0, .int .u8 0, .int .u8 0, .int .u8 0, .int .u8 0, .int .u8 0, .int .u8 0, .int .u8 0, .int .u8 0, .int .u8 0, .int .u8 0, .int .u8 0, .int .u8 0, .int .u8 0, .int .u8 0, .bool false, .int .u8 0, .int .u8 0, .int .u8 0, .int .u8 0, .int .u8 0, .int .u8 0, .int .u8 0, .int .u8 0, .int .u8 0, .int .u8 0, .int .u8 0, .int .u8 0, .int .u8 0, .int .u8 0, .int .u8 0, .int .u8 0], .int .u8 0, .int .u8 0], []⟩ 8 (by kernel_rfl) (by kernel_rfl) (by kernel_rfl) (by kernel_rfl)))

end Go.Proofs.Ytkdliadigalgaaa
