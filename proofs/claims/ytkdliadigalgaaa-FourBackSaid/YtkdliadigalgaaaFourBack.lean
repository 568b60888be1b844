/-
  PROVED HERE: 'FourBackSaid': whatever header h, byte fill, bytes more and number at are, the Go function FourBack of package wayleavelaw08 returns true, and its arguments read behind the call as they read before. No condition.
-/
import Derived.Test.YtkdliadigalgaaaFOpen
namespace Go.Proofs.Ytkdliadigalgaaa
open Go.RowKit Go.Lib Go.ChangeShapes Go.WideShapes Go.ChangeAt

set_option maxRecDepth 100000 in
set_option maxHeartbeats 4000000 in
theorem fourBack_walk (f : Fr) (hok : f.Ok) (fl : Nat) (hfl : fl < 256) (M : Option Addr) (ml mc : Nat) (ms : List UInt8) (hmc : ml ≤ mc) (hmcm : mc ≤ maxLen) (q : Nat) (hq16 : q < 65536) (w : World) (hM : Rd w w.heap.size M ml ms) :
    Calls Try.prog 5 #[frC f, .int .u8 (fl : Int), .slice M ml mc, .int .u16 (q : Int)] w fun e w' => e = .returned (.bool true) ∧ Below w.heap.size w w' := by
  obtain ⟨x, hx⟩ : ∃ x : UInt8, (x.toNat : Int) = (fl : Int) := ⟨UInt8.ofNat fl, by rw [u8nat hfl]⟩
  rw [← hx]
  clear hx
  have hml : ml ≤ 9223372036854775807 := by unfold maxLen at hmcm; omega
  have hq := Blk.new w 28 (frL f)
  have hB := (Below.refl w.heap.size w).alloc (Nat.le_refl _) (.cells (frL f).toArray 28)
  have HOK := Lib.hid hok
  unfold frC
  obtain ⟨Z, hZ⟩ : ∃ Z, w.alloc (.cells (frL f).toArray 28) = Z := ⟨_, rfl⟩
  rw [hZ] at hq hB
  have HQ := Lib.hid hq
  have HB := Lib.hid hB
  have HZ := Lib.hid hZ
  have HTOT := Lib.hid (fun (W : World) (hW : Blk W 28 w.heap.size (frL f)) => hW.cell (i := 1) (v := .int .i64 f.total) rfl)
  obtain ⟨t, ht⟩ : ∃ t, f.total = t := ⟨_, rfl⟩
  rw [ht] at HTOT
  have HT := Lib.hid ht
  clear hq hB hZ hok ht
  go_enter Try.func5, Try.ntmps5
  go_wp2_with fail
  rw [HZ.out]
  refine (awake_any _).mono ?_
  rintro e w1 ⟨rfl, hb1⟩
  have HQ1 := Lib.hid (HQ.out.below HQ.out.lt hb1)
  have HB1 := Lib.hid (HB.out.trans (hb1.mono HB.out.size))
  have ct := HTOT.out w1 HQ1.out
  have HMW := Lib.hid (fun (W : World) (h : w1.heap.size ≤ W.heap.size) (hW : Below w.heap.size w W) => (hM.below hW).more (Nat.le_trans (Nat.le_trans HB.out.size hb1.size) h))
  clear hb1
  by_cases hle : 300 < ml
  · have hle' : (300 : Int) < (ml : Int) := by omega
    go_wp2_with fail
    refine (awake_any _).mono ?_
    rintro e w2 ⟨rfl, hb2⟩
    go_wp2_with fail
    go_ret
    exact ⟨rfl, HB1.out.trans (hb2.mono HB1.out.size)⟩
  · have hle' : ¬ (300 : Int) < (ml : Int) := by omega
    by_cases htl : 2000 < t
    · go_wp2_with fail
      refine (awake_any _).mono ?_
      rintro e w2 ⟨rfl, hb2⟩
      go_wp2_with fail
      go_ret
      exact ⟨rfl, HB1.out.trans (hb2.mono HB1.out.size)⟩
    · cases hr : rightB f with
      | false =>
        have HP := Lib.hid (fun W => fput_no HOK.out hr W)
        clear hr
        go_wp2_with ((with_reducible show wpList _ _ _ _ _ _); refine wpList_loadF rfl _ rfl w.heap.size (by rfl) f HOK.out HQ1.out ?_)
        refine (HP.out _).mono ?_
        rintro e w2 ⟨rfl, hb2⟩
        go_wp2_with fail
        go_ret
        exact ⟨rfl, HB1.out.trans (hb2.mono HB1.out.size)⟩
      | true =>
        have g := right_good hr
        obtain ⟨T, hT⟩ := Int.eq_ofNat_of_zero_le (show 0 ≤ t by have := g.t0; rw [HT.out] at this; omega)
        have hT20 : 20 ≤ T := by have := g.t0; rw [HT.out] at this; omega
        subst hT
        have HP := Lib.hid (fun W => fput_yes HOK.out hr W)
        have HRT := Lib.hid hr
        clear hr g
        go_wp2_with ((with_reducible show wpList _ _ _ _ _ _); refine wpList_loadF rfl _ rfl w.heap.size (by rfl) f HOK.out HQ1.out ?_)
        refine (HP.out _).mono ?_
        rintro e w2 ⟨A2, c2, rfl, hc2, hm2, ho2, hr2, hb2⟩
        have HQ2 := Lib.hid (HQ1.out.below HQ1.out.lt hb2)
        have HB2 := Lib.hid (HB1.out.trans (hb2.mono HB1.out.size))
        have hw12 := hb2.size
        have HLB := Lib.hid (show w.heap.size + 1 ≤ w1.heap.size from Nat.succ_le_of_lt HQ1.out.lt)
        have O0 := Lib.hid (empty8 (base := w2.heap.size) w2 (Nat.le_refl _))
        have HR2 := Lib.hid hr2
        clear hb2 hr2 ho2 ct
        go_wp2_with (at_builtin; refine wpList_append8 (o := ⟨some 41, _, _, _, _, _⟩) rfl _ _ rfl w2.heap.size _ [] (by rfl) O0.out _ _ _ _ (putF f) (by rfl) (HR2.out.alloc (Nat.le_refl _) _) (by decide) (by simp) ?_; intro v3 w3 ho3 hg3 _; rw [List.nil_append] at ho3)
        have e3 : Below w2.heap.size w2 w3 := ((Below.refl _ w2).alloc (Nat.le_refl _) (.cells #[] 5)).grown hg3 (by simp) (fun g hg => by simp [Value.ownBlock] at hg; omega)
        have HQ3 := Lib.hid (HQ2.out.below HQ2.out.lt e3)
        have HB3 := Lib.hid (HB2.out.trans (e3.mono HB2.out.size))
        have HO3 := Lib.hid (ho3.base_le (base' := w1.heap.size) hw12)
        clear hg3 e3 ho3
        go_wp2_with fail
        go_loopw [11] (fun vv wr => ∃ (k : Nat), 20 + k ≤ T ∧ Own8 wr w1.heap.size vv (putF f ++ List.replicate k x) ∧ Blk wr 28 w.heap.size (frL f) ∧ Below w.heap.size w wr) (fun vv _ => T - lenOf8 vv)
        case atStart => exact ⟨0, by omega, by rw [List.replicate_zero, List.append_nil]; exact HO3.out, HQ3.out, HB3.out⟩
        case round =>
          clear HO3 HQ3 HB3
          obtain ⟨k, hk, hown, hq, hB⟩ := hrel
          have hln : (putF f ++ List.replicate k x).length = 20 + k := by rw [List.length_append, List.length_replicate, putF_len HOK.out]
          obtain ⟨Av, cv, rfl, hcv, hmv, hrv⟩ := hown.form hln
          have hlr : w1.heap.size ≤ wr.heap.size := by
            obtain ⟨g, _, _, _, _, h1, h2, _⟩ := own_form hown hln (by omega)
            omega
          by_cases hlt : 20 + k < T
          · have hlt' : ((20 + k : Nat) : Int) < (T : Int) := by omega
            have ct := HTOT.out wr hq
            have htt : (putF f ++ List.replicate k x) ++ [x] = putF f ++ List.replicate (k + 1) x := by rw [List.append_assoc, ← List.replicate_succ']
            have HTT := Lib.hid htt
            have HQr := Lib.hid hq
            have HBr := Lib.hid hB
            have HLN := Lib.hid hln
            clear htt hq hB hrv
            rw [Int.natCast_add] at hlt'
            go_wp2_with (at_builtin; refine wpList_append8 rfl _ _ rfl w1.heap.size _ (putF f ++ List.replicate k x) (by rfl) (hown.alloc _) _ _ _ _ [x] (by rfl) (Rd.one wr x) (by rw [HLN.out]; omega) (by simp; omega) ?_; intro v' wz hown' hgrow _)
            have hb1' := (HBr.out.alloc HBr.out.size (.cells #[.int .u8 (x.toNat : Int)] 5)).grown hgrow (by have := HBr.out.size; simp; omega) (fun g hg => by have := hown.lt g hg; have := HLB.out; omega)
            have hq1' := (HQr.out.alloc (.cells #[.int .u8 (x.toNat : Int)] 5)).grown hgrow (fun e => by have := hown.lt _ e; have := HLB.out; omega)
            rw [HTT.out] at hown'
            go_wp2_with fail
            go_roundw
            case rel => exact ⟨k + 1, by omega, hown', hq1', hb1'⟩
            case measure =>
              obtain ⟨Ax, cx, rfl, _, _, _⟩ := hown'.form (n := 20 + k + 1) (by rw [List.length_append, List.length_replicate, putF_len HOK.out]; omega)
              simp [lenOf8]; omega
          · have hlt' : ¬ ((20 + k : Nat) : Int) < (T : Int) := by omega
            have ct := HTOT.out wr hq
            have hkT : 20 + k = T := by omega
            rw [hkT]
            have hfl2 : (putF f ++ List.replicate k x) ++ ms = putF f ++ (List.replicate k x ++ ms) := List.append_assoc _ _ _
            have hback := putF_back HOK.out HRT.out (List.replicate k x ++ ms) (by rw [HT.out, List.length_append, List.length_append, List.length_replicate, putF_len HOK.out]; omega)
            have hcut := putF_cut HOK.out HRT.out (List.replicate k x) (q % T) (by rw [HT.out]; have := Nat.mod_lt q (show 0 < T by omega); omega) (by rw [hln]; have := Nat.mod_lt q (show 0 < T by omega); omega)
            rw [← hfl2] at hback
            obtain ⟨ALL, hALL⟩ : ∃ ALL, putF f ++ List.replicate k x = ALL := ⟨_, rfl⟩
            rw [hALL] at hback hcut hrv hln hown
            rw [hkT] at hrv hln hcv hown hlt'
            have HRV := Lib.hid hrv
            have HLN := Lib.hid hln
            have HBK := Lib.hid hback
            have HCUT := Lib.hid hcut
            have HQw := Lib.hid hq
            have HBw := Lib.hid hB
            have O1 := Lib.hid (empty8 (base := wr.heap.size) wr (Nat.le_refl _))
            have hT2 : T ≤ 2000 := by omega
            have hqT := Nat.mod_lt q (show 0 < T by omega)
            have m1 : (q : Int).tmod (T : Int) = ((q % T : Nat) : Int) := by rw [Int.tmod_eq_emod_of_nonneg (by omega)]; rfl
            have m2 : ((T : Int) == 0) = false := beq_eq_false_iff_ne.2 (by omega)
            have m3 : ¬ (T : Int) = 0 := by omega
            have m4 : IntKind.i64.wrap (q : Int) = (q : Int) := by rw [IntKind.wrap_i64]; omega
            have m5 : IntKind.i64.wrap ((q % T : Nat) : Int) = ((q % T : Nat) : Int) := by rw [IntKind.wrap_i64]; omega
            have hsl := run_upto8 Av T cv (q % T) ((q % T : Nat) : Int) rfl (by omega)
            have hMr : Rd wr wr.heap.size M ml ms := HMW.out wr hlr hB
            have HMR := Lib.hid hMr
            clear hALL hfl2 hback hcut hrv hln hq hB hMr hlt hkT hk
            go_wp2_with (first
              | (at_builtin; refine wpList_append8 (o := ⟨some 54, _, _, _, _, _⟩) rfl _ _ rfl wr.heap.size _ [] (by rfl) O1.out _ _ _ _ ALL (by rfl) (HRV.out.alloc (Nat.le_refl _) _) (by simp; omega) (by simp) ?_; intro v4 w4 ho4 hg4 hob4; rw [List.nil_append] at ho4; have z4 := hg4.size; have hM4 : Rd w4 wr.heap.size M ml ms := (((HMR.out.alloc (Nat.le_refl _) (.cells #[] 5)).grown hg4 (by simp) (fun g hg => by simp [Value.ownBlock] at hg; omega))))
              | (at_builtin; refine wpList_append8 (o := ⟨some 56, _, _, _, _, _⟩) rfl _ _ rfl wr.heap.size _ ALL (by rfl) ho4 _ _ _ _ ms (by rfl) hM4 (by rw [HLN.out]; omega) (by simp at z4; omega) ?_; intro v5 w5 ho5 hg5 hob5; obtain ⟨A5, c5, rfl, hc5, hm5, hr5⟩ := ho5.form (n := T + ml) (by rw [List.length_append, HLN.out, hM4.len])))
            have e5 : Below wr.heap.size wr w5 := (((Below.refl _ wr).alloc (Nat.le_refl _) (.cells #[] 5)).grown hg4 (by simp) (fun g hg => by simp [Value.ownBlock] at hg; omega)).grown hg5 (by simp at z4; omega) (fun g hg => ho4.lt g hg)
            have HQ5 := Lib.hid (HQw.out.below HQw.out.lt e5)
            have HB5 := Lib.hid (HBw.out.trans (e5.mono HBw.out.size))
            have HRV5 := Lib.hid ((HRV.out.below e5).more e5.size)
            have HR5 := Lib.hid hr5
            clear e5 hg4 hob4 ho4 z4 hM4 hg5 hob5 ho5 hr5
            refine (read_as HBK.out.2 HBK.out.1 (by omega) hc5 hm5 HR5.out).mono ?_
            rintro e w6 ⟨rfl, hb6⟩
            have HQ6 := Lib.hid (HQ5.out.below HQ5.out.lt hb6)
            have HB6 := Lib.hid (HB5.out.trans (hb6.mono HB5.out.size))
            have HRV6 := Lib.hid ((HRV5.out.below hb6).more hb6.size)
            clear hb6 HR5
            go_wp2_with ((with_reducible show wpList _ _ _ _ _ _); refine wpList_storeNew rfl _ _ rfl (by rfl) f HOK.out (by rfl) ?_; intro w7 hM7 hb7 hz7; have HM7 := Lib.hid hM7; have HQ7 := Lib.hid (HQ6.out.below HQ6.out.lt hb7); have HB7 := Lib.hid (HB6.out.trans (hb7.mono HB6.out.size)); have HRV7 := Lib.hid ((HRV6.out.below hb7).more hb7.size); clear hM7 hb7)
            refine (read_as (rdF_no (by rw [HCUT.out]; decide)) HCUT.out (by omega) (by omega) hmv (HRV7.out.take (k := q % T) (by omega))).mono ?_
            rintro e w8 ⟨rfl, hb8⟩
            have HM8 := Lib.hid (HM7.out.below HM7.out.lt hb8)
            have HQ8 := Lib.hid (HQ7.out.below HQ7.out.lt hb8)
            have HB8 := Lib.hid (HB7.out.trans (hb8.mono HB7.out.size))
            clear hb8
            go_wp2_with (first
              | ((with_reducible show wpList _ _ _ _ _ _); refine wpList_storeNew rfl _ _ rfl (by rfl) Fr.zero Fr.ok_zero (by rfl) ?_; intro w9 _ hb9 hz9; have HM9 := Lib.hid (HM8.out.below HM8.out.lt hb9); have HQ9 := Lib.hid (HQ8.out.below HQ8.out.lt hb9); have HB9 := Lib.hid (HB8.out.trans (hb9.mono HB8.out.size)); clear hb9)
              | ((with_reducible show wpList _ _ _ _ _ _); refine wpList_loadFw (.tmp 12) rfl (by rfl) w6.heap.size (by rfl) f HOK.out HM9.out ?_)
              | ((with_reducible show wpList _ _ _ _ _ _); refine wpList_loadFw (.tmp 4) rfl (by rfl) w.heap.size (by rfl) f HOK.out HQ9.out ?_)
              | ((with_reducible show wpList _ _ _ _ _ _); refine wpList_eqlw 28 _ _ _ rfl (by rfl) (frL f).toArray (frL f).toArray (by rfl) (by rfl) guard_fr true (fun W => run_eql_fr W HOK.out) ?_))
            go_ret
            exact ⟨rfl, HB9.out⟩

theorem fourBack_walks : WalksTrue 5 Try.f5 := by
  intro H enc W base args ds p hval hA
  rw [Try.params5] at hA hval
  obtain ⟨v0, vs0, d0, ds0, p0, q0, hargs, rfl, rfl, h0, r0⟩ := trodAll_cons hA
  obtain ⟨v1, vs1, d1, ds1, p1, q1, rfl, rfl, rfl, h1, r1⟩ := trodAll_cons r0
  obtain ⟨v2, vs2, d2, ds2, p2, q2, rfl, rfl, rfl, h2, r2⟩ := trodAll_cons r1
  obtain ⟨v3, vs3, d3, ds3, p3, q3, rfl, rfl, rfl, h3, r3⟩ := trodAll_cons r2
  obtain ⟨rfl, rfl, rfl⟩ := trodAll_nil r3
  obtain rfl : args = #[v0, v1, v2, v3] := by cases args; simp_all
  obtain ⟨L0, rfl, s0⟩ := open_four (hval 0 28 v0 rfl rfl) h0
  obtain ⟨a1, rfl, rfl, rfl, w1⟩ := open_int Try.underlying5 (hval 1 5 v1 rfl rfl) h1
  obtain ⟨g1a, g1b⟩ := range_u8 w1
  obtain ⟨n1, rfl⟩ := Int.eq_ofNat_of_zero_le g1a
  obtain ⟨A2, len2, cap2, xs2, rfl, hc2, hm2, hI2⟩ := open_bytes (hval 2 22 v2 rfl rfl) h2
  obtain ⟨a3, rfl, rfl, rfl, w3⟩ := open_int Try.underlying40 (hval 3 40 v3 rfl rfl) h3
  obtain ⟨g3a, g3b⟩ := range_u16 w3
  obtain ⟨n3, rfl⟩ := Int.eq_ofNat_of_zero_le g3a
  exact fourBack_walk L0 s0 n1 (by omega) A2 len2 cap2 xs2 hc2 hm2 n3 (by omega) W hI2

theorem fourBack_said : Rows.FourBackSaid :=
  OpenClaim.holds_of_wide 5 Try.f5 rfl rfl rfl rfl rfl rfl rfl ⟨rfl, rfl, rfl, rfl, rfl⟩ rfl rfl rfl rfl rfl (by kernel_rfl) Try.func5 (by kernel_rfl)
    (of_decide_eq_true (by kernel_rfl)) (by unfold Func.isWrapper; first | (rw [if_pos (by decide +kernel)]; kernel_rfl) | (rw [if_neg (by decide +kernel)]; exact ⟨rfl, rfl⟩))
    (fun os started H enc _ => law_lift (s := Rows.fourBackSpec) Try.func5 (by kernel_rfl) rfl rfl (by intro H ds hd; match ds, hd with | [_, _, _, _], _ => exact ⟨rfl, rfl, rfl⟩) (by kernel_rfl) fourBack_walks os started H enc
      (ChangeSpec.witness6 (enc := enc) (C := Try.checked) false ⟨#[], #[.agg #[.int .i64 0, .int .i64 0, .int .i64 0, .int .i64 0, .bool false, .bool false, .int .i64 0, .int .i64 0, .bool false, .int .u8 0, .int .u8 0, .int .u8 0, .int .u8 0, .int .u8 0, .int .u8 0, .int .u8 0, .int .u8 0, .int .u8 0, .int .u8 0, .int .u8 0, .int .u8 0, .int .u8 0, .int .u8 0, .int .u8 0, .int .u8 0, .bool false, .int .u8 0, .int .u8 0, .int .u8 0, .int .u8 0, .int .u8 0, .int .u8 0, .int .u8 0, .int .u8 0, .int .u8 0, .int .u8 0, .int .u8 0, .int .u8 0, .int .u8 0, .int .u8 0, .int .u8 0, .int .u8 0], .int .u8 0, .slice none 0 0, .int .u16 0], []⟩ 8 (by kernel_rfl) (by kernel_rfl) (by kernel_rfl) (by kernel_rfl)))

end Go.Proofs.Ytkdliadigalgaaa
