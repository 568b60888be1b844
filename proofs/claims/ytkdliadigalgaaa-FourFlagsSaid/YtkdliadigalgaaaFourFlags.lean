/-
  PROVED HERE: 'FourFlagsSaid': whatever header h and bits are, the Go function FourFlags of package wayleavelaw08 returns true, and its arguments read behind the call as they read before. No condition.
-/
import Derived.Test.YtkdliadigalgaaaFOpen
namespace Go.Proofs.Ytkdliadigalgaaa
open Go.RowKit Go.Lib Go.ChangeShapes Go.WideShapes Go.ChangeAt

set_option maxRecDepth 100000 in
set_option maxHeartbeats 4000000 in
theorem fourFlags_walk (f : Fr) (hok : f.Ok) (B : Nat) (hB16 : B < 65536) (w : World) :
    Calls Try.prog 7 #[frC f, .int .u16 (B : Int)] w fun e w' => e = .returned (.bool true) ∧ Below w.heap.size w w' := by
  have hq := Blk.new w 28 (frL f)
  have hB := (Below.refl w.heap.size w).alloc (Nat.le_refl _) (.cells (frL f).toArray 28)
  have HOK := Lib.hid hok
  unfold frC
  obtain ⟨Z, hZ⟩ : ∃ Z, w.alloc (.cells (frL f).toArray 28) = Z := ⟨_, rfl⟩
  rw [hZ] at hq hB
  have HQ := Lib.hid hq
  have HB := Lib.hid hB
  have HZ := Lib.hid hZ
  have HTOT := Lib.hid (fun (W : World) (hW : Blk W 28 w.heap.size (frL f)) => hW.cell (i := 1) (v := .int .i64 f.total) rfl)
  obtain ⟨t, ht⟩ : ∃ t, f.total = t := ⟨_, rfl⟩
  rw [ht] at HTOT
  have HT := Lib.hid ht
  clear hq hB hZ hok ht
  go_enter Try.func7, Try.ntmps7
  go_wp2_with fail
  rw [HZ.out]
  refine (awake_any _).mono ?_
  rintro e w1 ⟨rfl, hb1⟩
  have HQ1 := Lib.hid (HQ.out.below HQ.out.lt hb1)
  have HB1 := Lib.hid (HB.out.trans (hb1.mono HB.out.size))
  have ct := HTOT.out w1 HQ1.out
  clear hb1
  by_cases htl : 1000 < t
  · go_wp2_with fail
    refine (awake_any _).mono ?_
    rintro e w2 ⟨rfl, hb2⟩
    go_wp2_with fail
    go_ret
    exact ⟨rfl, HB1.out.trans (hb2.mono HB1.out.size)⟩
  · cases hr : rightB f with
    | false =>
      have HP := Lib.hid (fun W => fput_no HOK.out hr W)
      clear hr
      go_wp2_with ((with_reducible show wpList _ _ _ _ _ _); refine wpList_loadF rfl _ rfl w.heap.size (by rfl) f HOK.out HQ1.out ?_)
      refine (HP.out _).mono ?_
      rintro e w2 ⟨rfl, hb2⟩
      go_wp2_with fail
      go_ret
      exact ⟨rfl, HB1.out.trans (hb2.mono HB1.out.size)⟩
    | true =>
      have g := right_good hr
      obtain ⟨T, hT⟩ := Int.eq_ofNat_of_zero_le (show 0 ≤ t by have := g.t0; rw [HT.out] at this; omega)
      have hT20 : 20 ≤ T := by have := g.t0; rw [HT.out] at this; omega
      subst hT
      have HP := Lib.hid (fun W => fput_yes HOK.out hr W)
      have HRT := Lib.hid hr
      clear hr g
      go_wp2_with ((with_reducible show wpList _ _ _ _ _ _); refine wpList_loadF rfl _ rfl w.heap.size (by rfl) f HOK.out HQ1.out ?_)
      refine (HP.out _).mono ?_
      rintro e w2 ⟨A2, c2, rfl, hc2, hm2, ho2, hr2, hb2⟩
      have HQ2 := Lib.hid (HQ1.out.below HQ1.out.lt hb2)
      have HB2 := Lib.hid (HB1.out.trans (hb2.mono HB1.out.size))
      have hw12 := hb2.size
      have HLB := Lib.hid (show w.heap.size + 1 ≤ w1.heap.size from Nat.succ_le_of_lt HQ1.out.lt)
      have HQ3 := HQ2
      have HB3 := HB2
      have HO3 := Lib.hid ho2
      clear hb2 hr2 ho2 ct
      go_wp2_with fail
      go_loopw [5] (fun vv wr => ∃ (k : Nat), 20 + k ≤ T ∧ Own8 wr w1.heap.size vv (putF f ++ List.replicate k 0) ∧ Blk wr 28 w.heap.size (frL f) ∧ Below w.heap.size w wr) (fun vv _ => T - lenOf8 vv)
      case atStart => exact ⟨0, by omega, by rw [List.replicate_zero, List.append_nil]; exact HO3.out, HQ3.out, HB3.out⟩
      case round =>
        clear HO3 HQ3 HB3
        obtain ⟨k, hk, hown, hq, hB⟩ := hrel
        have hln : (putF f ++ List.replicate k 0).length = 20 + k := by rw [List.length_append, List.length_replicate, putF_len HOK.out]
        obtain ⟨Av, cv, rfl, hcv, hmv, hrv⟩ := hown.form hln
        have hlr : w1.heap.size ≤ wr.heap.size := by
          obtain ⟨g, _, _, _, _, h1, h2, _⟩ := own_form hown hln (by omega)
          omega
        by_cases hlt : 20 + k < T
        · have hlt' : ((20 + k : Nat) : Int) < (T : Int) := by omega
          have ct := HTOT.out wr hq
          have htt : (putF f ++ List.replicate k 0) ++ [0] = putF f ++ List.replicate (k + 1) 0 := by rw [List.append_assoc, ← List.replicate_succ']
          have HTT := Lib.hid htt
          have HQr := Lib.hid hq
          have HBr := Lib.hid hB
          have HLN := Lib.hid hln
          clear htt hq hB hrv
          rw [Int.natCast_add] at hlt'
          go_wp2_with (at_builtin; refine wpList_append8 rfl _ _ rfl w1.heap.size _ (putF f ++ List.replicate k 0) (by rfl) (hown.alloc _) _ _ _ _ [0] (by rfl) (show Rd (wr.alloc (.cells #[.int .u8 0] 5)) (wr.heap.size + 1) (some ⟨wr.heap.size, 0, none⟩) 1 [0] from Rd.one wr 0) (by rw [HLN.out]; omega) (by simp; omega) ?_; intro v' wz hown' hgrow _)
          have hb1' := (HBr.out.alloc HBr.out.size (.cells #[.int .u8 0] 5)).grown hgrow (by have := HBr.out.size; simp; omega) (fun g hg => by have := hown.lt g hg; have := HLB.out; omega)
          have hq1' := (HQr.out.alloc (.cells #[.int .u8 0] 5)).grown hgrow (fun e => by have := hown.lt _ e; have := HLB.out; omega)
          rw [HTT.out] at hown'
          go_wp2_with fail
          go_roundw
          case rel => exact ⟨k + 1, by omega, hown', hq1', hb1'⟩
          case measure =>
            obtain ⟨Ax, cx, rfl, _, _, _⟩ := hown'.form (n := 20 + k + 1) (by rw [List.length_append, List.length_replicate, putF_len HOK.out]; omega)
            simp [lenOf8]; omega
        · have hlt' : ¬ ((20 + k : Nat) : Int) < (T : Int) := by omega
          have ct := HTOT.out wr hq
          have hkT : 20 + k = T := by omega
          rw [hkT]
          obtain ⟨T', O, I, L, P, s, d, hf, s4, d4, _, _, _, _, _, hput⟩ := put_hdr HOK.out HRT.out
          have hback := put_back HOK.out HRT.out hB16 (List.replicate k 0) (by rw [HT.out, List.length_append, List.length_replicate, putW_len HOK.out]; omega)
          rw [hput] at hback
          have e1 : putF f = hdr O T' I (flagW f) L P (ckOf (hdr O T' I (flagW f) L P 0 s d)) s d := hput _
          rw [e1] at hown hrv hln
          obtain ⟨c0, hc0⟩ : ∃ c0, ckOf (hdr O T' I (flagW f) L P 0 s d) = c0 := ⟨_, rfl⟩
          rw [hc0] at hown hrv hln
          obtain ⟨W0, hW0⟩ : ∃ W0, flagW f = W0 := ⟨_, rfl⟩
          rw [hW0] at hown hrv hln
          obtain ⟨rest, hrest⟩ : ∃ rest : List UInt8, List.replicate k 0 = rest := ⟨_, rfl⟩
          rw [hrest] at hown hrv hln hback
          rw [hkT] at hrv hln hcv hown hlt'
          obtain ⟨g, cg, hv, hcg, _, hbg, hgl, hheld⟩ := own_form hown hln (by omega)
          obtain ⟨rfl, rfl⟩ : Av = some ⟨g, 0, none⟩ ∧ cg = cv := by cases hv; exact ⟨rfl, rfl⟩
          clear hv
          have hl0 : ∀ W c, (hdr O T' I W L P c s d ++ rest).length = T := fun W c => by
            rw [List.length_append, hdr_len _ _ _ _ _ _ _ _ _ s4 d4] at hln ⊢
            exact hln
          have hck := ckOf_le (hdr O T' I B L P 0 s d)
          obtain ⟨c, hc⟩ : ∃ c, ckOf (hdr O T' I B L P 0 s d) = c := ⟨_, rfl⟩
          rw [hc] at hback hck
          have htake : (hdr O T' I B L P 0 s d ++ rest).take 20 = hdr O T' I B L P 0 s d := by
            rw [List.take_append_of_le_length (by rw [hdr_len _ _ _ _ _ _ _ _ _ s4 d4]; exact Nat.le_refl _), List.take_of_length_le (by rw [hdr_len _ _ _ _ _ _ _ _ _ s4 d4]; exact Nat.le_refl _)]
          have HL := Lib.hid hl0
          have HH := Lib.hid hheld
          have HTK := Lib.hid htake
          have HCK := Lib.hid hc
          have HBK := Lib.hid hback
          have HQw := Lib.hid hq
          have HBw := Lib.hid hB
          have HGP := Lib.hid (show w.heap.size < g by have := HLB.out; omega)
          have hT1 : T ≤ 1000 := by omega
          have HU1 := Lib.hid (show (B : Int) / 256 = ((UInt8.ofNat (B / 256)).toNat : Int) by rw [u8nat (by omega)]; omega)
          have HU2 := Lib.hid (show (B : Int) % 256 = ((UInt8.ofNat (B % 256)).toNat : Int) by rw [u8nat (by omega)]; omega)
          have HU0 := Lib.hid (show (0 : Int) = ((0 : UInt8).toNat : Int) from rfl)
          have HU3 := Lib.hid (show (c : Int) / 256 = ((UInt8.ofNat (c / 256)).toNat : Int) by rw [u8nat (by omega)]; omega)
          have HU4 := Lib.hid (show (c : Int) % 256 = ((UInt8.ofNat (c % 256)).toNat : Int) by rw [u8nat (by omega)]; omega)
          have r1 : IntKind.u8.wrap ((B : Int) / 256) = (B : Int) / 256 := by rw [IntKind.wrap_u8]; omega
          have r2 : IntKind.u8.wrap (B : Int) = (B : Int) % 256 := by rw [IntKind.wrap_u8]
          have r3 : IntKind.u8.wrap ((c : Int) / 256) = (c : Int) / 256 := by rw [IntKind.wrap_u8]; omega
          have r4 : IntKind.u8.wrap ((c : Int) % 256) = (c : Int) % 256 := by rw [IntKind.wrap_u8]; omega
          have r5 : IntKind.u16.wrap ((B : Int) / 256) = (B : Int) / 256 := by rw [IntKind.wrap_u16]; omega
          have l6 : (6 : Int) < (T : Int) := by omega
          have l7 : (7 : Int) < (T : Int) := by omega
          have l10 : (10 : Int) < (T : Int) := by omega
          have l11 : (11 : Int) < (T : Int) := by omega
          have hsl := run_upto8 (some ⟨g, 0, none⟩) T cg 20 20 rfl (by omega)
          clear e1 hc0 hW0 hrest hown hrv hq hB hheld hback htake hc hl0 hln hput hf s4 d4 hkT hk
          go_wp2_with (first
            | ((with_reducible show wpList _ _ _ _ _ _); refine wpList_storeH rfl (.tmp 40) (.tmp 39) rfl g 6 (by rfl) (UInt8.ofNat (B / 256)) ((B : Int) / 256) HU1.out (by rfl) _ HH.out (by rw [HL.out]; omega) ?_; intro w4 hH4 hB4; have HH4 := Lib.hid hH4; have HE4 := Lib.hid hB4; clear hH4 hB4)
            | ((with_reducible show wpList _ _ _ _ _ _); refine wpList_storeH rfl (.tmp 44) (.tmp 43) rfl g 7 (by rfl) (UInt8.ofNat (B % 256)) ((B : Int) % 256) HU2.out (by rfl) _ HH4.out (by rw [List.length_set, HL.out]; omega) ?_; intro w5 hH5 hB5; have hH5' : Held w5 g (hdr O T' I B L P c0 s d ++ rest) := hH5; have HH5 := Lib.hid hH5'; have HE5 := Lib.hid (HE4.out.trans hB5); clear hH5 hB5 hH5' HH4 HE4)
            | ((with_reducible show wpList _ _ _ _ _ _); refine wpList_storeH rfl (.tmp 46) _ rfl g 10 (by rfl) (0 : UInt8) 0 HU0.out (by rfl) _ HH5.out (by rw [HL.out]; omega) ?_; intro w6 hH6 hB6; have HH6 := Lib.hid hH6; have HE6 := Lib.hid (HE5.out.trans hB6); clear hH6 hB6 HE5)
            | ((with_reducible show wpList _ _ _ _ _ _); refine wpList_storeH rfl (.tmp 48) _ rfl g 11 (by rfl) (0 : UInt8) 0 HU0.out (by rfl) _ HH6.out (by rw [List.length_set, HL.out]; omega) ?_; intro w7 hH7 hB7; have hH7' : Held w7 g (hdr O T' I B L P 0 s d ++ rest) := hH7; have HH7 := Lib.hid hH7'; have HE7 := Lib.hid (HE6.out.trans hB7); clear hH7 hB7 hH7' HH6 HE6))
          have HQ7 := Lib.hid (HQw.out.below HGP.out HE7.out)
          have HB7 := Lib.hid (HBw.out.trans (HE7.out.mono (Nat.le_of_lt HGP.out)))
          have hg7 : g < w7.heap.size := HH7.out.lt (by rw [HL.out]; omega)
          have hr7 : Rd w7 w7.heap.size (some ⟨g, 0, none⟩) 20 (hdr O T' I B L P 0 s d) := by have := (HH7.out.rd hg7 (HL.out _ _)).take (k := 20) (by omega); rwa [HTK.out] at this
          refine (rsum_any (some ⟨g, 0, none⟩) 20 cg _ (by omega) w7 hr7 (Nat.le_refl _)).mono ?_
          rw [HCK.out]
          rintro e w8 ⟨rfl, hb8⟩
          have HH8 := Lib.hid (HH7.out.below hg7 hb8)
          have HQ8 := Lib.hid (HQ7.out.below HQ7.out.lt hb8)
          have HB8 := Lib.hid (HB7.out.trans (hb8.mono HB7.out.size))
          clear hb8 hr7 HE7
          go_wp2_with (first
            | ((with_reducible show wpList _ _ _ _ _ _); refine wpList_storeH rfl (.tmp 56) (.tmp 55) rfl g 10 (by rfl) (UInt8.ofNat (c / 256)) ((c : Int) / 256) HU3.out (by rfl) _ HH8.out (by rw [HL.out]; omega) ?_; intro w9 hH9 hB9; have HH9 := Lib.hid hH9; have HE9 := Lib.hid hB9; clear hH9 hB9)
            | ((with_reducible show wpList _ _ _ _ _ _); refine wpList_storeH rfl (.tmp 61) (.tmp 60) rfl g 11 (by rfl) (UInt8.ofNat (c % 256)) ((c : Int) % 256) HU4.out (by rfl) _ HH9.out (by rw [List.length_set, HL.out]; omega) ?_; intro wa hHa hBa; have hHa' : Held wa g (hdr O T' I B L P c s d ++ rest) := hHa; have HHa := Lib.hid hHa'; have HEa := Lib.hid (HE9.out.trans hBa); clear hHa hBa hHa' HH9 HE9))
          have HQa := Lib.hid (HQ8.out.below HGP.out HEa.out)
          have HBa := Lib.hid (HB8.out.trans (HEa.out.mono (Nat.le_of_lt HGP.out)))
          have hga : g < wa.heap.size := HHa.out.lt (by rw [HL.out]; omega)
          have q1 : bits .and .u16 (B : Int) 16383 = ((B &&& 16383 : Nat) : Int) := u16_and_nat B 16383 hB16 (by omega)
          have q2 : bits .and .u16 (B : Int) 16384 = ((B &&& 16384 : Nat) : Int) := u16_and_nat B 16384 hB16 (by omega)
          have q3 := mask_frag B
          have q4 := mask_keep B
          obtain ⟨fr, hfr⟩ : ∃ fr, decide (B % 16384 ≠ 0) = fr := ⟨_, rfl⟩
          obtain ⟨ke, hke⟩ : ∃ ke, decide (B / 16384 % 2 ≠ 0) = ke := ⟨_, rfl⟩
          rw [hfr, hke] at HBK
          rw [hfr] at q3
          rw [hke] at q4
          have hok2 : Fr.Ok { f with frag := fr, keep := ke } := ⟨HOK.out.s, HOK.out.d⟩
          have hfs : ({ f with frag := fr, keep := ke } : Fr).s = f.s := rfl
          have HF2 := Lib.hid (fun (W : World) (b : Nat) (hW : Blk W 28 b (frL { f with frag := fr, keep := ke })) => show W.cell? ⟨b, 4, none⟩ = some (.bool fr) ∧ W.cell? ⟨b, 5, none⟩ = some (.bool ke) ∧ W.cell? ⟨b, 1, none⟩ = some (.int .i64 (T : Int)) ∧ W.rangeAt b 8 (adL f.s) from
            ⟨hW.cell (i := 4) rfl, hW.cell (i := 5) rfl, by rw [← HT.out]; exact hW.cell (i := 1) rfl, hW.src⟩)
          have HSA := Lib.hid (fun (W : World) (hW : Blk W 28 w.heap.size (frL f)) => hW.src)
          obtain ⟨f2, hf2⟩ : ∃ f2 : Fr, { f with frag := fr, keep := ke } = f2 := ⟨_, rfl⟩
          rw [hf2] at HBK hok2 HF2
          have HOK2 := Lib.hid hok2
          have b1 : (fr == fr) = true := by simp
          have b2 : (ke == ke) = true := by simp
          have b3 : ((T : Int) == (T : Int)) = true := by simp
          clear hfr hke hf2 hok2 hfs
          refine (read_as HBK.out.2 HBK.out.1 (by omega) (by assumption) (by assumption) (HHa.out.rd hga (HL.out _ _))).mono ?_
          rintro e wb ⟨rfl, hbb⟩
          have HQb := Lib.hid (HQa.out.below HQa.out.lt hbb)
          have HBb := Lib.hid (HBa.out.trans (hbb.mono HBa.out.size))
          clear hbb
          go_wp2_with (first
            | ((with_reducible show wpList _ _ _ _ _ _); refine wpList_storeNew rfl _ _ rfl (by rfl) f2 HOK2.out (by rfl) ?_; intro wc hMc hbc hzc; obtain ⟨d4, d5, d1, d8⟩ := HF2.out wc _ hMc; have HQc := Lib.hid (HQb.out.below HQb.out.lt hbc); have HBc := Lib.hid (HBb.out.trans (hbc.mono HBb.out.size)); have ct := HTOT.out wc HQc.out; have HD8 := Lib.hid d8; clear hMc hbc d8)
            | ((with_reducible show wpList _ _ _ _ _ _); refine wpList_loadAw (.tmp 93) rfl (by rfl) wb.heap.size 8 (by rfl) f.s HOK.out.s HD8.out ?_)
            | ((with_reducible show wpList _ _ _ _ _ _); refine wpList_loadAw (.tmp 95) rfl (by rfl) w.heap.size 8 (by rfl) f.s HOK.out.s (HSA.out wc HQc.out) ?_)
            | ((with_reducible show wpList _ _ _ _ _ _); refine wpList_eqlw 26 _ _ _ rfl (by rfl) (adL f.s).toArray (adL f.s).toArray (by rfl) (by rfl) guard_ad true (fun W => adB_refl f.s ▸ run_eql_ad W HOK.out.s HOK.out.s) ?_))
          go_ret
          exact ⟨rfl, HBc.out⟩

theorem fourFlags_walks : WalksTrue 7 Try.f7 := by
  intro H enc W base args ds p hval hA
  rw [Try.params7] at hA hval
  obtain ⟨v0, vs0, d0, ds0, p0, q0, hargs, rfl, rfl, h0, r0⟩ := trodAll_cons hA
  obtain ⟨v1, vs1, d1, ds1, p1, q1, rfl, rfl, rfl, h1, r1⟩ := trodAll_cons r0
  obtain ⟨rfl, rfl, rfl⟩ := trodAll_nil r1
  obtain rfl : args = #[v0, v1] := by cases args; simp_all
  obtain ⟨L0, rfl, s0⟩ := open_four (hval 0 28 v0 rfl rfl) h0
  obtain ⟨a1, rfl, rfl, rfl, w1⟩ := open_int Try.underlying40 (hval 1 40 v1 rfl rfl) h1
  obtain ⟨g1a, g1b⟩ := range_u16 w1
  obtain ⟨n1, rfl⟩ := Int.eq_ofNat_of_zero_le g1a
  exact fourFlags_walk L0 s0 n1 (by omega) W

theorem fourFlags_said : Rows.FourFlagsSaid :=
  OpenClaim.holds_of_wide 7 Try.f7 rfl rfl rfl rfl rfl rfl rfl ⟨rfl, rfl, rfl, rfl, rfl⟩ rfl rfl rfl rfl rfl (by kernel_rfl) Try.func7 (by kernel_rfl)
    (of_decide_eq_true (by kernel_rfl)) (by unfold Func.isWrapper; first | (rw [if_pos (by decide +kernel)]; kernel_rfl) | (rw [if_neg (by decide +kernel)]; exact ⟨rfl, rfl⟩))
    (fun os started H enc _ => law_lift (s := Rows.fourFlagsSpec) Try.func7 (by kernel_rfl) rfl rfl (by intro H ds hd; match ds, hd with | [_, _], _ => exact ⟨rfl, rfl, rfl⟩) (by kernel_rfl) fourFlags_walks os started H enc
      (ChangeSpec.witness6 (enc := enc) (C := Try.checked) false ⟨#[], #[.agg #[.int .i64 0, .int .i64 0, .int .i64 0, .int .i64 0, .bool false, .bool false, .int .i64 0, .int .i64 0, .bool false, .int .u8 0, .int .u8 0, .int .u8 0, .int .u8 0, .int .u8 0, .int .u8 0, .int .u8 0, .int .u8 0, .int .u8 0, .int .u8 0, .int .u8 0, .int .u8 0, .int .u8 0, .int .u8 0, .int .u8 0, .int .u8 0, .bool false, .int .u8 0, .int .u8 0, .int .u8 0, .int .u8 0, .int .u8 0, .int .u8 0, .int .u8 0, .int .u8 0, .int .u8 0, .int .u8 0, .int .u8 0, .int .u8 0, .int .u8 0, .int .u8 0, .int .u8 0, .int .u8 0], .int .u16 0], []⟩ 8 (by kernel_rfl) (by kernel_rfl) (by kernel_rfl) (by kernel_rfl)))

end Go.Proofs.Ytkdliadigalgaaa
