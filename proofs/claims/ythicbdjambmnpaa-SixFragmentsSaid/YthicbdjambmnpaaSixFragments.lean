/-
  PROVED HERE: 'SixFragmentsSaid': whatever h, l, part, next and load are, the Go function SixFragments of package wayleavelaw09 returns true, and its arguments read behind the call as they read before. No condition.
-/
import Derived.Test.YthicbdjambmnpaaSMask
namespace Go.Proofs.Ythicbdjambmnpaa
open Go.RowKit Go.Lib Go.ChangeShapes Go.WideShapes Go.ChangeAt

set_option maxRecDepth 100000 in
set_option maxHeartbeats 4000000 in
theorem sixFragments_walk (f : Fr) (hok : f.Ok) (A : Option Addr) (len cap : Nat) (l : List Ex) (hcap : len ≤ cap) (hcm : cap ≤ maxLen) (part : Nat) (hpart : part < 65536) (nx : Nat) (hnx : nx < 256) (A2 : Option Addr) (len2 cap2 : Nat) (load : List UInt8) (hcap2 : len2 ≤ cap2) (hcm2 : cap2 ≤ maxLen) (w : World) (hI : ExtsAt w w.heap.size A len l) (hJ : Rd w w.heap.size A2 len2 load) :
    Calls Try.prog 6 #[frC f, .slice A len cap, .int .u16 (part : Int), .int .u8 (nx : Int), .slice A2 len2 cap2] w fun e w' => e = .returned (.bool true) ∧ Below w.heap.size w w' := by
  have hq := Blk.new w 28 (frL f)
  have hB := (Below.refl w.heap.size w).alloc (Nat.le_refl _) (.cells (frL f).toArray 28)
  have HOK := Lib.hid hok
  have HI := Lib.hid hI
  have HL := Lib.hid hI.size
  have HFIT := Lib.hid hI.fit
  have HJ := Lib.hid hJ
  have HJL := Lib.hid hJ.len
  have hml : len ≤ 9223372036854775807 := by unfold maxLen at hcm; omega
  have hml2 : len2 ≤ 9223372036854775807 := by unfold maxLen at hcm2; omega
  clear hJ
  unfold frC
  obtain ⟨Z, hZ⟩ : ∃ Z, w.alloc (.cells (frL f).toArray 28) = Z := ⟨_, rfl⟩
  rw [hZ] at hq hB
  have HQ := Lib.hid hq
  have HB := Lib.hid hB
  have HZ := Lib.hid hZ
  clear hq hB hZ hok hI
  go_enter Try.func6, Try.ntmps6
  go_wp2_with fail
  rw [HZ.out]
  refine (awake_any _).mono ?_
  rintro e w1 ⟨rfl, hb1⟩
  have HQ1 := Lib.hid (HQ.out.below HQ.out.lt hb1)
  have HB1 := Lib.hid (HB.out.trans (hb1.mono HB.out.size))
  clear hb1 HZ HQ HB
  cases hr : rightB f with
  | false =>
    have HR := Lib.hid (fun W => hr ▸ rright_any HOK.out W)
    clear hr
    go_wp2_with ((with_reducible show wpList _ _ _ _ _ _); refine wpList_loadFw (.tmp 5) rfl (by rfl) w.heap.size (by rfl) f HOK.out HQ1.out ?_)
    refine (HR.out _).mono ?_
    rintro e w2 ⟨rfl, hb2⟩
    have HB2 := Lib.hid (HB1.out.trans (hb2.mono HB1.out.size))
    clear hb2
    go_wp2_with fail
    refine (awake_any _).mono ?_
    rintro e w3 ⟨rfl, hb3⟩
    go_wp2_with fail
    go_ret
    exact ⟨rfl, HB2.out.trans (hb3.mono HB2.out.size)⟩
  | true =>
    have HR := Lib.hid (fun W => hr ▸ rright_any HOK.out W)
    have HRT := Lib.hid hr
    clear hr
    go_wp2_with ((with_reducible show wpList _ _ _ _ _ _); refine wpList_loadFw (.tmp 5) rfl (by rfl) w.heap.size (by rfl) f HOK.out HQ1.out ?_)
    refine (HR.out _).mono ?_
    rintro e w2 ⟨rfl, hb2⟩
    have HQ2 := Lib.hid (HQ1.out.below HQ1.out.lt hb2)
    have HB2 := Lib.hid (HB1.out.trans (hb2.mono HB1.out.size))
    clear hb2 HQ1 HB1 HR
    have HE2 := Lib.hid (HI.out.below HB2.out)
    have HJ2 := Lib.hid (HJ.out.below HB2.out)
    have hand := and16 part 65529 hpart (by decide)
    rw [show ((65529 : Nat) : Int) = 65529 from rfl] at hand
    have hmsk := mask_six16 part hpart
    by_cases t1 : 7 < len
    · have t1' : (7 : Int) < (len : Int) := by omega
      go_wp2_with fail
      refine (awake_any _).mono ?_
      rintro e w3 ⟨rfl, hb3⟩
      go_wp2_with fail
      go_ret
      exact ⟨rfl, HB2.out.trans (hb3.mono HB2.out.size)⟩
    have t1' : ¬ (7 : Int) < (len : Int) := by omega
    by_cases t2 : 300 < len2
    · have t2' : (300 : Int) < (len2 : Int) := by omega
      go_wp2_with fail
      refine (awake_any _).mono ?_
      rintro e w3 ⟨rfl, hb3⟩
      go_wp2_with fail
      go_ret
      exact ⟨rfl, HB2.out.trans (hb3.mono HB2.out.size)⟩
    have t2' : ¬ (300 : Int) < (len2 : Int) := by omega
    by_cases t3 : part &&& 65529 = 0
    · have t3' : (((part &&& 65529 : Nat) : Int) == 0) = true := by simp; exact t3
      go_wp2_with fail
      refine (awake_any _).mono ?_
      rintro e w3 ⟨rfl, hb3⟩
      go_wp2_with fail
      go_ret
      exact ⟨rfl, HB2.out.trans (hb3.mono HB2.out.size)⟩
    have t3' : (((part &&& 65529 : Nat) : Int) == 0) = false := by simp; exact t3
    have HFRG := Lib.hid (show part / 8 ≠ 0 ∨ part % 2 ≠ 0 by omega)
    have HT3 := Lib.hid t3'
    have O2 := Lib.hid (emptyE (base := w2.heap.size) w2 (Nat.le_refl _))
    clear hmsk t3
    go_wp2_with (at_builtin; refine wpList_appendE (o := ⟨some 43, _, _, _, _, _⟩) rfl _ _ rfl w2.heap.size _ [] (by rfl) O2.out _ _ _ _ l (by rfl) (HE2.out.alloc HB2.out.size _) (by rw [List.length_nil]; omega) (by simp) ?_; intro v3 w3 ho3 hg3 _; rw [List.nil_append] at ho3; obtain ⟨A3, c3, rfl, hc3, hm3, _, hgg⟩ := ho3.sl HFIT.out HL.out)
    have e3 : Below w2.heap.size w2 w3 := ((Below.refl _ w2).alloc (Nat.le_refl _) (.cells #[] 43)).grown hg3 (by simp) (fun g hg => by simp [Value.ownBlock] at hg; omega)
    have HO3 := Lib.hid ho3
    have HE3 := Lib.hid e3
    have HGG := Lib.hid hgg
    clear hg3 ho3 e3 hgg hand t3'
    go_loopw [12] (fun i wr => ∃ (k : Nat), k ≤ len ∧ i = .int .i64 (k : Int) ∧ OwnE wr w2.heap.size (.slice A3 len c3) (maskTo (fun _ => 0) k l) ∧ Below w2.heap.size w2 wr) (fun i _ => len - (intOf i).toNat)
    case atStart => exact ⟨0, by omega, rfl, by rw [maskTo_zero]; exact HO3.out, HE3.out⟩
    case round =>
      clear HO3 HE3
      obtain ⟨k, hk, rfl, hown, hBr⟩ := hrel
      by_cases hlt : k < len
      · have hlt' : (k : Int) < (len : Int) := by omega
        obtain ⟨x, hx⟩ : ∃ x, l[k]? = some x := ⟨_, List.getElem?_eq_getElem (by rw [HL.out]; exact hlt)⟩
        obtain ⟨g, rfl, hbg, _⟩ := HGG.out (by omega)
        have HOW := Lib.hid hown
        have HBR := Lib.hid hBr
        have HX := Lib.hid hx
        have HBG := Lib.hid hbg
        clear hown hBr hx hbg
        go_wp2_with ((with_reducible show wpList _ _ _ _ _ _); refine wpList_storeP rfl (.tmp 53) _ rfl g (k * 3 + 2) k rfl (by rfl) 0 0 rfl (by rfl) _ len c3 w2.heap.size (by rw [maskTo_len]; exact HL.out) HOW.out x (maskTo_get _ HX.out) ?_; intro w4 ho4 hb4; have HO4 := Lib.hid ho4; have HB4 := Lib.hid (HBR.out.trans (hb4.mono HBG.out)); clear ho4 hb4)
        go_roundw
        case rel => exact ⟨k + 1, by omega, by go_num, by rw [← maskTo_set (fun _ => 0) HX.out]; exact HO4.out, HB4.out⟩
        case measure => simp [intOf]; omega
      · have hlt' : ¬ (k : Int) < (len : Int) := by omega
        rw [maskTo_all _ (by rw [HL.out]; omega)] at hown
        have HLS := Lib.hid (show (l.map (mk (fun _ => 0))).length = len by rw [List.length_map]; exact HL.out)
        have HIDLE := Lib.hid (mk_idle (fun _ => 0) (fun _ _ => by decide) (fun k _ => zero_frag k) HFIT.out)
        have HFIT2 := Lib.hid (mk_fit (fun _ => 0) (fun _ _ => by decide) HFIT.out)
        generalize l.map (mk (fun _ => 0)) = ls at *
        have HOW := Lib.hid hown
        have HBR := Lib.hid (HB2.out.trans (hBr.mono HB2.out.size))
        have HQR := Lib.hid (HQ2.out.below HQ2.out.lt hBr)
        have HJR := Lib.hid (HJ2.out.below (hBr.mono HB2.out.size))
        have HX0 := Lib.hid hBr.size
        clear hown hBr hlt
        obtain ⟨n1, hn1⟩ : ∃ n1, len + 1 = n1 := ⟨_, rfl⟩
        have HN1 := Lib.hid hn1
        have r9 : ExtsAt (wr.alloc (.cells #[.int .u8 4, .int .u8 0, .int .u16 (part : Int)] 43)) (wr.heap.size + 1) (some ⟨wr.heap.size, 0, none⟩) 1 [(⟨4, 0, part⟩ : Ex)] := ExtsAt.laid wr [(⟨4, 0, part⟩ : Ex)] (fun x hx => by rw [List.mem_singleton] at hx; subst hx; exact ex4_fit hpart) 1 rfl
        have R9 := Lib.hid r9
        have HFA := Lib.hid (show ∀ x ∈ ls ++ [(⟨4, 0, part⟩ : Ex)], x.Fit from fun x hx => by
          rcases List.mem_append.1 hx with hx | hx
          · exact HFIT2.out x hx
          · rw [List.mem_singleton] at hx; subst hx; exact ex4_fit hpart)
        have HLA := Lib.hid (show (ls ++ [(⟨4, 0, part⟩ : Ex)]).length = n1 by rw [List.length_append, HLS.out, ← hn1]; rfl)
        obtain ⟨f', hf'⟩ : ∃ f' : Fr, { f with proto := ((59 : Nat) : Int) } = f' := ⟨_, rfl⟩
        have HOK' := Lib.hid (show f'.Ok by rw [← hf']; exact ⟨HOK.out.s, HOK.out.d⟩)
        have HRT' := Lib.hid (show rightB f' = true by rw [← hf']; exact right_proto HRT.out (by decide) (by decide))
        have hset : (frL f).set 5 (.int .i64 59) = frL f' := by rw [← hf']; rfl
        have HSET := Lib.hid hset
        clear r9 hset hf'
        go_wp2_with (first
          | (at_builtin; refine wpList_appendE (o := ⟨some 58, _, _, _, _, _⟩) rfl _ _ rfl w2.heap.size _ ls (by rfl) (HOW.out.alloc _) _ _ _ _ [(⟨4, 0, part⟩ : Ex)] (by rfl) R9.out (by rw [HLS.out]; omega) (by simp; exact Nat.le_succ_of_le HX0.out) ?_; intro v5 w5 ho5 hg5 _; obtain ⟨A5, c5, rfl, hc5, hm5, hea5, _⟩ := ho5.sl HFA.out HLA.out; have HOW5 := Lib.hid ho5; have e5 : Below w2.heap.size wr w5 := ((Below.refl _ wr).alloc HX0.out (.cells #[.int .u8 4, .int .u8 0, .int .u16 (part : Int)] 43)).grown hg5 (by simp; exact Nat.le_succ_of_le HX0.out) (fun g hg => (HOW.out.lt g hg).1); have HB5 := Lib.hid (HBR.out.trans (e5.mono HB2.out.size)); have HQ5 := Lib.hid (HQR.out.below HQ2.out.lt e5); have HJ5 := Lib.hid (HJR.out.below (e5.mono HB2.out.size)); have HX5 := Lib.hid (Nat.le_trans HX0.out e5.size); clear ho5 hg5 e5 hea5)
          | ((with_reducible show wpList _ _ _ _ _ _); refine wpList_storeI rfl (.tmp 59) _ rfl w.heap.size 5 (by rfl) 59 (by rfl) 28 _ HQ5.out f.proto rfl ?_; intro w6 hq6 hf6 hb6; have HQ6 : Hid (Blk w6 28 w.heap.size (frL f')) := Lib.hid (by rw [← HSET.out]; exact hq6); have HB6 := Lib.hid (HB5.out.trans (hb6.mono (Nat.le_refl _))); have HEA6 := Lib.hid ((HOW5.out.other hf6 HQ2.out.lt).at_ HFA.out HLA.out); have HJ6 := Lib.hid (HJ5.out.below hb6); clear hq6 hb6)
          | ((with_reducible show wpList _ _ _ _ _ _); refine wpList_loadF rfl (.tmp 5) rfl w.heap.size (by rfl) f' HOK'.out HQ6.out ?_))
        have hwh := whole_any HOK'.out HRT'.out A5 n1 c5 (ls ++ [(⟨4, 0, part⟩ : Ex)]) (by omega) A2 len2 cap2 load (by omega) w6 HEA6.out (HJ6.out.more HB6.out.size)
        have hsn : sumN (ls ++ [(⟨4, 0, part⟩ : Ex)]) = sumN ls + 8 := by rw [sumN_append]; rfl
        have hmle := sumN_le ls
        rw [HLS.out] at hmle
        have hwl := whole_len HOK'.out (ls ++ [(⟨4, 0, part⟩ : Ex)]) load
        obtain ⟨F, q1, q2, q3, q4, q5, q6, q7, q8⟩ := whole_frag HOK'.out HRT'.out ls load part nx (by rw [HLS.out]; omega) HIDLE.out (by rw [hsn, HJL.out]; omega) hpart HFRG.out hnx
        rw [hsn, HJL.out] at hwl q8
        rw [HLS.out, HN1.out] at q6
        generalize sumN ls = m at *
        generalize wholeB f' (ls ++ [(⟨4, 0, part⟩ : Ex)]) load = xb at *
        obtain ⟨P, hP⟩ : ∃ P, 40 + m = P := ⟨_, rfl⟩
        obtain ⟨Hd, hHd⟩ : ∃ Hd, P + 8 = Hd := ⟨_, rfl⟩
        obtain ⟨Bn, hBn⟩ : ∃ Bn, 40 + (m + 8 + len2) = Bn := ⟨_, rfl⟩
        rw [hP] at q1 q2 q5
        rw [hHd] at q5
        rw [hBn] at q8 hwl
        have hs1 : IntKind.i64.wrap ((Bn : Int) - (len2 : Int)) = (Hd : Int) := by rw [IntKind.wrap_i64]; omega
        have hs2 : IntKind.i64.wrap ((Hd : Int) - 8) = (P : Int) := by rw [IntKind.wrap_i64]; omega
        have hlp : (P : Int) < (Bn : Int) := by omega
        have hnn : IntKind.i64.wrap (nx : Int) = (nx : Int) := by rw [IntKind.wrap_i64]; omega
        have HPB := Lib.hid (show P < Bn by omega)
        have HBX := Lib.hid (show Bn ≤ 1000000 by omega)
        have HU := Lib.hid (show (nx : Int) = ((UInt8.ofNat nx).toNat : Int) by rw [u8nat hnx])
        have HWH := Lib.hid hwh
        have HWL := Lib.hid hwl
        have Q1 := Lib.hid q1
        have Q2 := Lib.hid q2
        have Q3 := Lib.hid q3
        have Q4 := Lib.hid q4
        have Q5 := Lib.hid q5
        have Q6 := Lib.hid q6
        have Q7 := Lib.hid q7
        have Q8 := Lib.hid q8
        clear hwh hwl q1 q2 q3 q4 q5 q6 q7 q8 hP hHd hBn hsn hmle HIDLE HFIT2 HFA HLA HRT' HRT R9
        refine HWH.out.mono ?_
        rintro e w7 ⟨v7, rfl, ho7, hb7⟩
        obtain ⟨g7, c7, rfl, hc7, hm7, hbg7, hgl7, _⟩ := ho7.formG HWL.out (by have := HPB.out; omega)
        have HO7 := Lib.hid ho7
        have HB7 := Lib.hid (HB6.out.trans (hb7.mono HB6.out.size))
        have HG7 := Lib.hid hbg7
        clear ho7 hb7 hbg7 hgl7
        go_wp2_with ((with_reducible show wpList _ _ _ _ _ _); refine wpList_storeO rfl (.tmp 73) (.tmp 72) rfl g7 P (by rfl) (UInt8.ofNat nx) (nx : Int) HU.out (by rfl) xb Bn c7 w6.heap.size HWL.out HO7.out HPB.out ?_; intro w8 ho8 hb8; have HO8 := Lib.hid ho8; have HB8 := Lib.hid (HB7.out.trans (hb8.mono (Nat.le_trans HB6.out.size HG7.out))); clear ho8 hb8)
        obtain ⟨A8, c8, hv8, hc8, hm8, hr8⟩ := HO8.out.form (n := Bn) (by rw [List.length_set]; exact HWL.out)
        obtain ⟨rfl, rfl⟩ : A8 = some ⟨g7, 0, none⟩ ∧ c8 = c7 := by cases hv8; exact ⟨rfl, rfl⟩
        clear hv8
        refine (read_as Q2.out Q1.out HBX.out hc8 hm8 hr8).mono ?_
        rintro e w9 ⟨rfl, hb9⟩
        have HB9 := Lib.hid (HB8.out.trans (hb9.mono HB8.out.size))
        clear hb9 hr8
        go_wp2_with ((with_reducible show wpList _ _ _ _ _ _); refine wpList_storeNew rfl (.tmp 16) (.tmp 77) rfl (by rfl) F Q3.out (by rfl) ?_; intro wa hXa hba hza; clear hza; have HBa := Lib.hid (HB9.out.trans (hba.mono HB9.out.size)); have k3 := hXa.cell (i := 3) (v := .bool F.frag) rfl; have k0 := hXa.cell (i := 0) (v := .int .i64 F.head) rfl; have k4 := hXa.cell (i := 4) (v := .int .i64 F.exts) rfl; have k5 := hXa.cell (i := 5) (v := .int .i64 F.proto) rfl; have k1 := hXa.cell (i := 1) (v := .int .i64 F.total) rfl; rw [Q4.out] at k3; rw [Q5.out] at k0; rw [Q6.out] at k4; rw [Q7.out] at k5; rw [Q8.out] at k1; clear hXa hba)
        go_ret
        exact ⟨rfl, HBa.out⟩

theorem sixFragments_walks : WalksTrue 6 Try.f6 := by
  intro H enc W base args ds p hval hA
  rw [Try.params6] at hA hval
  obtain ⟨v0, vs0, d0, ds0, p0, q0, hargs, rfl, rfl, h0, r0⟩ := trodAll_cons hA
  obtain ⟨v1, vs1, d1, ds1, p1, q1, rfl, rfl, rfl, h1, r1⟩ := trodAll_cons r0
  obtain ⟨v2, vs2, d2, ds2, p2, q2, rfl, rfl, rfl, h2, r2⟩ := trodAll_cons r1
  obtain ⟨v3, vs3, d3, ds3, p3, q3, rfl, rfl, rfl, h3, r3⟩ := trodAll_cons r2
  obtain ⟨v4, vs4, d4, ds4, p4, q4, rfl, rfl, rfl, h4, r4⟩ := trodAll_cons r3
  obtain ⟨rfl, rfl, rfl⟩ := trodAll_nil r4
  obtain rfl : args = #[v0, v1, v2, v3, v4] := by cases args; simp_all
  obtain ⟨L0, rfl, s0⟩ := open_sixh (hval 0 28 v0 rfl rfl) h0
  obtain ⟨A1, len1, cap1, xs1, rfl, hc1, hm1, hI1⟩ := open_exts (hval 1 40 v1 rfl rfl) h1
  obtain ⟨a2, rfl, rfl, rfl, w2⟩ := open_int Try.underlying41 (hval 2 41 v2 rfl rfl) h2
  obtain ⟨g2a, g2b⟩ := range_u16 w2
  obtain ⟨n2, rfl⟩ := Int.eq_ofNat_of_zero_le g2a
  obtain ⟨a3, rfl, rfl, rfl, w3⟩ := open_int Try.underlying5 (hval 3 5 v3 rfl rfl) h3
  obtain ⟨g3a, g3b⟩ := range_u8 w3
  obtain ⟨n3, rfl⟩ := Int.eq_ofNat_of_zero_le g3a
  obtain ⟨A4, len4, cap4, xs4, rfl, hc4, hm4, hI4⟩ := open_bytes (hval 4 22 v4 rfl rfl) h4
  exact sixFragments_walk L0 s0 A1 len1 cap1 xs1 hc1 hm1 n2 (by omega) n3 (by omega) A4 len4 cap4 xs4 hc4 hm4 W hI1 hI4

theorem sixFragments_said : Rows.SixFragmentsSaid :=
  OpenClaim.holds_of_wide 6 Try.f6 rfl rfl rfl rfl rfl rfl rfl ⟨rfl, rfl, rfl, rfl, rfl⟩ rfl rfl rfl rfl rfl (by kernel_rfl) Try.func6 (by kernel_rfl)
    (of_decide_eq_true (by kernel_rfl)) (by unfold Func.isWrapper; first | (rw [if_pos (by decide +kernel)]; kernel_rfl) | (rw [if_neg (by decide +kernel)]; exact ⟨rfl, rfl⟩))
    (fun os started H enc _ => law_lift (s := Rows.sixFragmentsSpec) Try.func6 (by kernel_rfl) rfl rfl (by intro H ds hd; match ds, hd with | [_, _, _, _, _], _ => exact ⟨rfl, rfl, rfl⟩) (by kernel_rfl) sixFragments_walks os started H enc
      (ChangeSpec.witness6 (enc := enc) (C := Try.checked) false ⟨#[], #[.agg #[.int .i64 0, .int .i64 0, .int .i64 0, .bool false, .int .i64 0, .int .i64 0, .bool false, .int .u8 0, .int .u8 0, .int .u8 0, .int .u8 0, .int .u8 0, .int .u8 0, .int .u8 0, .int .u8 0, .int .u8 0, .int .u8 0, .int .u8 0, .int .u8 0, .int .u8 0, .int .u8 0, .int .u8 0, .int .u8 0, .bool false, .int .u8 0, .int .u8 0, .int .u8 0, .int .u8 0, .int .u8 0, .int .u8 0, .int .u8 0, .int .u8 0, .int .u8 0, .int .u8 0, .int .u8 0, .int .u8 0, .int .u8 0, .int .u8 0, .int .u8 0, .int .u8 0], .slice none 0 0, .int .u16 0, .int .u8 0, .slice none 0 0], []⟩ 8 (by kernel_rfl) (by kernel_rfl) (by kernel_rfl) (by kernel_rfl)))

end Go.Proofs.Ythicbdjambmnpaa
