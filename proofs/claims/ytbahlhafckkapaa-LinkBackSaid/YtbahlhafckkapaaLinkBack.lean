/-
  PROVED HERE: 'LinkBackSaid': whatever header l, bytes more and number at are, the Go function LinkBack of package wayleavelaw07 returns true, and its arguments read behind the call as they read before. No condition.
-/
import Derived.Test.YtbahlhafckkapaaLOpen
namespace Go.Proofs.Ytbahlhafckkapaa
open Go.RowKit Go.Lib Go.ChangeShapes Go.WideShapes Go.ChangeAt

theorem mod_int (k N : Nat) : Int.tmod (k : Int) (N : Int) = ((k % N : Nat) : Int) := by
  rw [Int.tmod_eq_emod_of_nonneg (by omega)]; rfl

set_option maxRecDepth 100000 in
set_option maxHeartbeats 4000000 in
theorem linkBack_walk (L : Lk) (h6 : L.Six) (A : Option Addr) (n cap : Nat) (hcap : n ≤ cap) (hcm : cap ≤ maxLen) (X : Option Addr) (len xcap : Nat) (xs : List UInt8) (hxc : len ≤ xcap) (hxm : xcap ≤ maxLen) (q : Nat) (hq : q < 256) (w : World) (hT : TagsAt w w.heap.size A n L.ts) (hI : Rd w w.heap.size X len xs) :
    Calls Try.prog 5 #[lkC L (.slice A n cap), .slice X len xcap, .int .u8 (q : Int)] w fun e w' => e = .returned (.bool true) ∧ Below w.heap.size w w' := by
  have hml : n ≤ 9223372036854775807 := by unfold maxLen at hcm; omega
  have hmx : len ≤ 9223372036854775807 := by unfold maxLen at hxm; omega
  have hb0 := Blk.new w 27 (lkL L (.slice A n cap))
  have hB0 := (Below.refl w.heap.size w).alloc (Nat.le_refl _) (.cells (lkL L (.slice A n cap)).toArray 27)
  have hz0 : (w.alloc (.cells (lkL L (.slice A n cap)).toArray 27)).heap.size = w.heap.size + 1 := by simp
  obtain ⟨w0, hw0⟩ : ∃ w0, w.alloc (.cells (lkL L (.slice A n cap)).toArray 27) = w0 := ⟨_, rfl⟩
  rw [hw0] at hb0 hB0 hz0
  have HW0 := Lib.hid hw0
  have HB0 := Lib.hid hB0
  have HM0 := Lib.hid hb0
  have HZ0 := Lib.hid hz0
  clear hb0 hB0 hw0 hz0
  go_enter Try.func5, Try.ntmps5
  unfold lkC
  go_wp2_with fail
  rw [HW0.out]
  refine (awake_any _).mono ?_
  rintro e w1 ⟨rfl, hb1⟩
  have z1 : w.heap.size < w1.heap.size := by have := hb1.size; rw [HZ0.out] at this; omega
  have M1 := HM0.out.below HM0.out.lt hb1
  have B1 := HB0.out.trans (hb1.mono HB0.out.size)
  have c12 := M1.cell (lkL_tags h6 _)
  by_cases hle : 100 < n
  · have hle' : (100 : Int) < (n : Int) := by omega
    clear M1 hb1
    go_wp2_with fail
    refine (awake_any _).mono ?_
    rintro e w2 ⟨rfl, hb2⟩
    go_wp2_with fail
    go_ret
    exact ⟨rfl, B1.trans (hb2.mono B1.size)⟩
  · have hle' : ¬ (100 : Int) < (n : Int) := by omega
    by_cases hlx : 500 < len
    · have hlx' : (500 : Int) < (len : Int) := by omega
      clear M1 hb1
      go_wp2_with fail
      refine (awake_any _).mono ?_
      rintro e w2 ⟨rfl, hb2⟩
      go_wp2_with fail
      go_ret
      exact ⟨rfl, B1.trans (hb2.mono B1.size)⟩
    · have hlx' : ¬ (500 : Int) < (len : Int) := by omega
      have HM1 := Lib.hid M1
      have HT1 := Lib.hid ((hT.below B1).more B1.size)
      have HI1 := Lib.hid ((hI.below B1).more B1.size)
      clear M1 hb1
      cases hr : rightB L
      · have HR := Lib.hid hr
        clear hr
        go_wp2_with ((with_reducible show wpList _ _ _ _ _ _); refine wpList_loadL rfl _ rfl w.heap.size (by rfl) L h6 (.slice A n cap) HM1.out ?_)
        refine (put_no L h6 cap (by omega) HT1.out HR.out).mono ?_
        rintro e w2 ⟨rfl, hb2⟩
        have B2 := B1.trans (hb2.mono B1.size)
        go_wp2_with fail
        go_ret
        exact ⟨rfl, B2⟩
      · have hts := (right_parts hr).1
        have hn2 : n ≤ 2 := by rw [← hT.size]; exact hts
        obtain ⟨N, hN⟩ : ∃ N, 14 + 4 * n = N := ⟨_, rfl⟩
        have hlen := lkB_len h6
        rw [hT.size, hN] at hlen
        have hbk := rdOf_back h6 hr xs
        rw [hT.size, hN] at hbk
        have hqN : q % N < N := Nat.mod_lt _ (by omega)
        have hct := rdOf_cut h6 hr (q % N) (by rw [hT.size]; omega)
        have hN22 : N ≤ 22 := by omega
        have hN14 : 14 ≤ N := by omega
        have hNI : (14 : Int) + 4 * (n : Int) = (N : Int) := by omega
        have hmd := mod_int q N
        obtain ⟨r, hrr⟩ : ∃ r, q % N = r := ⟨_, rfl⟩
        rw [hrr] at hct hmd hqN
        have HR := Lib.hid hr
        have HLEN := Lib.hid hlen
        have HBK := Lib.hid hbk
        have HCT := Lib.hid hct
        have HNI := Lib.hid hNI
        have HMD := Lib.hid hmd
        have HXL := Lib.hid hI.len
        clear hr hts hlen hbk hct hrr hN hNI hmd
        go_wp2_with ((with_reducible show wpList _ _ _ _ _ _); refine wpList_loadL rfl _ rfl w.heap.size (by rfl) L h6 (.slice A n cap) HM1.out ?_)
        refine (put_yes L h6 cap HT1.out HR.out).mono ?_
        rintro e w2 ⟨v2, rfl, ho2, hb2⟩
        have z2 := hb2.size
        have HM2 := Lib.hid (HM1.out.below z1 hb2)
        have HT2 := Lib.hid ((HT1.out.below hb2).more hb2.size)
        have HI2 := Lib.hid ((HI1.out.below hb2).more hb2.size)
        have B2 := B1.trans (hb2.mono B1.size)
        obtain ⟨A2, c2, rfl, hc2, hm2, hr2⟩ := ho2.form HLEN.out
        have o0 := empty8 (base := w2.heap.size) w2 (Nat.le_refl _)
        have O0 := Lib.hid o0
        have HR2 := Lib.hid hr2
        clear o0 hr2 ho2 hb2
        go_wp2_with (first
          | (at_builtin; refine wpList_append8 (o := ⟨some 41, _, _, _, _, _⟩) rfl _ _ rfl w2.heap.size _ [] (by rfl) O0.out _ _ _ _ (lkB L) (by rfl) (HR2.out.alloc (Nat.le_refl _) _) (by simp; omega) (by simp) ?_; intro v3 w3 ho3 hg3 hob3; rw [List.nil_append] at ho3; have e3 : Below w2.heap.size w2 w3 := ((Below.refl _ w2).alloc (Nat.le_refl _) (.cells #[] 5)).grown hg3 (by simp) (fun g hg => by simp [Value.ownBlock] at hg; omega); have HI3 := Lib.hid (HI2.out.below e3))
          | (at_builtin; refine wpList_append8 (o := ⟨some 43, _, _, _, _, _⟩) rfl _ _ rfl w2.heap.size _ (lkB L) (by rfl) ho3 _ _ _ _ xs (by rfl) HI3.out (by rw [HLEN.out]; omega) e3.size ?_; intro v4 w4 ho4 hg4 hob4; obtain ⟨A4, c4, rfl, hc4, hm4, hr4⟩ := ho4.form (n := N + len) (by rw [List.length_append, HLEN.out, HXL.out])))
        have e4 : Below w2.heap.size w2 w4 := e3.grown hg4 e3.size (fun g hg => ho3.lt g hg)
        have z4 := e4.size
        have HM4 := Lib.hid (HM2.out.below (by omega) e4)
        have HT4 := Lib.hid ((HT2.out.below e4).more z4)
        have HR4 := Lib.hid ((HR2.out.below e4).more z4)
        have B4 := B2.trans (e4.mono B2.size)
        clear hg3 hob3 ho3 hg4 hob4 ho4 e4 e3
        refine (read_as (xs := lkB L ++ xs) HBK.out 0 rfl (by omega) hc4 hm4 hr4).mono ?_
        rintro e w5 ⟨B5, m5, c5, rfl, hm5, hmc5, ht5, _, hb5⟩
        have z5 := hb5.size
        have HM5 := Lib.hid (HM4.out.below (by omega) hb5)
        have HT5 := Lib.hid ((HT4.out.below hb5).more z5)
        have HR5 := Lib.hid ((HR4.out.below hb5).more z5)
        have HL5 := Lib.hid ht5
        have HM5' := Lib.hid hm5
        have B5' := B4.trans (hb5.mono B4.size)
        have hs := run_upto8 A2 N c2 r (r : Int) rfl (by omega)
        have hmd := HMD.out
        have hwq : IntKind.i64.wrap (q : Int) = (q : Int) := by rw [IntKind.wrap_i64]; omega
        have hN0 : ((N : Int) == 0) = false := beq_eq_false_iff_ne.2 (by omega)
        clear ht5 hb5 hr4 hm5 hmc5
        go_wp2_with ((with_reducible show wpList _ _ _ _ _ _); refine wpList_storeNew rfl _ _ rfl (by rfl) ⟨L.d, L.s, L.ts, L.ty, (N : Int)⟩ ⟨h6.d, h6.s⟩ (.slice B5 m5 c5) rfl (by rfl) ?_; intro w6 hM6 hb6 hz6)
        have HK6 := Lib.hid hM6
        have HM6 := Lib.hid (HM5.out.below (by omega) hb6)
        have e56 : Below w5.heap.size w5 w6 := hb6
        have hr6 : Rd w6 w6.heap.size A2 r ((lkB L).take r) := ((HR5.out.below hb6).more hb6.size).take (by omega)
        clear hM6 hb6 hs hmd hwq
        refine (read_as HCT.out 2 rfl (by omega) (by omega) hm2 hr6).mono ?_
        rintro e w7 ⟨B7, m7, c7, rfl, hm7, _, _, _, hb7⟩
        have z67 := hb7.size
        clear hm7
        have HK7 := Lib.hid (HK6.out.below (by omega) hb7)
        have HM7 := Lib.hid (HM6.out.below (by omega) hb7)
        have e57 : Below w5.heap.size w5 w7 := e56.trans (hb7.mono e56.size)
        have z7 := e57.size
        clear hr6 hb7 e56
        have hex : ∀ w8 w9 : World, Below w7.heap.size w7 w8 → w8.heap.size = w7.heap.size + 1 → Blk w9 27 w8.heap.size (lkL L (.slice A n cap)) → Below w8.heap.size w8 w9 →
            Blk (w9.setCell ⟨w8.heap.size, 14, none⟩ (.int .i64 (14 + 4 * (n : Int)))) 27 w8.heap.size (lkL ⟨L.d, L.s, L.ts, L.ty, (N : Int)⟩ (.slice A n cap)) ∧ Blk (w9.setCell ⟨w8.heap.size, 14, none⟩ (.int .i64 (14 + 4 * (n : Int)))) 27 w5.heap.size (lkL ⟨L.d, L.s, L.ts, L.ty, (N : Int)⟩ (.slice B5 m5 c5)) ∧
            Below w5.heap.size w5 (w9.setCell ⟨w8.heap.size, 14, none⟩ (.int .i64 (14 + 4 * (n : Int)))) ∧ w9.cell? ⟨w.heap.size, 12, none⟩ = some (.slice A n cap) := by
          intro w8 w9 hb8 hz8 hM9 hb9
          refine ⟨?_, ?_, ?_, ?_⟩
          · have := hM9.set 14 (.int .i64 (14 + 4 * (n : Int)))
            rw [lkL_at' h6, HNI.out] at this
            rw [HNI.out]
            exact this
          · exact ((HK7.out.below (by omega) hb8).below (by omega) hb9).far (p := ⟨w8.heap.size, 14, none⟩) (by simp; omega) _
          · exact ((e57.trans (hb8.mono z7)).trans (hb9.mono (by omega))).setCell (p := ⟨w8.heap.size, 14, none⟩) (by simp; omega) _
          · exact ((HM7.out.below (by omega) hb8).below (by omega) hb9).cell (lkL_tags h6 _)
        have HEX := Lib.hid hex
        have h6N : Lk.Six ⟨L.d, L.s, L.ts, L.ty, (N : Int)⟩ := ⟨h6.d, h6.s⟩
        clear hex
        go_wp2_with (first
          | ((with_reducible show wpList _ _ _ _ _ _); refine wpList_storeNew rfl (.tmp 11) (.tmp 56) rfl (by rfl) Lk.zero Lk.six_zero (.slice B7 m7 c7) rfl (by rfl) ?_; intro w8 _ hb8 hz8; have HM8 := Lib.hid (HM7.out.below (by omega) hb8); have HZ8 := Lib.hid hz8; clear hz8)
          | ((with_reducible show wpList _ _ _ _ _ _); refine wpList_loadL rfl (.tmp 3) rfl w.heap.size (by rfl) L h6 (.slice A n cap) HM8.out ?_)
          | ((with_reducible show wpList _ _ _ _ _ _); refine wpList_storeNew rfl (.tmp 13) (.tmp 58) rfl (by rfl) L h6 (.slice A n cap) rfl (by rfl) ?_; intro w9 hM9 hb9 hz9; obtain ⟨i1, i2, i3, i4⟩ := HEX.out w8 w9 hb8 HZ8.out hM9 hb9; have I1 := Lib.hid i1; have I2 := Lib.hid i2; have I3 := Lib.hid i3; have d14 := hM9.cell (lkL_at h6 _); have f14 := hM9.frozen 14; clear i1 i2 i3 hz9)
          | ((with_reducible show wpList _ _ _ _ _ _); refine wpList_loadLw (.tmp 9) rfl (by rfl) w5.heap.size (by rfl) ⟨L.d, L.s, L.ts, L.ty, (N : Int)⟩ h6N (.slice B5 m5 c5) I2.out ?_)
          | ((with_reducible show wpList _ _ _ _ _ _); refine wpList_loadLw (.tmp 13) rfl (by rfl) w8.heap.size (by rfl) ⟨L.d, L.s, L.ts, L.ty, (N : Int)⟩ h6N (.slice A n cap) I1.out ?_))
        refine (same_lk ⟨L.d, L.s, L.ts, L.ty, (N : Int)⟩ h6N c5 cap (by rw [HM5'.out]; show L.ts.length ≤ 1000000; rw [HT5.out.size]; omega) I3.out.size (HL5.out.below I3.out) (HT5.out.below I3.out)).mono ?_
        rintro e w11 ⟨rfl, hb11⟩
        have j14 := (I1.out.below I1.out.lt hb11).cell (lkL_at h6N _)
        have B11 := (B5'.trans (I3.out.mono B5'.size)).trans (hb11.mono (by have := B5'.size; have := I3.out.size; omega))
        clear hb11
        go_wp2_with fail
        go_ret
        exact ⟨rfl, B11⟩

theorem linkBack_walks : WalksTrue 5 Try.f5 := by
  intro H enc W base args ds p hval hA
  rw [Try.params5] at hA hval
  obtain ⟨v0, vs0, d0, ds0, p0, q0, hargs, rfl, rfl, h0, r0⟩ := trodAll_cons hA
  obtain ⟨v1, vs1, d1, ds1, p1, q1, rfl, rfl, rfl, h1, r1⟩ := trodAll_cons r0
  obtain ⟨v2, vs2, d2, ds2, p2, q2, rfl, rfl, rfl, h2, r2⟩ := trodAll_cons r1
  obtain ⟨rfl, rfl, rfl⟩ := trodAll_nil r2
  obtain rfl : args = #[v0, v1, v2] := by cases args; simp_all
  obtain ⟨L0, A0, len0, cap0, rfl, s0, hc0, hm0, hI0⟩ := open_link (hval 0 27 v0 rfl rfl) h0
  obtain ⟨A1, len1, cap1, xs1, rfl, hc1, hm1, hI1⟩ := open_bytes (hval 1 22 v1 rfl rfl) h1
  obtain ⟨a2, rfl, rfl, rfl, w2⟩ := open_int Try.underlying5 (hval 2 5 v2 rfl rfl) h2
  obtain ⟨g2a, g2b⟩ := range_u8 w2
  obtain ⟨n2, rfl⟩ := Int.eq_ofNat_of_zero_le g2a
  exact linkBack_walk L0 s0 A0 len0 cap0 hc0 hm0 A1 len1 cap1 xs1 hc1 hm1 n2 (by omega) W hI0 hI1

theorem linkBack_said : Rows.LinkBackSaid :=
  OpenClaim.holds_of_wide 5 Try.f5 rfl rfl rfl rfl rfl rfl rfl ⟨rfl, rfl, rfl, rfl, rfl⟩ rfl rfl rfl rfl rfl (by kernel_rfl) Try.func5 (by kernel_rfl)
    (of_decide_eq_true (by kernel_rfl)) (by unfold Func.isWrapper; first | (rw [if_pos (by decide +kernel)]; kernel_rfl) | (rw [if_neg (by decide +kernel)]; exact ⟨rfl, rfl⟩))
    (fun os started H enc _ => law_lift (s := Rows.linkBackSpec) Try.func5 (by kernel_rfl) rfl rfl (by intro H ds hd; match ds, hd with | [_, _, _], _ => exact ⟨rfl, rfl, rfl⟩) (by kernel_rfl) linkBack_walks os started H enc
      (ChangeSpec.witness6 (enc := enc) (C := Try.checked) false ⟨#[], #[.agg #[.int .u8 0, .int .u8 0, .int .u8 0, .int .u8 0, .int .u8 0, .int .u8 0, .int .u8 0, .int .u8 0, .int .u8 0, .int .u8 0, .int .u8 0, .int .u8 0, .slice none 0 0, .int .i64 0, .int .i64 0], .slice none 0 0, .int .u8 0], []⟩ 8 (by kernel_rfl) (by kernel_rfl) (by kernel_rfl) (by kernel_rfl)))

end Go.Proofs.Ytbahlhafckkapaa
