/-
  PROVED HERE: 'PacketMakesSaid': whatever header l, tuple t, flags f and bytes load are, the Go function PacketMakes of package wayleavelaw11 returns true, and its arguments read behind the call as they read before. No condition.
-/
import Derived.Test.YtdkaaffghendiaaKLaw
import Derived.Test.YtdkaaffghendiaaKWhy
import Derived.Test.YtdkaaffghendiaaKRMake
namespace Go.Proofs.Ytdkaaffghendiaa
set_option maxRecDepth 100000
open Go.RowKit Go.Lib Go.ChangeShapes Go.WideShapes Go.ChangeAt

theorem why_vals (L : Lk) (t : Tu) (f : Int) (n : Nat) : whyN L t f n = 0 ∨ whyN L t f n = 1 ∨ whyN L t f n = 4 := by
  unfold whyN
  split
  · exact .inr (.inl rfl)
  · split
    · exact .inr (.inr rfl)
    · exact .inl rfl
theorem lk_tv (L : Lk) (h : L.Six) (tv : Value) : (lkL L tv)[12]? = some tv := by
  obtain ⟨d, s, ts, ty, at_⟩ := L
  obtain ⟨h1, h2⟩ := h
  match d, s, h1, h2 with
  | [d0, d1, d2, d3, d4, d5], [s0, s1, s2, s3, s4, s5], _, _ => rfl
set_option maxHeartbeats 8000000 in
theorem packetMakes_walk (L : Lk) (h6 : L.Six) (A : Option Addr) (n cap : Nat) (_hc : n ≤ cap) (hm : cap ≤ maxLen) (t : Tu) (ho : t.Ok) (f : Int) (_hf1 : -9223372036854775808 ≤ f) (_hf2 : f ≤ 9223372036854775807) (B : Option Addr) (len cb : Nat) (xs : List UInt8) (hcb : len ≤ cb) (hmb : cb ≤ maxLen) (w : World) (hT : TagsAt w w.heap.size A n L.ts) (hI : Rd w w.heap.size B len xs) :
    Calls Try.prog 4 #[lkC L (.slice A n cap), tuC t, .int .i64 f, .slice B len cb] w fun e w' => e = .returned (.bool true) ∧ Below w.heap.size w w' := by
  have hml : len ≤ 9223372036854775807 := by unfold maxLen at hmb; omega
  have hmn : n ≤ 9223372036854775807 := by unfold maxLen at hm; omega
  obtain ⟨Y, hY, hbl, hbt, hb⟩ : ∃ Y : World, (w.alloc (.cells (lkL L (.slice A n cap)).toArray 36)).alloc (.cells (tuL t).toArray 28) = Y ∧ Blk Y 36 w.heap.size (lkL L (.slice A n cap)) ∧ Blk Y 28 (w.heap.size + 1) (tuL t) ∧ Below w.heap.size w Y := by
    refine ⟨_, rfl, (Blk_10.new w 36 _).alloc _, ?_, ((Below.refl w.heap.size w).alloc (Nat.le_refl _) _).alloc (by simp) _⟩
    have := Blk_10.new (w.alloc (.cells (lkL L (.slice A n cap)).toArray 36)) 28 (tuL t)
    rwa [World.size_alloc] at this
  have HL := Lib.hid hbl
  have HT := Lib.hid hbt
  have HB := Lib.hid hb
  have HTV := Lib.hid (lk_tv L h6 (.slice A n cap))
  have HO := Lib.hid ho
  have H6 := Lib.hid h6
  have HLEN := Lib.hid hI.len
  have HTG := Lib.hid (fun W (hB : Below w.heap.size w W) => (hT.below hB).more hB.size)
  have HRB := Lib.hid (fun W (hB : Below w.heap.size w W) => (hI.below hB).more hB.size)
  have HIB := Lib.hid hI
  have E0 := Lib.hid (show lkC L (.slice A n cap) = .agg (lkL L (.slice A n cap)).toArray from rfl)
  have E1 := Lib.hid (show tuC t = .agg (tuL t).toArray from rfl)
  obtain ⟨C0, hC0⟩ : ∃ C, (lkL L (.slice A n cap)).toArray = C := ⟨_, rfl⟩
  obtain ⟨C1, hC1⟩ : ∃ C, (tuL t).toArray = C := ⟨_, rfl⟩
  rw [E0.out, E1.out]
  rw [hC0, hC1] at hY
  rw [hC0, hC1]
  rw [hC0] at E0
  rw [hC1] at E1
  have HC0 := Lib.hid hC0
  have HC1 := Lib.hid hC1
  have EQ := Lib.hid hY
  clear hbl hbt hb h6 ho hT hI hY hC0 hC1
  go_enter Try.func4, Try.ntmps4
  go_wp2_with fail
  rw [EQ.out]
  refine (awake_any _).mono ?_
  rintro e w1 ⟨rfl, hb1⟩
  have HB1 := Lib.hid (HB.out.trans (hb1.mono HB.out.size))
  have HL1 := Lib.hid (HL.out.below HL.out.lt hb1)
  have HT1 := Lib.hid (HT.out.below HT.out.lt hb1)
  have c12 := Blk_10.cell HL1.out HTV.out
  clear hb1
  by_cases hbig : 100 < n ∨ 70000 < len
  · by_cases hn : 100 < n
    · have hn' : (100 : Int) < (n : Int) := by omega
      have hnb : decide ((100 : Int) < (n : Int)) = true := decide_eq_true hn'
      clear hbig hn
      go_wp2_with fail
      refine (awake_any _).mono ?_
      rintro e w2 ⟨rfl, hb2⟩
      go_wp2_with fail
      go_ret
      exact ⟨rfl, HB1.out.trans (hb2.mono HB1.out.size)⟩
    · have hn' : ¬ (100 : Int) < (n : Int) := by omega
      have hnb : decide ((100 : Int) < (n : Int)) = false := decide_eq_false hn'
      have hl' : (70000 : Int) < (len : Int) := by omega
      have hlb : decide ((70000 : Int) < (len : Int)) = true := decide_eq_true hl'
      clear hbig hn
      go_wp2_with fail
      refine (awake_any _).mono ?_
      rintro e w2 ⟨rfl, hb2⟩
      go_wp2_with fail
      go_ret
      exact ⟨rfl, HB1.out.trans (hb2.mono HB1.out.size)⟩
  · have hn' : ¬ (100 : Int) < (n : Int) := by omega
    have hnb : decide ((100 : Int) < (n : Int)) = false := decide_eq_false hn'
    have hl' : ¬ (70000 : Int) < (len : Int) := by omega
    have hlb : decide ((70000 : Int) < (len : Int)) = false := decide_eq_false hl'
    have hn1 : n ≤ 1000 := by omega
    have hl1 : len ≤ 100000 := by omega
    have HMK := Lib.hid (fun W (hB : Below w.heap.size w W) => pmake_any H6.out (A := A) (n := n) (cap := cap) hn1 HO.out f (B := B) (len := len) (cb := cb) (load := xs) hl1 W (HTG.out W hB) (HRB.out W hB))
    have HWY := Lib.hid (fun W (hB : Below w.heap.size w W) => rwhy_any H6.out (A := A) (n := n) (cap := cap) hn1 HO.out f (len := len) hl1 W (HTG.out W hB))
    rw [E0.out, E1.out] at HMK HWY
    unfold MakeGave at HMK
    rw [HLEN.out] at HMK
    clear hbig
    go_wp2_with (first
      | ((with_reducible show wpList _ _ _ (⟨some 27, _, _, _, _, _⟩ :: _) _ _); refine wpList_loadM 36 _ rfl (by rfl) w.heap.size 0 (by rfl) (lkL L (.slice A n cap)) (Blk_10.range HL1.out) _ Try.underlying36 rfl (sizeLkL H6.out _) ?_; rw [HC0.out])
      | ((with_reducible show wpList _ _ _ (⟨some 28, _, _, _, _, _⟩ :: _) _ _); refine wpList_loadM 28 _ rfl (by rfl) (w.heap.size + 1) 0 (by rfl) (tuL t) (Blk_10.range HT1.out) _ Try.underlying28 rfl (sizeTuL HO.out) ?_; rw [HC1.out]))
    refine (HMK.out _ HB1.out).mono ?_
    rintro e w2 ⟨hno, hyes, hb2⟩
    have HB2 := Lib.hid (HB1.out.trans (hb2.mono HB1.out.size))
    have HL2 := Lib.hid (HL1.out.below HL1.out.lt hb2)
    have HT2 := Lib.hid (HT1.out.below HT1.out.lt hb2)
    clear hb2 c12
    by_cases h0 : whyN L t f len = 0
    · obtain ⟨hok, hsz⟩ := why_zero h0
      obtain ⟨v, rfl, hov⟩ := hyes h0
      have hmkl := makeK_len H6.out HO.out f xs
      obtain ⟨ML, hML⟩ : ∃ k, (makeK L t f xs).length = k := ⟨_, rfl⟩
      have hMLs : ML ≤ 1000000 := by rw [← hML, hmkl, HLEN.out]; have := (HTG.out w2 HB2.out).size; omega
      obtain ⟨A2, c2, rfl, hc2, hm2, hr2⟩ := hov.formN hML
      have HR2 := Lib.hid hr2
      have HRM := Lib.hid (fun W (hB : Below w.heap.size w W) => rmake_any H6.out (A := A) (n := n) (cap := cap) hn1 HO.out hok (B := B) (len := len) (cb := cb) (load := xs) hsz W (HTG.out W hB) (HRB.out W hB))
      rw [E0.out, E1.out] at HRM
      rw [h0] at HWY
      have HML := Lib.hid hML
      clear hno hyes hov hr2 h0 hok hsz hmkl hML
      go_wp2_with (first
        | ((with_reducible show wpList _ _ _ (⟨some 34, _, _, _, _, _⟩ :: _) _ _); refine wpList_loadM 36 _ rfl (by rfl) w.heap.size 0 (by rfl) (lkL L (.slice A n cap)) (Blk_10.range HL2.out) _ Try.underlying36 rfl (sizeLkL H6.out _) ?_; rw [HC0.out])
        | ((with_reducible show wpList _ _ _ (⟨some 35, _, _, _, _, _⟩ :: _) _ _); refine wpList_loadM 28 _ rfl (by rfl) (w.heap.size + 1) 0 (by rfl) (tuL t) (Blk_10.range HT2.out) _ Try.underlying28 rfl (sizeTuL HO.out) ?_; rw [HC1.out]))
      refine (HWY.out _ HB2.out).mono ?_
      rintro e w3 ⟨rfl, hb3⟩
      have HB3 := Lib.hid (HB2.out.trans (hb3.mono HB2.out.size))
      have HL3 := Lib.hid (HL2.out.below HL2.out.lt hb3)
      have HT3 := Lib.hid (HT2.out.below HT2.out.lt hb3)
      have HR3 := Lib.hid ((HR2.out.below hb3).more hb3.size)
      clear hb3
      go_wp2_with (first
        | ((with_reducible show wpList _ _ _ (⟨some 54, _, _, _, _, _⟩ :: _) _ _); refine wpList_loadM 36 _ rfl (by rfl) w.heap.size 0 (by rfl) (lkL L (.slice A n cap)) (Blk_10.range HL3.out) _ Try.underlying36 rfl (sizeLkL H6.out _) ?_; rw [HC0.out])
        | ((with_reducible show wpList _ _ _ (⟨some 55, _, _, _, _, _⟩ :: _) _ _); refine wpList_loadM 28 _ rfl (by rfl) (w.heap.size + 1) 0 (by rfl) (tuL t) (Blk_10.range HT3.out) _ Try.underlying28 rfl (sizeTuL HO.out) ?_; rw [HC1.out]))
      refine (HRM.out _ HB3.out).mono ?_
      rintro e w4 ⟨v4, rfl, ho4, hb4⟩
      obtain ⟨A4, c4, rfl, _, _, hr4⟩ := ho4.formN HML.out
      have HB4 := Lib.hid (HB3.out.trans (hb4.mono HB3.out.size))
      have HS := Lib.hid (fun W (hB : Below w4.heap.size w4 W) => same_any W c2 c4 (((HR3.out.below hb4).more hb4.size).below hB) (hr4.below hB))
      clear ho4 hr4 hb4
      go_wp2_with fail
      refine (HS.out _ (Below.refl _ _)).mono ?_
      rintro e w5 ⟨rfl, rfl⟩
      go_wp2_with fail
      go_ret
      exact ⟨rfl, HB4.out⟩
    · have e1 := hno h0
      subst e1
      have hv := why_vals L t f len
      obtain ⟨K, hK⟩ : ∃ K, whyN L t f len = K := ⟨_, rfl⟩
      rw [hK] at HWY h0 hv
      rw [hK]
      clear hno hyes hK
      have hKc : K = 1 ∨ K = 4 := by omega
      clear hv h0
      rcases hKc with rfl | rfl
      · go_wp2_with (first
          | ((with_reducible show wpList _ _ _ (⟨some 34, _, _, _, _, _⟩ :: _) _ _); refine wpList_loadM 36 _ rfl (by rfl) w.heap.size 0 (by rfl) (lkL L (.slice A n cap)) (Blk_10.range HL2.out) _ Try.underlying36 rfl (sizeLkL H6.out _) ?_; rw [HC0.out])
          | ((with_reducible show wpList _ _ _ (⟨some 35, _, _, _, _, _⟩ :: _) _ _); refine wpList_loadM 28 _ rfl (by rfl) (w.heap.size + 1) 0 (by rfl) (tuL t) (Blk_10.range HT2.out) _ Try.underlying28 rfl (sizeTuL HO.out) ?_; rw [HC1.out]))
        refine (HWY.out _ HB2.out).mono ?_
        rintro e w3 ⟨rfl, hb3⟩
        go_wp2_with fail
        go_ret
        exact ⟨rfl, HB2.out.trans (hb3.mono HB2.out.size)⟩
      · go_wp2_with (first
          | ((with_reducible show wpList _ _ _ (⟨some 34, _, _, _, _, _⟩ :: _) _ _); refine wpList_loadM 36 _ rfl (by rfl) w.heap.size 0 (by rfl) (lkL L (.slice A n cap)) (Blk_10.range HL2.out) _ Try.underlying36 rfl (sizeLkL H6.out _) ?_; rw [HC0.out])
          | ((with_reducible show wpList _ _ _ (⟨some 35, _, _, _, _, _⟩ :: _) _ _); refine wpList_loadM 28 _ rfl (by rfl) (w.heap.size + 1) 0 (by rfl) (tuL t) (Blk_10.range HT2.out) _ Try.underlying28 rfl (sizeTuL HO.out) ?_; rw [HC1.out]))
        refine (HWY.out _ HB2.out).mono ?_
        rintro e w3 ⟨rfl, hb3⟩
        go_wp2_with fail
        go_ret
        exact ⟨rfl, HB2.out.trans (hb3.mono HB2.out.size)⟩

theorem packetMakes_walks : WalksTrue 4 Try.f4 := by
  intro H enc W base args ds p hval hA
  rw [Try.params4] at hA hval
  obtain ⟨v0, vs0, d0, ds0, p0, q0, hargs, rfl, rfl, h0, r0⟩ := trodAll_cons hA
  obtain ⟨v1, vs1, d1, ds1, p1, q1, rfl, rfl, rfl, h1, r1⟩ := trodAll_cons r0
  obtain ⟨v2, vs2, d2, ds2, p2, q2, rfl, rfl, rfl, h2, r2⟩ := trodAll_cons r1
  obtain ⟨v3, vs3, d3, ds3, p3, q3, rfl, rfl, rfl, h3, r3⟩ := trodAll_cons r2
  obtain ⟨rfl, rfl, rfl⟩ := trodAll_nil r3
  obtain rfl : args = #[v0, v1, v2, v3] := by cases args; simp_all
  obtain ⟨L0, A0, len0, cap0, rfl, s0, hc0, hm0, hI0⟩ := open_link (hval 0 36 v0 rfl rfl) h0
  obtain ⟨t1, rfl, o1⟩ := open_tuple (hval 1 28 v1 rfl rfl) h1
  obtain ⟨a2, rfl, rfl, rfl, w2⟩ := open_int Try.underlying3 (hval 2 3 v2 rfl rfl) h2
  obtain ⟨g2a, g2b⟩ := range_i64 w2
  obtain ⟨A3, len3, cap3, xs3, rfl, hc3, hm3, hI3⟩ := open_bytes (hval 3 22 v3 rfl rfl) h3
  exact packetMakes_walk L0 s0 A0 len0 cap0 hc0 hm0 t1 o1 a2 g2a g2b A3 len3 cap3 xs3 hc3 hm3 W hI0 hI3

theorem packetMakes_said : Rows.PacketMakesSaid :=
  OpenClaim.holds_of_wide 4 Try.f4 rfl rfl rfl rfl rfl rfl rfl ⟨rfl, rfl, rfl, rfl, rfl⟩ rfl rfl rfl rfl rfl (by kernel_rfl) Try.func4 (by kernel_rfl)
    (of_decide_eq_true (by kernel_rfl)) (by unfold Func.isWrapper; first | (rw [if_pos (by decide +kernel)]; kernel_rfl) | (rw [if_neg (by decide +kernel)]; exact ⟨rfl, rfl⟩))
    (fun os started H enc _ => law_lift (s := Rows.packetMakesSpec) Try.func4 (by kernel_rfl) rfl rfl (by intro H ds hd; match ds, hd with | [_, _, _, _], _ => exact ⟨rfl, rfl, rfl⟩) (by kernel_rfl) packetMakes_walks os started H enc
      (ChangeSpec.witness6 (enc := enc) (C := Try.checked) false ⟨#[], #[.agg #[.int .u8 0, .int .u8 0, .int .u8 0, .int .u8 0, .int .u8 0, .int .u8 0, .int .u8 0, .int .u8 0, .int .u8 0, .int .u8 0, .int .u8 0, .int .u8 0, .slice none 0 0, .int .i64 0, .int .i64 0], .agg #[.bool false, .int .u8 0, .int .u8 0, .int .u8 0, .int .u8 0, .int .u8 0, .int .u8 0, .int .u8 0, .int .u8 0, .int .u8 0, .int .u8 0, .int .u8 0, .int .u8 0, .int .u8 0, .int .u8 0, .int .u8 0, .int .u8 0, .bool false, .int .u8 0, .int .u8 0, .int .u8 0, .int .u8 0, .int .u8 0, .int .u8 0, .int .u8 0, .int .u8 0, .int .u8 0, .int .u8 0, .int .u8 0, .int .u8 0, .int .u8 0, .int .u8 0, .int .u8 0, .int .u8 0, .int .i64 0, .int .i64 0, .int .i64 0], .int .i64 0, .slice none 0 0], []⟩ 8 (by kernel_rfl) (by kernel_rfl) (by kernel_rfl) (by kernel_rfl)))

end Go.Proofs.Ytdkaaffghendiaa
