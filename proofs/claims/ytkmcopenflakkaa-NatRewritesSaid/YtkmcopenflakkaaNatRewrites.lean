/-
  PROVED HERE: 'NatRewritesSaid': whatever bytes frame, address addr and number port are, the Go function NatRewrites of package wayleavelaw12 returns true, and its arguments read behind the call as they read before. No condition.
-/
import Derived.Test.YtkmcopenflakkaaNOpen
import Derived.Test.YtkmcopenflakkaaNAwake
import Derived.Test.YtkmcopenflakkaaNRAny
namespace Go.Proofs.Ytkmcopenflakkaa
set_option maxRecDepth 100000
open Go.RowKit Go.Lib Go.ChangeShapes Go.WideShapes Go.ChangeAt

set_option maxHeartbeats 16000000 in
theorem natRewrites_walk (A : Option Addr) (len cap : Nat) (xs : List UInt8) (hca : len ≤ cap) (hma : cap ≤ maxLen) (a : Ad) (ha : a.b.length = 16) (m : Int) (_ : -9223372036854775808 ≤ m) (_ : m ≤ 9223372036854775807) (w : World) (hI : Rd w w.heap.size A len xs) :
    Calls Try.prog 3 #[.slice A len cap, adC a, .int .i64 m] w fun e w' => e = .returned (.bool true) ∧ Below w.heap.size w w' := by
  have hml : len ≤ 9223372036854775807 := by unfold maxLen at hma; omega
  obtain ⟨Y, hY, hq, hbel⟩ := box_ad w a
  have HXL := Lib.hid hI.len
  have HRX := Lib.hid (fun W (hB : Below w.heap.size w W) => (hI.below hB).more hB.size)
  have HCA := Lib.hid hca
  have HMA := Lib.hid hma
  have HAL := Lib.hid ha
  have E1 := Lib.hid (show adC a = .agg (adL a).toArray from rfl)
  obtain ⟨C1, hC1⟩ : ∃ C, (adL a).toArray = C := ⟨_, rfl⟩
  rw [E1.out]
  rw [hC1] at hY ⊢
  rw [hC1] at E1
  have HC1 := Lib.hid hC1
  have HY := Lib.hid hY
  have HQ := Lib.hid hq
  have HB := Lib.hid hbel
  clear hI hY hq hbel hC1 ha hca hma
  go_enter Try.func3, Try.ntmps3
  go_wp2_with fail
  rw [HY.out]
  refine (awake_any _).mono ?_
  rintro e w1 ⟨rfl, hb1⟩
  have HB1 := Lib.hid (HB.out.trans (hb1.mono HB.out.size))
  have HQ1 := Lib.hid (HQ.out.below HQ.out.lt hb1)
  clear hb1
  by_cases hn : 3000 < len
  · have hn' : (3000 : Int) < (len : Int) := by omega
    have hnb : decide ((3000 : Int) < (len : Int)) = true := decide_eq_true hn'
    clear hn
    go_wp2_with fail
    refine (awake_any _).mono ?_
    rintro e w2 ⟨rfl, hb2⟩
    go_wp2_with fail
    go_ret
    exact ⟨rfl, HB1.out.trans (hb2.mono HB1.out.size)⟩
  · have hn' : ¬ (3000 : Int) < (len : Int) := by omega
    have hnb : decide ((3000 : Int) < (len : Int)) = false := decide_eq_false hn'
    have HN1 := Lib.hid (show len ≤ 3000 by omega)
    clear hn
    have TO := Lib.hid (fun W (h : Below w.heap.size w W) => E1.out ▸ nto_any HAL.out (m := m) (by have := HN1.out; omega) HCA.out HMA.out W (HRX.out W h))
    have FR := Lib.hid (fun W (h : Below w.heap.size w W) => E1.out ▸ nfrom_any HAL.out (m := m) (by have := HN1.out; omega) HCA.out HMA.out W (HRX.out W h))
    have RW := Lib.hid (fun W dst (h : Below w.heap.size w W) => E1.out ▸ rrew_any HAL.out (m := m) (by have := HN1.out; omega) HCA.out dst W (HRX.out W h))
    go_wp2_with (((with_reducible show wpList _ _ _ (⟨some 25, _, _, _, _, _⟩ :: _) _ _); refine wpList_loadM (op := ⟨some 25, _, _, _, _, _⟩) 25 _ rfl (by rfl) w.heap.size 0 (by rfl) (adL a) (Blk_10.range HQ1.out) _ Try.underlying25 rfl (sizeAdL HAL.out) ?_; rw [HC1.out]))
    refine (TO.out _ HB1.out).mono ?_
    rintro e w2 ⟨hn, hy, hb2⟩
    have HB2 := Lib.hid (HB1.out.trans (hb2.mono HB1.out.size))
    have HQ2 := Lib.hid (HQ1.out.below HQ1.out.lt hb2)
    clear hb2 hn' hnb
    cases hc : mayN (readK xs) a m with
    | false =>
      obtain rfl := hn hc
      have HC := Lib.hid hc
      clear hn hy hc
      go_wp2_with (((with_reducible show wpList _ _ _ (⟨some 32, _, _, _, _, _⟩ :: _) _ _); refine wpList_loadM (op := ⟨some 32, _, _, _, _, _⟩) 25 _ rfl (by rfl) w.heap.size 0 (by rfl) (adL a) (Blk_10.range HQ2.out) _ Try.underlying25 rfl (sizeAdL HAL.out) ?_; rw [HC1.out]))
      refine (FR.out _ HB2.out).mono ?_
      rintro e w3 ⟨hn, _, hb3⟩
      obtain rfl := hn HC.out
      have HB3 := Lib.hid (HB2.out.trans (hb3.mono HB2.out.size))
      have HQ3 := Lib.hid (HQ2.out.below HQ2.out.lt hb3)
      clear hn hb3
      go_wp2_with (((with_reducible show wpList _ _ _ (⟨some 39, _, _, _, _, _⟩ :: _) _ _); refine wpList_loadM (op := ⟨some 39, _, _, _, _, _⟩) 25 _ rfl (by rfl) w.heap.size 0 (by rfl) (adL a) (Blk_10.range HQ3.out) _ Try.underlying25 rfl (sizeAdL HAL.out) ?_; rw [HC1.out]))
      refine (RW.out _ true HB3.out).mono ?_
      rintro e w4 ⟨hn, _, hb4⟩
      obtain rfl := hn HC.out
      have HB4 := Lib.hid (HB3.out.trans (hb4.mono HB3.out.size))
      have HQ4 := Lib.hid (HQ3.out.below HQ3.out.lt hb4)
      clear hn hb4
      go_wp2_with (((with_reducible show wpList _ _ _ (⟨some 46, _, _, _, _, _⟩ :: _) _ _); refine wpList_loadM (op := ⟨some 46, _, _, _, _, _⟩) 25 _ rfl (by rfl) w.heap.size 0 (by rfl) (adL a) (Blk_10.range HQ4.out) _ Try.underlying25 rfl (sizeAdL HAL.out) ?_; rw [HC1.out]))
      refine (RW.out _ false HB4.out).mono ?_
      rintro e w5 ⟨hn, _, hb5⟩
      obtain rfl := hn HC.out
      have HB5 := Lib.hid (HB4.out.trans (hb5.mono HB4.out.size))
      have S1 := Lib.hid (same_any w5 0 0 (Rd.nil_ (w := w5) (B := w5.heap.size) none) (Rd.nil_ (w := w5) (B := w5.heap.size) none))
      clear hn hb5
      go_wp2_with fail
      refine S1.out.mono ?_
      rintro e w' ⟨rfl, rfl⟩
      go_wp2_with fail
      refine S1.out.mono ?_
      rintro e w' ⟨rfl, rfl⟩
      go_wp2_with fail
      go_ret
      exact ⟨rfl, HB5.out⟩
    | true =>
      obtain ⟨v, rfl, ho⟩ := hy hc
      obtain ⟨L1, hL1⟩ : ∃ k, (natL xs a m true).length = k := ⟨_, rfl⟩
      obtain ⟨L2, hL2⟩ : ∃ k, (natL xs a m false).length = k := ⟨_, rfl⟩
      obtain ⟨Ax, cx, rfl, _, _, _⟩ := ho.formN hL1
      have HL1 := Lib.hid hL1
      have HL2 := Lib.hid hL2
      have HC := Lib.hid hc
      have HX := Lib.hid ho
      clear hn hy hc ho hL1 hL2
      go_wp2_with (((with_reducible show wpList _ _ _ (⟨some 32, _, _, _, _, _⟩ :: _) _ _); refine wpList_loadM (op := ⟨some 32, _, _, _, _, _⟩) 25 _ rfl (by rfl) w.heap.size 0 (by rfl) (adL a) (Blk_10.range HQ2.out) _ Try.underlying25 rfl (sizeAdL HAL.out) ?_; rw [HC1.out]))
      refine (FR.out _ HB2.out).mono ?_
      rintro e w3 ⟨_, hy, hb3⟩
      obtain ⟨v, rfl, ho⟩ := hy HC.out
      obtain ⟨Ay, cy, rfl, _, _, _⟩ := ho.formN HL2.out
      have HB3 := Lib.hid (HB2.out.trans (hb3.mono HB2.out.size))
      have HQ3 := Lib.hid (HQ2.out.below HQ2.out.lt hb3)
      have HX3 := Lib.hid (HX.out.below hb3)
      have HY3 := Lib.hid ho
      clear hy ho hb3
      go_wp2_with (((with_reducible show wpList _ _ _ (⟨some 39, _, _, _, _, _⟩ :: _) _ _); refine wpList_loadM (op := ⟨some 39, _, _, _, _, _⟩) 25 _ rfl (by rfl) w.heap.size 0 (by rfl) (adL a) (Blk_10.range HQ3.out) _ Try.underlying25 rfl (sizeAdL HAL.out) ?_; rw [HC1.out]))
      refine (RW.out _ true HB3.out).mono ?_
      rintro e w4 ⟨_, hy, hb4⟩
      obtain ⟨v, rfl, ho⟩ := hy HC.out
      obtain ⟨Az, cz, rfl, _, _, _⟩ := ho.formN HL1.out
      have HB4 := Lib.hid (HB3.out.trans (hb4.mono HB3.out.size))
      have HQ4 := Lib.hid (HQ3.out.below HQ3.out.lt hb4)
      have HX4 := Lib.hid (HX3.out.below hb4)
      have HY4 := Lib.hid (HY3.out.below hb4)
      have HZ4 := Lib.hid ho
      clear hy ho hb4
      go_wp2_with (((with_reducible show wpList _ _ _ (⟨some 46, _, _, _, _, _⟩ :: _) _ _); refine wpList_loadM (op := ⟨some 46, _, _, _, _, _⟩) 25 _ rfl (by rfl) w.heap.size 0 (by rfl) (adL a) (Blk_10.range HQ4.out) _ Try.underlying25 rfl (sizeAdL HAL.out) ?_; rw [HC1.out]))
      refine (RW.out _ false HB4.out).mono ?_
      rintro e w5 ⟨_, hy, hb5⟩
      obtain ⟨v, rfl, ho⟩ := hy HC.out
      obtain ⟨Av, cv, rfl, _, _, hvr⟩ := ho.formN HL2.out
      have HB5 := Lib.hid (HB4.out.trans (hb5.mono HB4.out.size))
      have S1 := Lib.hid (same_any w5 cx cz ((HX4.out.below hb5).rdN HL1.out).2.2 ((HZ4.out.below hb5).rdN HL1.out).2.2)
      have S2 := Lib.hid (same_any w5 cy cv ((HY4.out.below hb5).rdN HL2.out).2.2 hvr)
      clear hy ho hb5 hvr
      go_wp2_with fail
      refine S1.out.mono ?_
      rintro e w' ⟨rfl, rfl⟩
      go_wp2_with fail
      refine S2.out.mono ?_
      rintro e w' ⟨rfl, rfl⟩
      go_wp2_with fail
      go_ret
      exact ⟨rfl, HB5.out⟩

theorem natRewrites_walks : WalksTrue 3 Try.f3 := by
  intro H enc W base args ds p hval hA
  rw [Try.params3] at hA hval
  obtain ⟨v0, vs0, d0, ds0, p0, q0, hargs, rfl, rfl, h0, r0⟩ := trodAll_cons hA
  obtain ⟨v1, vs1, d1, ds1, p1, q1, rfl, rfl, rfl, h1, r1⟩ := trodAll_cons r0
  obtain ⟨v2, vs2, d2, ds2, p2, q2, rfl, rfl, rfl, h2, r2⟩ := trodAll_cons r1
  obtain ⟨rfl, rfl, rfl⟩ := trodAll_nil r2
  obtain rfl : args = #[v0, v1, v2] := by cases args; simp_all
  obtain ⟨A0, len0, cap0, xs0, rfl, hc0, hm0, hI0⟩ := open_bytes (hval 0 22 v0 rfl rfl) h0
  obtain ⟨d1_, rfl, l1⟩ := open_ad (hval 1 25 v1 rfl rfl) h1
  obtain ⟨a2, rfl, rfl, rfl, w2⟩ := open_int Try.underlying3 (hval 2 3 v2 rfl rfl) h2
  obtain ⟨g2a, g2b⟩ := range_i64 w2
  exact natRewrites_walk A0 len0 cap0 xs0 hc0 hm0 d1_ l1 a2 g2a g2b W hI0

theorem natRewrites_said : Rows.NatRewritesSaid :=
  OpenClaim.holds_of_wide 3 Try.f3 rfl rfl rfl rfl rfl rfl rfl ⟨rfl, rfl, rfl, rfl, rfl⟩ rfl rfl rfl rfl rfl (by kernel_rfl) Try.func3 (by kernel_rfl)
    (of_decide_eq_true (by kernel_rfl)) (by unfold Func.isWrapper; first | (rw [if_pos (by decide +kernel)]; kernel_rfl) | (rw [if_neg (by decide +kernel)]; exact ⟨rfl, rfl⟩))
    (fun os started H enc _ => law_lift (s := Rows.natRewritesSpec) Try.func3 (by kernel_rfl) rfl rfl (by intro H ds hd; match ds, hd with | [_, _, _], _ => exact ⟨rfl, rfl, rfl⟩) (by kernel_rfl) natRewrites_walks os started H enc
      (ChangeSpec.witness6 (enc := enc) (C := Try.checked) false ⟨#[], #[.slice none 0 0, .agg #[.bool false, .int .u8 0, .int .u8 0, .int .u8 0, .int .u8 0, .int .u8 0, .int .u8 0, .int .u8 0, .int .u8 0, .int .u8 0, .int .u8 0, .int .u8 0, .int .u8 0, .int .u8 0, .int .u8 0, .int .u8 0, .int .u8 0], .int .i64 0], []⟩ 8 (by kernel_rfl) (by kernel_rfl) (by kernel_rfl) (by kernel_rfl)))

end Go.Proofs.Ytkmcopenflakkaa
