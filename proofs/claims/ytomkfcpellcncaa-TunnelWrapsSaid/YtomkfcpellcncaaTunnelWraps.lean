/-
  PROVED HERE: 'TunnelWrapsSaid': whatever bytes frame and addresses src and dst are, the Go function TunnelWraps of package wayleavelaw13 returns true, and its arguments read behind the call as they read before. No condition.
-/
import Derived.Test.YtomkfcpellcncaaTSup
import Derived.Test.YtomkfcpellcncaaTAwake
import Derived.Test.YtomkfcpellcncaaTRWrap
namespace Go.Proofs.Ytomkfcpellcncaa
set_option maxRecDepth 100000
open Go.RowKit Go.Lib Go.ChangeShapes Go.WideShapes Go.ChangeAt

set_option maxHeartbeats 16000000 in
theorem tunnelWraps_walk (A : Option Addr) (len cap : Nat) (xs : List UInt8) (hca : len ≤ cap) (hma : cap ≤ maxLen) (s : Ad) (hs : s.b.length = 16) (d : Ad) (hd : d.b.length = 16) (w : World) (hI : Rd w w.heap.size A len xs) :
    Calls Try.prog 3 #[.slice A len cap, adC s, adC d] w fun e w' => e = .returned (.bool true) ∧ Below w.heap.size w w' := by
  have hml : len ≤ 9223372036854775807 := by unfold maxLen at hma; omega
  obtain ⟨Y, hY, hq, hr, hbel⟩ := box_ads w s d
  have HXL := Lib.hid hI.len
  have HRX := Lib.hid (fun W (hB : Below w.heap.size w W) => (hI.below hB).more hB.size)
  have HCA := Lib.hid hca
  have HMA := Lib.hid hma
  have HS := Lib.hid hs
  have HD := Lib.hid hd
  have HQ := Lib.hid hq
  have HR := Lib.hid hr
  have HB := Lib.hid hbel
  obtain ⟨C0, hC0⟩ : ∃ C, (adL s).toArray = C := ⟨_, rfl⟩
  obtain ⟨C1, hC1⟩ : ∃ C, (adL d).toArray = C := ⟨_, rfl⟩
  have E0 := Lib.hid (show adC s = .agg C0 by rw [← hC0]; rfl)
  have E1 := Lib.hid (show adC d = .agg C1 by rw [← hC1]; rfl)
  rw [E0.out, E1.out]
  rw [hC0, hC1] at hY
  have HC0 := Lib.hid hC0
  have HC1 := Lib.hid hC1
  have HY := Lib.hid hY
  clear hI hY hq hr hbel hC0 hC1 hs hd hca hma
  go_enter Try.func3, Try.ntmps3
  go_wp2_with fail
  rw [HY.out]
  refine (awake_any _).mono ?_
  rintro e w1 ⟨rfl, hb1⟩
  have BY1 := Lib.hid hb1
  have HB1 := Lib.hid (HB.out.trans (hb1.mono HB.out.size))
  clear hb1
  by_cases hn : 3000 < len
  · have hn' : (3000 : Int) < (len : Int) := by omega
    have hnb : decide ((3000 : Int) < (len : Int)) = true := decide_eq_true hn'
    clear hn
    go_wp2_with fail
    refine (awake_any _).mono ?_
    rintro e w2 ⟨rfl, hb2⟩
    go_wp2_with fail
    go_ret
    exact ⟨rfl, HB1.out.trans (hb2.mono HB1.out.size)⟩
  · have hn' : ¬ (3000 : Int) < (len : Int) := by omega
    have hnb : decide ((3000 : Int) < (len : Int)) = false := decide_eq_false hn'
    have HN1 := Lib.hid (show len ≤ 3000 by omega)
    clear hn
    have TW := Lib.hid (fun W (h : Below w.heap.size w W) => E1.out ▸ E0.out ▸ twrap_any A len cap xs HS.out HD.out (by have := HN1.out; omega) HCA.out HMA.out W (HRX.out W h))
    have RW := Lib.hid (fun W (h : Below w.heap.size w W) => E1.out ▸ E0.out ▸ rwrap_any A len cap xs HS.out HD.out (by have := HN1.out; omega) HCA.out W (HRX.out W h))
    obtain ⟨E, hE⟩ : ∃ E, wrapE xs s d = E := ⟨_, rfl⟩
    have HE := Lib.hid hE
    clear hE
    go_wp2_with (first
      | ((with_reducible show wpList _ _ _ (⟨some 21, _, _, _, _, _⟩ :: _) _ _); refine wpList_loadM (op := ⟨some 21, _, _, _, _, _⟩) 25 _ rfl (by rfl) w.heap.size 0 (by rfl) (adL s) (Blk_10.range (HQ.out.below HQ.out.lt BY1.out)) _ Try.underlying25 rfl (sizeAdL HS.out) ?_; rw [HC0.out])
      | ((with_reducible show wpList _ _ _ (⟨some 22, _, _, _, _, _⟩ :: _) _ _); refine wpList_loadM (op := ⟨some 22, _, _, _, _, _⟩) 25 _ rfl (by rfl) (w.heap.size + 1) 0 (by rfl) (adL d) (Blk_10.range (HR.out.below HR.out.lt BY1.out)) _ Try.underlying25 rfl (sizeAdL HD.out) ?_; rw [HC1.out]))
    refine (TW.out _ HB1.out).mono ?_
    rintro e w2 ⟨hy, hno, hb2⟩
    rw [HE.out] at hy hno
    have BY2 := Lib.hid (BY1.out.trans (hb2.mono BY1.out.size))
    have HB2 := Lib.hid (HB1.out.trans (hb2.mono HB1.out.size))
    clear hn' hnb
    by_cases h0 : E = 0
    · obtain ⟨v, rfl, ho⟩ := hy h0
      obtain ⟨l, hl⟩ : ∃ k, (wrapL xs s d).length = k := ⟨_, rfl⟩
      obtain ⟨Ax, cx, rfl, _, _, _⟩ := ho.formN hl
      have HX := Lib.hid ho
      have HL := Lib.hid hl
      have H0 := Lib.hid h0
      clear hy hno ho hl hb2 h0
      go_wp2_with (first
        | ((with_reducible show wpList _ _ _ (⟨some 28, _, _, _, _, _⟩ :: _) _ _); refine wpList_loadM (op := ⟨some 28, _, _, _, _, _⟩) 25 _ rfl (by rfl) w.heap.size 0 (by rfl) (adL s) (Blk_10.range (HQ.out.below HQ.out.lt BY2.out)) _ Try.underlying25 rfl (sizeAdL HS.out) ?_; rw [HC0.out])
        | ((with_reducible show wpList _ _ _ (⟨some 29, _, _, _, _, _⟩ :: _) _ _); refine wpList_loadM (op := ⟨some 29, _, _, _, _, _⟩) 25 _ rfl (by rfl) (w.heap.size + 1) 0 (by rfl) (adL d) (Blk_10.range (HR.out.below HR.out.lt BY2.out)) _ Try.underlying25 rfl (sizeAdL HD.out) ?_; rw [HC1.out]))
      refine (RW.out _ HB2.out).mono ?_
      rintro e w3 ⟨hy, _, hb3⟩
      rw [HE.out] at hy
      obtain ⟨v, rfl, ho⟩ := hy H0.out
      obtain ⟨Ay, cy, rfl, _, _, hyr⟩ := ho.formN HL.out
      have HB3 := Lib.hid (HB2.out.trans (hb3.mono HB2.out.size))
      have S1 := Lib.hid (same_any w3 cx cy ((HX.out.below hb3).rdN HL.out).2.2 hyr)
      clear hy ho hyr hb3
      go_wp2_with fail
      refine S1.out.mono ?_
      rintro e w' ⟨rfl, rfl⟩
      go_wp2_with fail
      go_ret
      exact ⟨rfl, HB3.out⟩
    · obtain rfl := hno h0
      have H0 := Lib.hid h0
      clear hy hno hb2 h0
      go_wp2_with (first
        | ((with_reducible show wpList _ _ _ (⟨some 28, _, _, _, _, _⟩ :: _) _ _); refine wpList_loadM (op := ⟨some 28, _, _, _, _, _⟩) 25 _ rfl (by rfl) w.heap.size 0 (by rfl) (adL s) (Blk_10.range (HQ.out.below HQ.out.lt BY2.out)) _ Try.underlying25 rfl (sizeAdL HS.out) ?_; rw [HC0.out])
        | ((with_reducible show wpList _ _ _ (⟨some 29, _, _, _, _, _⟩ :: _) _ _); refine wpList_loadM (op := ⟨some 29, _, _, _, _, _⟩) 25 _ rfl (by rfl) (w.heap.size + 1) 0 (by rfl) (adL d) (Blk_10.range (HR.out.below HR.out.lt BY2.out)) _ Try.underlying25 rfl (sizeAdL HD.out) ?_; rw [HC1.out]))
      refine (RW.out _ HB2.out).mono ?_
      rintro e w3 ⟨_, hno, hb3⟩
      rw [HE.out] at hno
      obtain rfl := hno H0.out
      have HB3 := Lib.hid (HB2.out.trans (hb3.mono HB2.out.size))
      have S1 := Lib.hid (same_any w3 0 0 (Rd.nil_ (w := w3) (B := w3.heap.size) none) (Rd.nil_ (w := w3) (B := w3.heap.size) none))
      clear hno hb3
      go_wp2_with fail
      refine S1.out.mono ?_
      rintro e w' ⟨rfl, rfl⟩
      go_wp2_with fail
      go_ret
      exact ⟨rfl, HB3.out⟩

theorem tunnelWraps_walks : WalksTrue 3 Try.f3 := by
  intro H enc W base args ds p hval hA
  rw [Try.params3] at hA hval
  obtain ⟨v0, vs0, d0, ds0, p0, q0, hargs, rfl, rfl, h0, r0⟩ := trodAll_cons hA
  obtain ⟨v1, vs1, d1, ds1, p1, q1, rfl, rfl, rfl, h1, r1⟩ := trodAll_cons r0
  obtain ⟨v2, vs2, d2, ds2, p2, q2, rfl, rfl, rfl, h2, r2⟩ := trodAll_cons r1
  obtain ⟨rfl, rfl, rfl⟩ := trodAll_nil r2
  obtain rfl : args = #[v0, v1, v2] := by cases args; simp_all
  obtain ⟨A0, len0, cap0, xs0, rfl, hc0, hm0, hI0⟩ := open_bytes (hval 0 22 v0 rfl rfl) h0
  obtain ⟨d1_, rfl, l1⟩ := open_ad (hval 1 25 v1 rfl rfl) h1
  obtain ⟨d2_, rfl, l2⟩ := open_ad (hval 2 25 v2 rfl rfl) h2
  exact tunnelWraps_walk A0 len0 cap0 xs0 hc0 hm0 d1_ l1 d2_ l2 W hI0

theorem tunnelWraps_said : Rows.TunnelWrapsSaid :=
  OpenClaim.holds_of_wide 3 Try.f3 rfl rfl rfl rfl rfl rfl rfl ⟨rfl, rfl, rfl, rfl, rfl⟩ rfl rfl rfl rfl rfl (by kernel_rfl) Try.func3 (by kernel_rfl)
    (of_decide_eq_true (by kernel_rfl)) (by unfold Func.isWrapper; first | (rw [if_pos (by decide +kernel)]; kernel_rfl) | (rw [if_neg (by decide +kernel)]; exact ⟨rfl, rfl⟩))
    (fun os started H enc _ => law_lift (s := Rows.tunnelWrapsSpec) Try.func3 (by kernel_rfl) rfl rfl (by intro H ds hd; match ds, hd with | [_, _, _], _ => exact ⟨rfl, rfl, rfl⟩) (by kernel_rfl) tunnelWraps_walks os started H enc
      (ChangeSpec.witness6 (enc := enc) (C := Try.checked) false ⟨#[], #[.slice none 0 0, .agg #[.bool false, .int .u8 0, .int .u8 0, .int .u8 0, .int .u8 0, .int .u8 0, .int .u8 0, .int .u8 0, .int .u8 0, .int .u8 0, .int .u8 0, .int .u8 0, .int .u8 0, .int .u8 0, .int .u8 0, .int .u8 0, .int .u8 0], .agg #[.bool false, .int .u8 0, .int .u8 0, .int .u8 0, .int .u8 0, .int .u8 0, .int .u8 0, .int .u8 0, .int .u8 0, .int .u8 0, .int .u8 0, .int .u8 0, .int .u8 0, .int .u8 0, .int .u8 0, .int .u8 0, .int .u8 0]], []⟩ 8 (by kernel_rfl) (by kernel_rfl) (by kernel_rfl) (by kernel_rfl)))

end Go.Proofs.Ytomkfcpellcncaa
