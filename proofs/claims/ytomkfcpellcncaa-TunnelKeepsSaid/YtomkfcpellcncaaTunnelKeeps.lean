/-
  PROVED HERE: 'TunnelKeepsSaid': whatever bytes frame and addresses src and dst are, the Go function TunnelKeeps of package wayleavelaw13 returns true, and its arguments read behind the call as they read before. No condition.
-/
import Derived.Test.YtomkfcpellcncaaTSup
import Derived.Test.YtomkfcpellcncaaTAwake
import Derived.Test.YtomkfcpellcncaaTRWrap
namespace Go.Proofs.Ytomkfcpellcncaa
set_option maxRecDepth 100000
open Go.RowKit Go.Lib Go.ChangeShapes Go.WideShapes Go.ChangeAt

set_option maxHeartbeats 16000000 in
theorem tunnelKeeps_walk (A : Option Addr) (len cap : Nat) (xs : List UInt8) (hca : len ≤ cap) (hma : cap ≤ maxLen) (s : Ad) (hs : s.b.length = 16) (d : Ad) (hd : d.b.length = 16) (w : World) (hI : Rd w w.heap.size A len xs) :
    Calls Try.prog 8 #[.slice A len cap, adC s, adC d] w fun e w' => e = .returned (.bool true) ∧ Below w.heap.size w w' := by
  have hml : len ≤ 9223372036854775807 := by unfold maxLen at hma; omega
  obtain ⟨Y, hY, hq, hr, hbel⟩ := box_ads w s d
  have HXL := Lib.hid hI.len
  have HRX := Lib.hid (fun W (hB : Below w.heap.size w W) => (hI.below hB).more hB.size)
  have HCA := Lib.hid hca
  have HMA := Lib.hid hma
  have HS := Lib.hid hs
  have HD := Lib.hid hd
  have HQ := Lib.hid hq
  have HR := Lib.hid hr
  have HB := Lib.hid hbel
  obtain ⟨C0, hC0⟩ : ∃ C, (adL s).toArray = C := ⟨_, rfl⟩
  obtain ⟨C1, hC1⟩ : ∃ C, (adL d).toArray = C := ⟨_, rfl⟩
  have E0 := Lib.hid (show adC s = .agg C0 by rw [← hC0]; rfl)
  have E1 := Lib.hid (show adC d = .agg C1 by rw [← hC1]; rfl)
  rw [E0.out, E1.out]
  rw [hC0, hC1] at hY
  have HC0 := Lib.hid hC0
  have HC1 := Lib.hid hC1
  have HY := Lib.hid hY
  clear hI hY hq hr hbel hC0 hC1 hs hd hca
  go_enter Try.func8, Try.ntmps8
  go_wp2_with fail
  rw [HY.out]
  refine (awake_any _).mono ?_
  rintro e w1 ⟨rfl, hb1⟩
  have BY1 := Lib.hid hb1
  have HB1 := Lib.hid (HB.out.trans (hb1.mono HB.out.size))
  clear hb1
  by_cases hn : 3000 < len
  · have hn' : (3000 : Int) < (len : Int) := by omega
    have hnb : decide ((3000 : Int) < (len : Int)) = true := decide_eq_true hn'
    clear hn
    go_wp2_with fail
    refine (awake_any _).mono ?_
    rintro e w2 ⟨rfl, hb2⟩
    go_wp2_with fail
    go_ret
    exact ⟨rfl, HB1.out.trans (hb2.mono HB1.out.size)⟩
  · have hn' : ¬ (3000 : Int) < (len : Int) := by omega
    have hnb : decide ((3000 : Int) < (len : Int)) = false := decide_eq_false hn'
    have HN1 := Lib.hid (show len ≤ 3000 by omega)
    clear hn
    have RW := Lib.hid (fun W (h : Below w.heap.size w W) => E1.out ▸ E0.out ▸ rwrap_any A len cap xs HS.out HD.out (by have := HN1.out; omega) HCA.out W (HRX.out W h))
    obtain ⟨E, hE⟩ : ∃ E, wrapE xs s d = E := ⟨_, rfl⟩
    have HE := Lib.hid hE
    clear hE
    have HE1 := Lib.hid (empty8 (base := w1.heap.size) w1 (Nat.le_refl _))
    have HX1 := Lib.hid (HRX.out w1 HB1.out)
    have LA := Lib.hid (show ([] : List UInt8).length + len ≤ 2000000000 by have := HN1.out; rw [List.length_nil]; omega)
    go_wp2_with (first
      | ((with_reducible show wpList _ _ _ (⟨some 23, _, _, _, _, _⟩ :: _) _ _); refine wpList_append8 (o := ⟨some 23, _, _, _, _, _⟩) rfl _ _ rfl w1.heap.size _ [] (by rfl) HE1.out _ A len cap xs (by rfl) (HX1.out.alloc (Nat.le_refl _) _) LA.out (by simp) ?_; intro v2 w2 ho2 hg2 hq2; clear hq2; rw [List.nil_append] at ho2; have e2 : Below w1.heap.size w1 w2 := ((Below.refl _ w1).alloc (Nat.le_refl _) (.cells #[] 5)).grown hg2 (by simp) HE1.out.lt; have BY2 := Lib.hid (BY1.out.trans (e2.mono BY1.out.size)); have HB2 := Lib.hid (HB.out.trans (BY2.out.mono HB.out.size)); obtain ⟨A2, c2, e2v, hc2, hm2, _, hA2⟩ := own_rdG ho2 HXL.out; subst e2v; have HG2 := Lib.hid hA2; have HO2 := Lib.hid ho2; clear ho2 hg2 e2 hA2)
      | ((with_reducible show wpList _ _ _ (⟨some 26, _, _, _, _, _⟩ :: _) _ _); refine wpList_loadM (op := ⟨some 26, _, _, _, _, _⟩) 25 _ rfl (by rfl) w.heap.size 0 (by rfl) (adL s) (Blk_10.range (HQ.out.below HQ.out.lt BY2.out)) _ Try.underlying25 rfl (sizeAdL HS.out) ?_; rw [HC0.out])
      | ((with_reducible show wpList _ _ _ (⟨some 27, _, _, _, _, _⟩ :: _) _ _); refine wpList_loadM (op := ⟨some 27, _, _, _, _, _⟩) 25 _ rfl (by rfl) (w.heap.size + 1) 0 (by rfl) (adL d) (Blk_10.range (HR.out.below HR.out.lt BY2.out)) _ Try.underlying25 rfl (sizeAdL HD.out) ?_; rw [HC1.out]))
    have TO := Lib.hid (E1.out ▸ E0.out ▸ twrap_any A2 len c2 xs HS.out HD.out (by have := HN1.out; omega) hc2 hm2 w2 (HO2.out.rdN HXL.out).2.2)
    refine TO.out.mono ?_
    rintro e w3 ⟨hyes, hno, hb3⟩
    rw [HE.out] at hyes hno
    have BY3 := Lib.hid (BY2.out.trans (hb3.mono BY2.out.size))
    have HB3 := Lib.hid (HB2.out.trans (hb3.mono HB2.out.size))
    have HO3 := Lib.hid (HO2.out.below hb3)
    have HLT3 := Lib.hid (fun g hg => own_lt HO2.out (HO2.out.rdN HXL.out).2.2 g hg)
    obtain ⟨v3, hev, hyy⟩ : ∃ (v : Value), e = .returned (.tuple #[v, .int .i64 (E : Int)]) ∧ (E = 0 → Own8 w3 w2.heap.size v (wrapL xs s d)) := by
      by_cases hc : E = 0
      · obtain ⟨v, e1, e2⟩ := hyes hc
        exact ⟨v, by rw [e1, hc]; rfl, fun _ => e2⟩
      · exact ⟨_, hno hc, fun h => absurd h hc⟩
    subst hev
    have HYY := Lib.hid hyy
    have UO := Lib.hid (tunw_any A2 len c2 xs (by have := HN1.out; omega) hc2 hm2 w3 (HO3.out.rdN HXL.out).2.2)
    clear hno hyes hyy hb3 TO hc2 hm2
    go_wp2_with fail
    refine UO.out.mono ?_
    rintro e w4 ⟨hyes, hno, hb4⟩
    have BY4 := Lib.hid (BY3.out.trans (hb4.mono BY3.out.size))
    have HB4 := Lib.hid (HB3.out.trans (hb4.mono HB3.out.size))
    have HO4 := Lib.hid (HO3.out.below hb4)
    have HYY4 := Lib.hid (fun h => (HYY.out h).below hb4)
    obtain ⟨vv, hev⟩ : ∃ v : Value, e = .returned v := by
      cases hc : unB xs with
      | false => exact ⟨_, hno hc⟩
      | true =>
        obtain ⟨v, e1, _⟩ := hyes hc
        exact ⟨_, e1⟩
    subst hev
    have S1 := Lib.hid (same_any w4 c2 cap (HO4.out.rdN HXL.out).2.2 (HRX.out w4 HB4.out))
    clear hno hyes hb4 UO HYY
    go_wp2_with fail
    refine S1.out.mono ?_
    rintro e w' ⟨rfl, rfl⟩
    go_wp2_with fail
    clear hn' hnb
    go_loopw [10] (fun i wr => ∃ (k : Nat) (cur : List UInt8), k ≤ len ∧ i = .int .i64 (k : Int) ∧ cur.length = len ∧ Own8 wr w1.heap.size (.slice A2 len c2) cur ∧ w4.grownBy wr (Value.slice A2 len c2).ownBlock) (fun i _ => len - (intOf i).toNat)
    case atStart => exact ⟨0, _, by omega, rfl, HXL.out, HO4.out, World.grownBy.refl _ _⟩
    case round =>
      obtain ⟨k, cur, hk, rfl, hcl, hown, hgr⟩ := hrel
      by_cases hlt : k < len
      · have hlt' : (k : Int) < (len : Int) := by omega
        obtain ⟨g, rfl, hgb⟩ := HG2.out (by omega)
        obtain ⟨x, hx⟩ : ∃ x, cur[k]? = some x := ⟨_, List.getElem?_eq_getElem (by omega)⟩
        have hcell := hown.byte hx
        have hxor : bits .xor .u8 (x.toNat : Int) 255 = ((x ^^^ 255).toNat : Int) := xor8 x 255
        have HW := Lib.hid hown
        have HCL := Lib.hid hcl
        have HGR := Lib.hid hgr
        clear hx hown hgr hcl
        go_wp2_with (((with_reducible show wpList _ _ _ (⟨none, .store 5 (.tmp 50) _, _, _, _, _⟩ :: _) _ _); refine wpList_storeOG rfl (.tmp 50) _ rfl g k (by rfl) (x ^^^ 255) ((x ^^^ 255).toNat : Int) rfl (by rfl) cur len c2 w1.heap.size HCL.out HW.out hlt ?_; intro wk hok hgk; have HW2 := Lib.hid hok; have HCL2 := Lib.hid (show (cur.set k (x ^^^ 255)).length = len by rw [List.length_set]; exact HCL.out); have HGR2 := Lib.hid (World.grownBy.trans HGR.out hgk); clear hok hgk))
        go_roundw
        case rel => exact ⟨k + 1, _, by omega, by go_num, HCL2.out, HW2.out, HGR2.out⟩
        case measure => simp [intOf]; omega
      · obtain rfl : k = len := by omega
        have hrow : ∀ g, (Value.slice A2 k c2).ownBlock = some g → w1.heap.size ≤ g ∧ g < w2.heap.size := fun g e => ⟨HO2.out.lt g e, HLT3.out g e⟩
        have BYr := Lib.hid (BY4.out.grown hgr BY4.out.size (fun g hg => Nat.le_trans BY1.out.size (hrow g hg).1))
        have HBr := Lib.hid (HB.out.trans (BYr.out.mono HB.out.size))
        have HVr := Lib.hid (fun h => (HYY4.out h).kept hgr (by
          cases hu : v3.ownBlock with
          | none => exact .inl rfl
          | some g => exact .inr (fun e => by have := ((HYY4.out h).lt g hu); have := (hrow g e.symm).2; omega)))
        clear hgr hown hlt hk hcl hrow
        go_wp2_with (first
          | ((with_reducible show wpList _ _ _ (⟨some 53, _, _, _, _, _⟩ :: _) _ _); refine wpList_loadM (op := ⟨some 53, _, _, _, _, _⟩) 25 _ rfl (by rfl) w.heap.size 0 (by rfl) (adL s) (Blk_10.range (HQ.out.below HQ.out.lt BYr.out)) _ Try.underlying25 rfl (sizeAdL HS.out) ?_; rw [HC0.out])
          | ((with_reducible show wpList _ _ _ (⟨some 54, _, _, _, _, _⟩ :: _) _ _); refine wpList_loadM (op := ⟨some 54, _, _, _, _, _⟩) 25 _ rfl (by rfl) (w.heap.size + 1) 0 (by rfl) (adL d) (Blk_10.range (HR.out.below HR.out.lt BYr.out)) _ Try.underlying25 rfl (sizeAdL HD.out) ?_; rw [HC1.out]))
        refine (RW.out _ HBr.out).mono ?_
        rintro e w6 ⟨hyes, hno, hb6⟩
        rw [HE.out] at hyes hno
        have HB6 := Lib.hid (HBr.out.trans (hb6.mono HBr.out.size))
        by_cases h0 : E = 0
        · obtain ⟨v, rfl, ho⟩ := hyes h0
          have h3 := HVr.out h0
          obtain ⟨L1, hL1⟩ : ∃ q, (wrapL xs s d).length = q := ⟨_, rfl⟩
          obtain ⟨Ax, cx, rfl, _, _, _⟩ := h3.formN hL1
          obtain ⟨Ay, cy, rfl, _, _, hyr⟩ := ho.formN hL1
          have S2 := Lib.hid (same_any w6 cx cy ((h3.below hb6).rdN hL1).2.2 hyr)
          subst h0
          clear hno hyes hb6 h3 ho hL1 hyr
          go_wp2_with fail
          refine S2.out.mono ?_
          rintro e w' ⟨rfl, rfl⟩
          go_wp2_with fail
          go_ret
          exact ⟨rfl, HB6.out⟩
        · obtain rfl := hno h0
          have bE : ((E : Int) == 0) = false := beq_eq_false_iff_ne.2 (by omega)
          have bE2 : (E == 0) = false := beq_eq_false_iff_ne.2 h0
          have bE3 : ((E : Int) != 0) = true := by simp; omega
          clear hno hyes hb6 h0
          go_wp2_with fail
          go_ret
          exact ⟨rfl, HB6.out⟩

theorem tunnelKeeps_walks : WalksTrue 8 Try.f8 := by
  intro H enc W base args ds p hval hA
  rw [Try.params8] at hA hval
  obtain ⟨v0, vs0, d0, ds0, p0, q0, hargs, rfl, rfl, h0, r0⟩ := trodAll_cons hA
  obtain ⟨v1, vs1, d1, ds1, p1, q1, rfl, rfl, rfl, h1, r1⟩ := trodAll_cons r0
  obtain ⟨v2, vs2, d2, ds2, p2, q2, rfl, rfl, rfl, h2, r2⟩ := trodAll_cons r1
  obtain ⟨rfl, rfl, rfl⟩ := trodAll_nil r2
  obtain rfl : args = #[v0, v1, v2] := by cases args; simp_all
  obtain ⟨A0, len0, cap0, xs0, rfl, hc0, hm0, hI0⟩ := open_bytes (hval 0 22 v0 rfl rfl) h0
  obtain ⟨d1_, rfl, l1⟩ := open_ad (hval 1 25 v1 rfl rfl) h1
  obtain ⟨d2_, rfl, l2⟩ := open_ad (hval 2 25 v2 rfl rfl) h2
  exact tunnelKeeps_walk A0 len0 cap0 xs0 hc0 hm0 d1_ l1 d2_ l2 W hI0

theorem tunnelKeeps_said : Rows.TunnelKeepsSaid :=
  OpenClaim.holds_of_wide 8 Try.f8 rfl rfl rfl rfl rfl rfl rfl ⟨rfl, rfl, rfl, rfl, rfl⟩ rfl rfl rfl rfl rfl (by kernel_rfl) Try.func8 (by kernel_rfl)
    (of_decide_eq_true (by kernel_rfl)) (by unfold Func.isWrapper; first | (rw [if_pos (by decide +kernel)]; kernel_rfl) | (rw [if_neg (by decide +kernel)]; exact ⟨rfl, rfl⟩))
    (fun os started H enc _ => law_lift (s := Rows.tunnelKeepsSpec) Try.func8 (by kernel_rfl) rfl rfl (by intro H ds hd; match ds, hd with | [_, _, _], _ => exact ⟨rfl, rfl, rfl⟩) (by kernel_rfl) tunnelKeeps_walks os started H enc
      (ChangeSpec.witness6 (enc := enc) (C := Try.checked) false ⟨#[], #[.slice none 0 0, .agg #[.bool false, .int .u8 0, .int .u8 0, .int .u8 0, .int .u8 0, .int .u8 0, .int .u8 0, .int .u8 0, .int .u8 0, .int .u8 0, .int .u8 0, .int .u8 0, .int .u8 0, .int .u8 0, .int .u8 0, .int .u8 0, .int .u8 0], .agg #[.bool false, .int .u8 0, .int .u8 0, .int .u8 0, .int .u8 0, .int .u8 0, .int .u8 0, .int .u8 0, .int .u8 0, .int .u8 0, .int .u8 0, .int .u8 0, .int .u8 0, .int .u8 0, .int .u8 0, .int .u8 0, .int .u8 0]], []⟩ 8 (by kernel_rfl) (by kernel_rfl) (by kernel_rfl) (by kernel_rfl)))

end Go.Proofs.Ytomkfcpellcncaa
