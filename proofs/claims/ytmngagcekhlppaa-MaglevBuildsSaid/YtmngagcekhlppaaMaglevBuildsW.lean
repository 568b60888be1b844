/-
  MaglevBuilds: its walk, the program's contracts a premise.
-/
import Derived.Test.YtmngagcekhlppaaVRight
import Derived.Deep.DeepCutAuto
namespace Go.Proofs.Ytmngagcekhlppaa
set_option maxRecDepth 100000
open Go.RowKit Go.Lib Go.ChangeShapes Go.WideShapes Go.ChangeAt

set_option maxHeartbeats 1000000 in
theorem rprime_low (z : Int) (h : z < 2) (w : World) : Calls Try.prog 13 #[.int .i64 z] w fun e w' => e = .returned (.bool false) ∧ w = w' := by
  go_enter Try.func13, Try.ntmps13
  go_wp2_with fail
  go_ret
  exact ⟨rfl, rfl⟩
theorem prime_low {z : Int} (h : z < 2) : primeB z.toNat = false := by
  apply Bool.eq_false_iff.2
  intro h2
  have := ((primeB_iff z.toNat).1 h2).1
  omega
theorem rprime_all (z : Int) (h : z ≤ 300) (w : World) : Calls Try.prog 13 #[.int .i64 z] w fun e w' => e = .returned (.bool (primeB z.toNat)) ∧ w = w' := by
  by_cases h2 : z < 2
  · rw [prime_low h2]
    exact rprime_low z h2 w
  · exact rprime_any z (by omega) (by omega) w
set_option maxHeartbeats 16000000 in
theorem maglevBuilds_walkW (S : MagC) (key : List UInt8) (hk : key.length = 16) (z : Int) (hz1 : -9223372036854775808 ≤ z) (hz2 : z ≤ 9223372036854775807) (A : Option Addr) (len cap : Nat) (xs : List Shr) (hc : len ≤ cap) (hm : cap ≤ maxLen) (hX : ∀ x, x ∈ xs → x.nm.length ≤ maxLen ∧ -9223372036854775808 ≤ x.q ∧ x.q ≤ 9223372036854775807) (hh : Nat) (hhh : hh < 18446744073709551616) (w : World) (hI : RdG eS w w.heap.size A len xs) :
    Calls Try.prog 3 #[keyC key, .int .i64 z, .slice A len cap, .int .u64 (hh : Int)] w fun e w' => e = .returned (.bool true) ∧ Below w.heap.size w w' := by
  have HXQ : Hid (∀ x, x ∈ xs → -9223372036854775808 ≤ x.q ∧ x.q ≤ 9223372036854775807) := Lib.hid (fun x hx => (hX x hx).2)
  have HHH := Lib.hid hhh
  have HZ1 := Lib.hid hz1
  have HZ2 := Lib.hid hz2
  obtain ⟨C0, hC0⟩ : ∃ C, (key.map v8).toArray = C := ⟨_, rfl⟩
  obtain ⟨Y, hY⟩ : ∃ Y, w.alloc (.cells C0 22) = Y := ⟨_, rfl⟩
  have HK0 := Lib.hid (show Blk Y 22 w.heap.size (key.map v8) by rw [← hY, ← hC0]; exact Blk_10.new w _ _)
  have HB0 := Lib.hid (show Below w.heap.size w Y by rw [← hY]; exact (Below.refl w.heap.size w).alloc (Nat.le_refl _) _)
  have HY := Lib.hid hY
  have HKE : Hid (keyC key = .agg C0) := Lib.hid (by rw [← hC0]; rfl)
  rw [HKE.out]
  have HKL := Lib.hid hk
  have HI := Lib.hid hI
  have HLE := Lib.hid hI.len
  have HCP := Lib.hid hc
  have HCM := Lib.hid hm
  have HAW := Lib.hid (fun W => awake_any S W)
  have HSS := Lib.hid S
  have hlb : len ≤ 9223372036854775807 := by unfold maxLen at hm; omega
  have HLB := Lib.hid hlb
  have HF0 : Hid (∀ W, Below w.heap.size w W → Calls Try.prog 11 #[.slice A len cap] W fun e w' => e = .returned (.bool (fewB xs)) ∧ w' = W) := Lib.hid (fun W hW => rfew_any cap HLB.out W (HI.out.below hW))
  have HM0 : Hid (∀ W, Below w.heap.size w W → Calls Try.prog 14 #[.slice A len cap] W fun e w' => e = .returned (.bool (mayB xs)) ∧ Below W.heap.size W w') := Lib.hid (fun W hW => rmay_any cap W (HI.out.below hW))
  clear hY hC0 hk hI hc hm hlb S hX hhh hz1 hz2
  obtain ⟨F, hF⟩ : ∃ F, fewB xs = F := ⟨_, rfl⟩
  rw [hF] at HF0
  have HFE := Lib.hid hF
  clear hF
  go_enter Try.func3, Try.ntmps3
  go_wp2_with fail
  rw [HY.out]
  refine (HAW.out Y).mono ?_
  rintro e W1 ⟨rfl, hb⟩
  have D1 := Lib.hid (HB0.out.trans (hb.mono HB0.out.size))
  have HK1 := Lib.hid (Blk_10.below HK0.out (Blk_10.lt HK0.out) hb)
  clear hb
  cases F
  · go_wp2_with ((with_reducible refine (HF0.out W1 D1.out).mono ?_); rintro e W2 ⟨rfl, rfl⟩)
    refine (HAW.out _).mono ?_
    rintro e W3 ⟨rfl, hb⟩
    go_wp2_with fail
    go_ret
    exact ⟨rfl, D1.out.trans (hb.mono D1.out.size)⟩
  · by_cases hz : 300 < z
    · go_wp2_with ((with_reducible refine (HF0.out W1 D1.out).mono ?_); rintro e W2 ⟨rfl, rfl⟩)
      refine (HAW.out _).mono ?_
      rintro e W3 ⟨rfl, hb⟩
      go_wp2_with fail
      go_ret
      exact ⟨rfl, D1.out.trans (hb.mono D1.out.size)⟩
    · have HN3 := Lib.hid (fewB_n HFE.out HLE.out)
      have HSH := Lib.hid (fewB_s HFE.out)
      have HIW : Hid (∀ W, Below w.heap.size w W → RdG eS W w.heap.size A len xs) := Lib.hid (fun W hW => HI.out.below hW)
      have HPR := Lib.hid (fun W => rprime_all z (by omega) W)
      by_cases hg : primeB z.toNat = true ∧ MayS xs
      · obtain ⟨hpr, hms⟩ := hg
        have hz0 : 0 ≤ z := by
          rcases Int.lt_or_le z 0 with h | h
          · rw [prime_low (by omega)] at hpr
            cases hpr
          · exact h
        obtain ⟨p, rfl⟩ := Int.eq_ofNat_of_zero_le hz0
        have HSZ : Hid (SizeN p) := Lib.hid ⟨hpr, by omega⟩
        have HMS := Lib.hid hms
        rw [(mayB_iff xs).2 hms] at HM0
        rw [hpr] at HPR
        obtain ⟨R, hR⟩ : ∃ R, riseL xs = R := ⟨_, rfl⟩
        have HR := Lib.hid hR
        have HFU := Lib.hid (show Full R by rw [← hR]; exact HMS.out.full)
        obtain ⟨N, hN⟩ : ∃ N, R.map Shr.nm = N := ⟨_, rfl⟩
        have HN := Lib.hid hN
        obtain ⟨L, hL⟩ : ∃ L, slotL key p R = L := ⟨_, rfl⟩
        have HL := Lib.hid hL
        have HNR : Hid (N.length = R.length) := Lib.hid (by rw [← hN, List.length_map])
        have HNL : Hid (N.length ≤ 30) := Lib.hid (by rw [HNR.out, ← hR]; exact rise_len HN3.out HLE.out)
        have HLL : Hid (L.length ≤ 65537) := Lib.hid (by rw [← hL]; exact slotL_most key HSZ.out R)
        have HRG : Hid (∀ x, x ∈ L → 0 ≤ x ∧ x < (N.length : Int)) := Lib.hid (fun x hx => by rw [← hL] at hx; rw [HNR.out]; exact slotL_range HFU.out key HSZ.out hx)
        have P1 : Hid (∀ W, Below w.heap.size w W → Calls Try.prog 12 #[.agg (key.map v8).toArray, .int .i64 (p : Int), .slice A len cap] W (BuildGave N L W)) := Lib.hid (fun W hW => build_gave HSS.out key HKL.out p HSZ.out A len cap xs HMS.out HN3.out HSH.out HCP.out HCM.out W _ hW.size (HIW.out W hW) N (by rw [HR.out, HN.out]) L (by rw [HR.out, HL.out]))
        have P2 : Hid (∀ W, Below w.heap.size w W → Calls Try.prog 16 #[.agg (key.map v8).toArray, .int .i64 (p : Int), .slice A len cap] W fun e W' => ∃ A1 c1 A2 c2, e = .returned (.agg #[.slice A1 N.length c1, .slice A2 L.length c2]) ∧ OwnG eN W' W.heap.size (.slice A1 N.length c1) N ∧ OwnG eZ W' W.heap.size (.slice A2 L.length c2) L ∧ Below W.heap.size W W') := Lib.hid (fun W hW => by
          refine (rbuild_any key HKL.out HSZ.out cap HMS.out HSH.out W hW.size (HIW.out W hW)).mono ?_
          rintro e W' ⟨nv, sv, he, h1, h2, hb⟩
          rw [HR.out, HN.out] at h1
          rw [HR.out, HL.out] at h2
          obtain ⟨A1, m1, c1, rfl, e1, _⟩ := h1.sl
          obtain ⟨A2, m2, c2, rfl, e2, _⟩ := h2.sl
          subst m1 m2
          exact ⟨A1, c1, A2, c2, he, h1, h2, hb⟩)
        obtain ⟨sp, hsp⟩ : ∃ s, pickS N L hh = s := ⟨_, rfl⟩
        have HSP := Lib.hid hsp
        obtain ⟨bp, hbp⟩ : ∃ b, decide (0 < L.length) = b := ⟨_, rfl⟩
        have HBP := Lib.hid hbp
        clear hpr hms hz0 hR hN hL hsp hbp
        go_wp2_with (first
          | ((with_reducible refine (HF0.out W1 D1.out).mono ?_); rintro e W2' ⟨rfl, rfl⟩)
          | ((with_reducible show wpList _ _ _ (⟨some 29, _, _, _, _, _⟩ :: _) _ _); refine wpList_loadM (op := ⟨some 29, _, _, _, _, _⟩) 22 _ rfl (by rfl) w.heap.size 0 (by rfl) (key.map v8) (Blk_10.range HK1.out) _ Try.underlying22 rfl (keyp_size HKL.out) ?_)
          | ((with_reducible refine (P1.out _ D1.out).mono ?_); rintro e W2 ⟨A1, c1, A2, c2, rfl, k1, k2, k3, k4, ho1, ho2, hb⟩; have HO1 := Lib.hid ho1; have HO2 := Lib.hid ho2; have HB2 := Lib.hid hb; have KA := Lib.hid k1; have KB := Lib.hid k2; have KC := Lib.hid k3; have KD := Lib.hid k4; clear ho1 ho2 hb k1 k2 k3 k4)
          | (go_at_call 13; obtain ⟨Z2, hZ2⟩ : ∃ Z, W2.alloc (.cells #[.slice A1 N.length c1, .slice A2 L.length c2] 30) = Z := ⟨_, rfl⟩; rw [hZ2]; have HZ2 := Lib.hid hZ2; clear hZ2; have HT2 : Hid (Blk Z2 30 W2.heap.size [.slice A1 N.length c1, .slice A2 L.length c2]) := Lib.hid (by rw [← HZ2.out]; exact tbl_new _ _ _); have D2 : Hid (Below w.heap.size w Z2) := Lib.hid (by have h9 := below_zed HB2.out HZ2.out; exact D1.out.trans (h9.mono D1.out.size)); have HK2 := Lib.hid (Blk_10.below HK1.out (Blk_10.lt HK1.out) (below_zed HB2.out HZ2.out)); have HO1z : Hid (OwnG eN Z2 w.heap.size (.slice A1 N.length c1) N) := Lib.hid (by rw [← HZ2.out]; exact (HO1.out.alloc _).base_le D1.out.size); have HO2z : Hid (OwnG eZ Z2 w.heap.size (.slice A2 L.length c2) L) := Lib.hid (by rw [← HZ2.out]; exact (HO2.out.alloc _).base_le D1.out.size); refine (HPR.out Z2).mono ?_; rintro e W3 ⟨rfl, rfl⟩)
          | ((with_reducible refine (HM0.out Z2 D2.out).mono ?_); rintro e W4 ⟨rfl, hb⟩; have E4 := Lib.hid hb; have HK4 := Lib.hid (Blk_10.below HK2.out (Blk_10.lt HK2.out) hb); clear hb)
          | ((with_reducible show wpList _ _ _ (⟨some 50, _, _, _, _, _⟩ :: _) _ _); refine wpList_loadM (op := ⟨some 50, _, _, _, _, _⟩) 22 _ rfl (by rfl) w.heap.size 0 (by rfl) (key.map v8) (Blk_10.range HK4.out) _ Try.underlying22 rfl (keyp_size HKL.out) ?_)
          | ((with_reducible refine (P2.out W4 (D2.out.trans (E4.out.mono D2.out.size))).mono ?_); rintro e W5 ⟨A3, c3, A4, c4, rfl, ho3, ho4, hb⟩; have HO3 := Lib.hid ho3; have HO4 := Lib.hid ho4; have E5 := Lib.hid (E4.out.trans (hb.mono E4.out.size)); clear ho3 ho4 hb; have E5z := Lib.hid (E5.out.alloc E5.out.size (.cells #[.slice A3 N.length c3, .slice A4 L.length c4] 30)); have HT2' := Lib.hid (Blk_10.below HT2.out (Blk_10.lt HT2.out) E5z.out); have HT5 := Lib.hid (tbl_new W5 (.slice A3 N.length c3) (.slice A4 L.length c4)); have a1 : (W5.alloc (.cells #[.slice A3 N.length c3, .slice A4 L.length c4] 30)).cell? ⟨W2.heap.size, 0, none⟩ = some (.slice A1 N.length c1) := Blk_10.cell HT2'.out rfl; have b1 : (W5.alloc (.cells #[.slice A3 N.length c3, .slice A4 L.length c4] 30)).cell? ⟨W2.heap.size, 1, none⟩ = some (.slice A2 L.length c2) := Blk_10.cell HT2'.out rfl; have a2 : (W5.alloc (.cells #[.slice A3 N.length c3, .slice A4 L.length c4] 30)).cell? ⟨W5.heap.size, 0, none⟩ = some (.slice A3 N.length c3) := Blk_10.cell HT5.out rfl; have b2 : (W5.alloc (.cells #[.slice A3 N.length c3, .slice A4 L.length c4] 30)).cell? ⟨W5.heap.size, 1, none⟩ = some (.slice A4 L.length c4) := Blk_10.cell HT5.out rfl)
          | (go_at_call 15; clear a1 b1 a2 b2; obtain ⟨Z5, hZ5⟩ : ∃ Z, W5.alloc (.cells #[.slice A3 N.length c3, .slice A4 L.length c4] 30) = Z := ⟨_, rfl⟩; rw [hZ5]; have HZ5 := Lib.hid hZ5; clear hZ5; have E6 : Hid (Below Z2.heap.size Z2 Z5) := Lib.hid (below_zed E5.out HZ5.out); have HT5z : Hid (Blk Z5 30 W5.heap.size [.slice A3 N.length c3, .slice A4 L.length c4]) := Lib.hid (by rw [← HZ5.out]; exact HT5.out); have h3 : OwnG eN Z5 W4.heap.size (.slice A3 N.length c3) N := (by rw [← HZ5.out]; exact HO3.out.alloc _); have h4 : OwnG eZ Z5 W4.heap.size (.slice A4 L.length c4) L := (by rw [← HZ5.out]; exact HO4.out.alloc _); refine (same_tbl HNL.out HLL.out (HO1z.out.below E6.out) (HO2z.out.below E6.out) h3 h4).mono ?_; rintro e W7 ⟨rfl, hb⟩; have HO3z := Lib.hid (h3.below hb); have HO4z := Lib.hid (h4.below hb); have E7 := Lib.hid (E6.out.trans (hb.mono E6.out.size)); have HT5y := Lib.hid (Blk_10.below HT5z.out (Blk_10.lt HT5z.out) hb); have HT2y := Lib.hid (Blk_10.below HT2.out (Blk_10.lt HT2.out) E7.out); clear hb h3 h4; have a3 : W7.cell? ⟨W2.heap.size, 0, none⟩ = some (.slice A1 N.length c1) := Blk_10.cell HT2y.out rfl; have b3 : W7.cell? ⟨W2.heap.size, 1, none⟩ = some (.slice A2 L.length c2) := Blk_10.cell HT2y.out rfl)
          | (go_at_call 17; clear a3 b3; have hp : Calls Try.prog 17 #[.agg #[.slice A1 N.length c1, .slice A2 L.length c2], .int .u64 (hh : Int)] W7 fun e w' => e = .returned (.tuple #[.string ⟨sp.toArray⟩, .bool bp]) ∧ Below W7.heap.size W7 w' := (by have h9 := HSS.out.pick A1 A2 N.length c1 L.length c2 N L (Nat.le_trans HNL.out (by decide)) HLL.out KA.out KB.out KC.out KD.out HRG.out hh HHH.out W7 _ _ (Nat.le_refl _) (Nat.le_refl _) (HO1z.out.below E7.out).rd (HO2z.out.below E7.out).rd; rw [HSP.out, HBP.out] at h9; exact h9); refine hp.mono ?_; rintro e W8 ⟨rfl, hb⟩; clear hp; have E8 := Lib.hid (E7.out.trans (hb.mono E7.out.size)); have HO3x := Lib.hid (HO3z.out.below hb); have HO4x := Lib.hid (HO4z.out.below hb); have HT5x := Lib.hid (Blk_10.below HT5y.out (Blk_10.lt HT5y.out) hb); clear hb; have a4 : W8.cell? ⟨W5.heap.size, 0, none⟩ = some (.slice A3 N.length c3) := Blk_10.cell HT5x.out rfl; have b4 : W8.cell? ⟨W5.heap.size, 1, none⟩ = some (.slice A4 L.length c4) := Blk_10.cell HT5x.out rfl)
          | (go_at_call 18; clear a4 b4; have hp : Calls Try.prog 18 #[.agg #[.slice A3 N.length c3, .slice A4 L.length c4], .int .u64 (hh : Int)] W8 fun e w' => e = .returned (.tuple #[.string ⟨sp.toArray⟩, .bool bp]) ∧ Below W8.heap.size W8 w' := (by have h9 := rpick_any c3 c4 (Nat.le_trans HLL.out (by decide)) W8 (Nat.le_refl _) (Nat.le_refl _) HO3x.out.rd HO4x.out.rd HRG.out hh HHH.out; rw [HSP.out, HBP.out] at h9; exact h9); refine hp.mono ?_; rintro e W9 ⟨rfl, hb⟩; clear hp; have E9 := Lib.hid (E8.out.trans (hb.mono E8.out.size)); clear hb))
        go_ret
        exact ⟨rfl, D2.out.trans (E9.out.mono D2.out.size)⟩
      · have HNO : Hid (¬ (0 ≤ z ∧ SizeN z.toNat) ∨ ¬ MayS xs) := Lib.hid (by
          by_cases h : primeB z.toNat = true
          · exact .inr fun h2 => hg ⟨h, h2⟩
          · exact .inl fun h2 => h h2.2.prime)
        have P1 : Hid (∀ W, Below w.heap.size w W → Calls Try.prog 12 #[.agg (key.map v8).toArray, .int .i64 z, .slice A len cap] W fun e W' => e = .returned (.tuple #[.agg #[.slice none 0 0, .slice none 0 0], .int .i64 1]) ∧ Below W.heap.size W W') := Lib.hid (fun W hW => HSS.out.none_ key HKL.out z HZ1.out HZ2.out A len cap xs HN3.out HSH.out HXQ.out HCP.out HCM.out HNO.out W _ hW.size (HIW.out W hW))
        have HSM : Hid (∀ W : World, Calls Try.prog 15 #[.agg #[.slice none 0 0, .slice none 0 0], .agg #[.slice none 0 0, .slice none 0 0]] W fun e w' => e = .returned (.bool true) ∧ Below W.heap.size W w') := Lib.hid (fun W => same_tbl (N := []) (L := []) (B1 := 0) (B2 := 0) (B3 := 0) (B4 := 0) (by decide) (by decide) (OwnG.nil_ eN W 0) (OwnG.nil_ eZ W 0) (OwnG.nil_ eN W 0) (OwnG.nil_ eZ W 0))
        obtain ⟨bz, hbz⟩ : ∃ b, primeB z.toNat = b := ⟨_, rfl⟩
        rw [hbz] at HPR hg
        cases bz
        · clear hg
          go_wp2_with (first
            | ((with_reducible refine (HF0.out W1 D1.out).mono ?_); rintro e W2' ⟨rfl, rfl⟩)
            | ((with_reducible show wpList _ _ _ (⟨some 29, _, _, _, _, _⟩ :: _) _ _); refine wpList_loadM (op := ⟨some 29, _, _, _, _, _⟩) 22 _ rfl (by rfl) w.heap.size 0 (by rfl) (key.map v8) (Blk_10.range HK1.out) _ Try.underlying22 rfl (keyp_size HKL.out) ?_)
            | ((with_reducible refine (P1.out _ D1.out).mono ?_); rintro e W2 ⟨rfl, hb⟩; have D2 := Lib.hid (D1.out.trans (hb.mono D1.out.size)); clear hb)
            | (go_at_call 13; obtain ⟨Z2, hZ2⟩ : ∃ Z, W2.alloc (.cells #[.slice none 0 0, .slice none 0 0] 30) = Z := ⟨_, rfl⟩; rw [hZ2]; have HZ2 := Lib.hid hZ2; clear hZ2; have HT2 : Hid (Blk Z2 30 W2.heap.size [.slice none 0 0, .slice none 0 0]) := Lib.hid (by rw [← HZ2.out]; exact tbl_new _ _ _); have D3 : Hid (Below w.heap.size w Z2) := Lib.hid (below_zed D2.out HZ2.out); refine (HPR.out Z2).mono ?_; rintro e W3 ⟨rfl, rfl⟩; have a1 : Z2.cell? ⟨W2.heap.size, 0, none⟩ = some (.slice none 0 0) := Blk_10.cell HT2.out rfl; have b1 : Z2.cell? ⟨W2.heap.size, 1, none⟩ = some (.slice none 0 0) := Blk_10.cell HT2.out rfl)
            | ((with_reducible refine (HSM.out Z2).mono ?_); rintro e W5 ⟨rfl, hb⟩; have D5 := Lib.hid (D3.out.trans (hb.mono D3.out.size)); clear hb))
          go_ret
          exact ⟨rfl, D5.out⟩
        · have hmb := mayB_no (fun h => hg ⟨rfl, h⟩)
          rw [hmb] at HM0
          clear hg hmb
          go_wp2_with (first
            | ((with_reducible refine (HF0.out W1 D1.out).mono ?_); rintro e W2' ⟨rfl, rfl⟩)
            | ((with_reducible show wpList _ _ _ (⟨some 29, _, _, _, _, _⟩ :: _) _ _); refine wpList_loadM (op := ⟨some 29, _, _, _, _, _⟩) 22 _ rfl (by rfl) w.heap.size 0 (by rfl) (key.map v8) (Blk_10.range HK1.out) _ Try.underlying22 rfl (keyp_size HKL.out) ?_)
            | ((with_reducible refine (P1.out _ D1.out).mono ?_); rintro e W2 ⟨rfl, hb⟩; have D2 := Lib.hid (D1.out.trans (hb.mono D1.out.size)); clear hb)
            | (go_at_call 13; obtain ⟨Z2, hZ2⟩ : ∃ Z, W2.alloc (.cells #[.slice none 0 0, .slice none 0 0] 30) = Z := ⟨_, rfl⟩; rw [hZ2]; have HZ2 := Lib.hid hZ2; clear hZ2; have HT2 : Hid (Blk Z2 30 W2.heap.size [.slice none 0 0, .slice none 0 0]) := Lib.hid (by rw [← HZ2.out]; exact tbl_new _ _ _); have D3 : Hid (Below w.heap.size w Z2) := Lib.hid (below_zed D2.out HZ2.out); refine (HPR.out Z2).mono ?_; rintro e W3 ⟨rfl, rfl⟩)
            | ((with_reducible refine (HM0.out Z2 D3.out).mono ?_); rintro e W4 ⟨rfl, hb⟩; have D4 := Lib.hid (D3.out.trans (hb.mono D3.out.size)); have HT4 := Lib.hid (Blk_10.below HT2.out (Blk_10.lt HT2.out) hb); clear hb; have a1 : W4.cell? ⟨W2.heap.size, 0, none⟩ = some (.slice none 0 0) := Blk_10.cell HT4.out rfl; have b1 : W4.cell? ⟨W2.heap.size, 1, none⟩ = some (.slice none 0 0) := Blk_10.cell HT4.out rfl)
            | ((with_reducible refine (HSM.out W4).mono ?_); rintro e W5 ⟨rfl, hb⟩; have D5 := Lib.hid (D4.out.trans (hb.mono D4.out.size)); clear hb))
          go_ret
          exact ⟨rfl, D5.out⟩
end Go.Proofs.Ytmngagcekhlppaa
