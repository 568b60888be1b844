/-
  MaglevShares: its walk, the program's contracts a premise.
-/
import Derived.Test.YtmngagcekhlppaaVRight
import Derived.Deep.DeepCutAuto
namespace Go.Proofs.Ytmngagcekhlppaa
set_option maxRecDepth 100000
open Go.RowKit Go.Lib Go.ChangeShapes Go.WideShapes Go.ChangeAt

theorem tb_q {key : List UInt8} {p : Nat} {R : List Shr} (h : Full R) {j : Nat} {x : Shr} (hx : R[j]? = some x) : x.q = (((tbOf key p R).q j : Nat) : Int) := by
  have h9 := (h.qu x (List.mem_of_getElem? hx)).1
  show x.q = ((atS R j).q.toNat : Int)
  rw [atS_eq hx]
  omega
theorem tb_G (key : List UInt8) (p : Nat) (R : List Shr) : bestL R = (((tbOf key p R).G : Nat) : Int) := by
  have h9 := bestL_pos R
  show bestL R = ((bestL R).toNat : Int)
  omega
set_option maxHeartbeats 16000000 in
theorem maglevShares_walkW (S : MagC) (key : List UInt8) (hk : key.length = 16) (n : Nat) (hn : n < 256) (A : Option Addr) (len cap : Nat) (xs : List Shr) (hc : len ≤ cap) (hm : cap ≤ maxLen) (_hX : ∀ x, x ∈ xs → x.nm.length ≤ maxLen ∧ -9223372036854775808 ≤ x.q ∧ x.q ≤ 9223372036854775807) (w : World) (hI : RdG eS w w.heap.size A len xs) :
    Calls Try.prog 5 #[keyC key, .int .u8 (n : Int), .slice A len cap] w fun e w' => e = .returned (.bool true) ∧ Below w.heap.size w w' := by
  obtain ⟨C0, hC0⟩ : ∃ C, (key.map v8).toArray = C := ⟨_, rfl⟩
  obtain ⟨Y, hY⟩ : ∃ Y, w.alloc (.cells C0 22) = Y := ⟨_, rfl⟩
  have HK0 := Lib.hid (show Blk Y 22 w.heap.size (key.map v8) by rw [← hY, ← hC0]; exact Blk_10.new w _ _)
  have HB0 := Lib.hid (show Below w.heap.size w Y by rw [← hY]; exact (Below.refl w.heap.size w).alloc (Nat.le_refl _) _)
  have HY := Lib.hid hY
  have HKE : Hid (keyC key = .agg C0) := Lib.hid (by rw [← hC0]; rfl)
  rw [HKE.out]
  have HKL := Lib.hid hk
  have HI := Lib.hid hI
  have HLE := Lib.hid hI.len
  have HCP := Lib.hid hc
  have HCM := Lib.hid hm
  have HAW := Lib.hid (fun W => awake_any S W)
  have HSS := Lib.hid S
  have hlb : len ≤ 9223372036854775807 := by unfold maxLen at hm; omega
  have HLB := Lib.hid hlb
  have HF0 : Hid (∀ W, Below w.heap.size w W → Calls Try.prog 11 #[.slice A len cap] W fun e w' => e = .returned (.bool (fewB xs)) ∧ w' = W) := Lib.hid (fun W hW => rfew_any cap HLB.out W (HI.out.below hW))
  have HM0 : Hid (∀ W, Below w.heap.size w W → Calls Try.prog 14 #[.slice A len cap] W fun e w' => e = .returned (.bool (mayB xs)) ∧ Below W.heap.size W w') := Lib.hid (fun W hW => rmay_any cap W (HI.out.below hW))
  clear hY hC0 hk hI hc hm hlb S _hX
  obtain ⟨F, hF⟩ : ∃ F, fewB xs = F := ⟨_, rfl⟩
  obtain ⟨M, hM⟩ : ∃ M, mayB xs = M := ⟨_, rfl⟩
  rw [hF] at HF0
  rw [hM] at HM0
  have HFE := Lib.hid hF
  have HME := Lib.hid hM
  clear hF hM
  go_enter Try.func5, Try.ntmps5
  go_wp2_with fail
  rw [HY.out]
  refine (HAW.out Y).mono ?_
  rintro e W1 ⟨rfl, hb⟩
  have D1 := Lib.hid (HB0.out.trans (hb.mono HB0.out.size))
  have HK1 := Lib.hid (Blk_10.below HK0.out (Blk_10.lt HK0.out) hb)
  clear hb
  cases F
  · go_wp2_with ((with_reducible refine (HF0.out W1 D1.out).mono ?_); rintro e W2 ⟨rfl, rfl⟩)
    refine (HAW.out _).mono ?_
    rintro e W3 ⟨rfl, hb⟩
    go_wp2_with fail
    go_ret
    exact ⟨rfl, D1.out.trans (hb.mono D1.out.size)⟩
  · cases M
    · go_wp2_with (first
        | ((with_reducible refine (HF0.out W1 D1.out).mono ?_); rintro e W2 ⟨rfl, rfl⟩)
        | ((with_reducible refine (HM0.out _ D1.out).mono ?_); rintro e W3 ⟨rfl, hb⟩; have D3 := Lib.hid (D1.out.trans (hb.mono D1.out.size)); clear hb))
      refine (HAW.out _).mono ?_
      rintro e W4 ⟨rfl, hb⟩
      go_wp2_with fail
      go_ret
      exact ⟨rfl, D3.out.trans (hb.mono D3.out.size)⟩
    · have HMS := Lib.hid ((mayB_iff xs).1 HME.out)
      have HN3 := Lib.hid (fewB_n HFE.out HLE.out)
      have HSH := Lib.hid (fewB_s HFE.out)
      have hnx := rnext_any (n : Int) (by omega) (by omega)
      obtain ⟨hsz, _, _⟩ := nextN_size (z := (n : Int)) (by omega)
      obtain ⟨p, hp⟩ : ∃ p, nextN (n : Int) = p := ⟨_, rfl⟩
      rw [hp] at hnx hsz
      have HNX := Lib.hid hnx
      have HSZ := Lib.hid hsz
      obtain ⟨R, hR⟩ : ∃ R, riseL xs = R := ⟨_, rfl⟩
      have HR := Lib.hid hR
      have HFU := Lib.hid (show Full R by rw [← hR]; exact HMS.out.full)
      obtain ⟨N, hN⟩ : ∃ N, R.map Shr.nm = N := ⟨_, rfl⟩
      have HN := Lib.hid hN
      obtain ⟨L, hL⟩ : ∃ L, slotL key p R = L := ⟨_, rfl⟩
      have HL := Lib.hid hL
      clear hnx hsz hp hR hN hL
      have HIW : Hid (∀ W, Below w.heap.size w W → RdG eS W w.heap.size A len xs) := Lib.hid (fun W hW => HI.out.below hW)
      have HNR : Hid (N.length = R.length) := Lib.hid (by rw [← HN.out, List.length_map])
      have HRL : Hid (R.length ≤ 30) := Lib.hid (by rw [← HR.out]; exact rise_len HN3.out HLE.out)
      have HRG : Hid (∀ x, x ∈ L → 0 ≤ x ∧ x < (R.length : Int)) := Lib.hid (fun x hx => by rw [← HL.out] at hx; exact slotL_range HFU.out key HSZ.out hx)
      have P0 : Hid (∀ W, Below w.heap.size w W → Calls Try.prog 12 #[.agg (key.map v8).toArray, .int .i64 (p : Int), .slice A len cap] W (BuildGave N L W)) := Lib.hid (fun W hW => build_gave HSS.out key HKL.out p HSZ.out A len cap xs HMS.out HN3.out HSH.out HCP.out HCM.out W _ hW.size (HIW.out W hW) N (by rw [HR.out, HN.out]) L (by rw [HR.out, HL.out]))
      have PR : Hid (∀ W, Below w.heap.size w W → Calls Try.prog 20 #[.slice A len cap] W fun e w' => ∃ A8 c8, e = .returned (.slice A8 R.length c8) ∧ R.length ≤ c8 ∧ c8 ≤ maxLen ∧ OwnG eS w' W.heap.size (.slice A8 R.length c8) R ∧ Below W.heap.size W w') := Lib.hid (fun W hW => by
        refine (rrise_any cap (Nat.le_trans HN3.out (by decide)) W hW.size (HIW.out W hW)).mono ?_
        rintro e w' ⟨v, he, hov, hb⟩
        rw [HR.out] at hov
        obtain ⟨A8, m8, c8, rfl, e8, k8, l8, _⟩ := hov.sl
        subst m8
        exact ⟨A8, c8, he, k8, l8, hov, hb⟩)
      by_cases hR0 : R = []
      · have HNE : Hid (N.length = 0) := Lib.hid (by rw [HNR.out, hR0]; rfl)
        have HLE0 : Hid (L.length = 0) := Lib.hid (by rw [← HL.out]; unfold slotL; rw [if_pos hR0]; rfl)
        have HRE : Hid (R.length = 0) := Lib.hid (by rw [hR0]; rfl)
        obtain ⟨rn, hrn⟩ : ∃ r, R.length = r := ⟨_, rfl⟩
        obtain ⟨ln, hln⟩ : ∃ r, L.length = r := ⟨_, rfl⟩
        have h1 : rn = 0 := by rw [← hrn]; exact HRE.out
        have h2 : ln = 0 := by rw [← hln]; exact HLE0.out
        subst h1 h2
        have PG : Hid (∀ W, Below w.heap.size w W → Calls Try.prog 12 #[.agg (key.map v8).toArray, .int .i64 (p : Int), .slice A len cap] W (BuildG 0 0 N L W)) := Lib.hid (fun W hW => build_g (P0.out W hW) HNE.out HLE0.out)
        have HLM : Hid (0 ≤ 65537) := Lib.hid (Nat.zero_le _)
        rw [hrn] at HRG PR HRL
        clear hrn hln hR0
        go_wp2_with (first
          | ((with_reducible refine (HF0.out W1 D1.out).mono ?_); rintro e W2 ⟨rfl, rfl⟩)
          | ((with_reducible refine (HM0.out _ D1.out).mono ?_); rintro e W3 ⟨rfl, hb⟩; have D3 := Lib.hid (D1.out.trans (hb.mono D1.out.size)); have HK3 := Lib.hid (Blk_10.below HK1.out (Blk_10.lt HK1.out) hb); clear hb)
          | ((with_reducible refine (HNX.out _).mono ?_); rintro e W4 ⟨rfl, rfl⟩)
          | ((with_reducible show wpList _ _ _ (⟨some 35, _, _, _, _, _⟩ :: _) _ _); refine wpList_loadM (op := ⟨some 35, _, _, _, _, _⟩) 22 _ rfl (by rfl) w.heap.size 0 (by rfl) (key.map v8) (Blk_10.range HK3.out) _ Try.underlying22 rfl (keyp_size HKL.out) ?_)
          | ((with_reducible refine (PG.out _ D3.out).mono ?_); rintro e W5 ⟨A1, c1, A2, c2, rfl, k1, k2, k3, k4, ho1, ho2, hb⟩; have HO1 := Lib.hid ho1; have HO2 := Lib.hid ho2; have HB5 := Lib.hid hb; have KA := Lib.hid k1; have KB := Lib.hid k2; have KC := Lib.hid k3; have KD := Lib.hid k4; clear ho1 ho2 hb k1 k2 k3 k4)
          | (go_at_call 20; obtain ⟨Z5, hZ5⟩ : ∃ Z, W5.alloc (.cells #[.slice A1 0 c1, .slice A2 0 c2] 30) = Z := ⟨_, rfl⟩; rw [hZ5]; have HZ5 := Lib.hid hZ5; clear hZ5; obtain ⟨b8, hb8⟩ : ∃ b, W5.heap.size = b := ⟨_, rfl⟩; have HT5 : Hid (Blk Z5 30 b8 [.slice A1 0 c1, .slice A2 0 c2]) := Lib.hid (by rw [← HZ5.out, ← hb8]; exact tbl_new _ _ _); have D5 : Hid (Below w.heap.size w Z5) := Lib.hid (D3.out.trans ((below_zed HB5.out HZ5.out).mono D3.out.size)); have HO1z : Hid (OwnG eN Z5 w.heap.size (.slice A1 0 c1) N) := Lib.hid (by rw [← HZ5.out]; exact (HO1.out.alloc _).base_le D3.out.size); have HO2z : Hid (OwnG eZ Z5 w.heap.size (.slice A2 0 c2) L) := Lib.hid (by rw [← HZ5.out]; exact (HO2.out.alloc _).base_le D3.out.size); rw [hb8]; clear hb8; refine (PR.out Z5 D5.out).mono ?_; rintro e W6 ⟨A8, c8, rfl, k8, l8, hov, hb⟩; have HR8 := Lib.hid hov; have E6 := Lib.hid hb; have HT6 := Lib.hid (Blk_10.below HT5.out (Blk_10.lt HT5.out) hb); clear k8 l8 hov hb; have a6 : W6.cell? ⟨b8, 0, none⟩ = some (.slice A1 0 c1) := Blk_10.cell HT6.out rfl; have b6 : W6.cell? ⟨b8, 1, none⟩ = some (.slice A2 0 c2) := Blk_10.cell HT6.out rfl)
          | (go_at_call 21; clear a6 b6; refine (right_tbl (Nat.le_trans HRL.out (by decide)) HLM.out HRG.out W6 (Nat.le_refl _) (HO1z.out.below E6.out).rd (HO2z.out.below E6.out).rd).mono ?_; rintro e W7 ⟨rfl, hb⟩; have E7 := Lib.hid (E6.out.trans (hb.mono E6.out.size)); have HR7 := Lib.hid (HR8.out.below hb); have HT7 := Lib.hid (Blk_10.below HT5.out (Blk_10.lt HT5.out) E7.out); clear hb; have a7 : W7.cell? ⟨b8, 0, none⟩ = some (.slice A1 0 c1) := Blk_10.cell HT7.out rfl; have b7 : W7.cell? ⟨b8, 1, none⟩ = some (.slice A2 0 c2) := Blk_10.cell HT7.out rfl))
        go_ret
        have h8 := D5.out
        exact ⟨rfl, h8.trans (E7.out.mono h8.size)⟩
      · obtain ⟨rn, hrn⟩ : ∃ r, R.length = r := ⟨_, rfl⟩
        have HRN := Lib.hid hrn
        have HR1 : Hid (0 < rn) := Lib.hid (by rw [← hrn]; exact List.length_pos_iff.2 hR0)
        have HLP : Hid (L.length = p) := Lib.hid (by rw [← HL.out]; exact slotL_len key hR0)
        have PG : Hid (∀ W, Below w.heap.size w W → Calls Try.prog 12 #[.agg (key.map v8).toArray, .int .i64 (p : Int), .slice A len cap] W (BuildG rn p N L W)) := Lib.hid (fun W hW => build_g (P0.out W hW) (by rw [HNR.out, hrn]) HLP.out)
        have HLM : Hid (p ≤ 65537) := Lib.hid HSZ.out.most
        obtain ⟨T, hT⟩ : ∃ T, tbOf key p R = T := ⟨_, rfl⟩
        have HTE := Lib.hid hT
        have HOK : Hid T.Ok := Lib.hid (by rw [← hT]; exact HFU.out.ok hR0 key HSZ.out)
        have HTN : Hid (T.n = rn) := Lib.hid (by rw [← hT, ← hrn]; rfl)
        have HTM : Hid (T.m = p) := Lib.hid (by rw [← hT]; rfl)
        have HTL : Hid (T.out = L) := Lib.hid (by rw [← HL.out]; unfold slotL; rw [if_neg hR0, hT])
        have HTG : Hid (bestL R = ((T.G : Nat) : Int)) := Lib.hid (by rw [← hT]; exact tb_G key p R)
        rw [hrn] at HRG PR HRL
        obtain ⟨C, hC⟩ : ∃ C, cntN L = C := ⟨_, rfl⟩
        have HCE := Lib.hid hC
        have HSU : Hid (sumC C rn = p) := Lib.hid (by have h9 := Tb.out_sum HOK.out; rw [HTL.out, HTN.out, HTM.out] at h9; rw [← hC]; exact h9)
        have h1 : ¬ (rn : Int) = 0 := by have := HR1.out; omega
        have h2 : ((rn : Int) == 0) = false := by simp; have := HR1.out; omega
        have h3 : (rn == 0) = false := by simp; have := HR1.out; omega
        clear hrn hR0 hT hC
        go_wp2_with (first
          | ((with_reducible refine (HF0.out W1 D1.out).mono ?_); rintro e W2 ⟨rfl, rfl⟩)
          | ((with_reducible refine (HM0.out _ D1.out).mono ?_); rintro e W3 ⟨rfl, hb⟩; have D3 := Lib.hid (D1.out.trans (hb.mono D1.out.size)); have HK3 := Lib.hid (Blk_10.below HK1.out (Blk_10.lt HK1.out) hb); clear hb)
          | ((with_reducible refine (HNX.out _).mono ?_); rintro e W4 ⟨rfl, rfl⟩)
          | ((with_reducible show wpList _ _ _ (⟨some 35, _, _, _, _, _⟩ :: _) _ _); refine wpList_loadM (op := ⟨some 35, _, _, _, _, _⟩) 22 _ rfl (by rfl) w.heap.size 0 (by rfl) (key.map v8) (Blk_10.range HK3.out) _ Try.underlying22 rfl (keyp_size HKL.out) ?_)
          | ((with_reducible refine (PG.out _ D3.out).mono ?_); rintro e W5 ⟨A1, c1, A2, c2, rfl, k1, k2, k3, k4, ho1, ho2, hb⟩; have HO1 := Lib.hid ho1; have HO2 := Lib.hid ho2; have HB5 := Lib.hid hb; have KA := Lib.hid k1; have KB := Lib.hid k2; have KC := Lib.hid k3; have KD := Lib.hid k4; clear ho1 ho2 hb k1 k2 k3 k4)
          | (go_at_call 20; obtain ⟨Z5, hZ5⟩ : ∃ Z, W5.alloc (.cells #[.slice A1 rn c1, .slice A2 p c2] 30) = Z := ⟨_, rfl⟩; rw [hZ5]; have HZ5 := Lib.hid hZ5; clear hZ5; obtain ⟨b8, hb8⟩ : ∃ b, W5.heap.size = b := ⟨_, rfl⟩; have HT5 : Hid (Blk Z5 30 b8 [.slice A1 rn c1, .slice A2 p c2]) := Lib.hid (by rw [← HZ5.out, ← hb8]; exact tbl_new _ _ _); have D5 : Hid (Below w.heap.size w Z5) := Lib.hid (D3.out.trans ((below_zed HB5.out HZ5.out).mono D3.out.size)); have HO1z : Hid (OwnG eN Z5 w.heap.size (.slice A1 rn c1) N) := Lib.hid (by rw [← HZ5.out]; exact (HO1.out.alloc _).base_le D3.out.size); have HO2z : Hid (OwnG eZ Z5 w.heap.size (.slice A2 p c2) L) := Lib.hid (by rw [← HZ5.out]; exact (HO2.out.alloc _).base_le D3.out.size); rw [hb8]; clear hb8; refine (PR.out Z5 D5.out).mono ?_; rintro e W6 ⟨A8, c8, rfl, k8, l8, hov, hb⟩; have HR8 := Lib.hid hov; have E6 := Lib.hid hb; have HT6 := Lib.hid (Blk_10.below HT5.out (Blk_10.lt HT5.out) hb); clear k8 l8 hov hb; have a6 : W6.cell? ⟨b8, 0, none⟩ = some (.slice A1 rn c1) := Blk_10.cell HT6.out rfl; have b6 : W6.cell? ⟨b8, 1, none⟩ = some (.slice A2 p c2) := Blk_10.cell HT6.out rfl)
          | (go_at_call 21; clear a6 b6; refine (right_tbl (Nat.le_trans HRL.out (by decide)) HLM.out HRG.out W6 (Nat.le_refl _) (HO1z.out.below E6.out).rd (HO2z.out.below E6.out).rd).mono ?_; rintro e W7 ⟨rfl, hb⟩; have E7 := Lib.hid (E6.out.trans (hb.mono E6.out.size)); have HR7 := Lib.hid (HR8.out.below hb); have HT7 := Lib.hid (Blk_10.below HT5.out (Blk_10.lt HT5.out) E7.out); clear hb; have a7 : W7.cell? ⟨b8, 0, none⟩ = some (.slice A1 rn c1) := Blk_10.cell HT7.out rfl; have b7 : W7.cell? ⟨b8, 1, none⟩ = some (.slice A2 p c2) := Blk_10.cell HT7.out rfl)
          | (go_at_call 22; refine (HSS.out.count A1 A2 rn c1 p c2 N L (Nat.le_trans HRL.out (by decide)) HLM.out KA.out KB.out KC.out KD.out HRG.out W7 _ _ (Nat.le_refl _) (Nat.le_refl _) (HO1z.out.below E7.out).rd (HO2z.out.below E7.out).rd).mono ?_; rintro e W8 ⟨v, rfl, hv, hb⟩; clear a7 b7; obtain ⟨gc, cc, hcv, _, _, _, _⟩ := hv.form (by rw [cntZ_len]; exact HR1.out); rw [cntZ_len] at hcv; subst hcv; have HV := Lib.hid hv; have E8 := Lib.hid (E7.out.trans (hb.mono E7.out.size)); have HRS := Lib.hid (HR7.out.below hb); have HT8 := Lib.hid (Blk_10.below HT5.out (Blk_10.lt HT5.out) E8.out); clear hv hb; have a9 : W8.cell? ⟨b8, 0, none⟩ = some (.slice A1 rn c1) := Blk_10.cell HT8.out rfl; have b9 : W8.cell? ⟨b8, 1, none⟩ = some (.slice A2 p c2) := Blk_10.cell HT8.out rfl))
        refine (greatest_any c8 (Nat.le_trans HRL.out (by decide)) W8 HRS.out.rd).mono ?_
        rintro e W9 ⟨rfl, rfl⟩
        rw [HTG.out]
        have HO1y := Lib.hid (HO1z.out.below E8.out)
        obtain ⟨g1, c1', hv1, _⟩ := HO1y.out.form (by rw [HNR.out, HRN.out]; exact HR1.out)
        rw [HNR.out, HRN.out] at hv1
        injection hv1 with hv11 _ hv12
        subst hv11 hv12
        obtain ⟨g9, c9', hv9, _⟩ := HRS.out.form (by rw [HRN.out]; exact HR1.out)
        rw [HRN.out] at hv9
        injection hv9 with hv91 _ hv92
        subst hv91 hv92
        have HCELL : Hid (∀ j x, R[j]? = some x → ∀ W, Below W9.heap.size W9 W → W.cell? ⟨g1, j, none⟩ = some (.string ⟨x.nm.toArray⟩) ∧ W.cell? ⟨g9, j * 2, none⟩ = some (.string ⟨x.nm.toArray⟩) ∧ W.cell? ⟨g9, j * 2 + 1, none⟩ = some (.int .i64 ((T.q j : Nat) : Int)) ∧ W.cell? ⟨gc, j, none⟩ = some (.int .i64 ((C j : Nat) : Int)) ∧ W.cell? ⟨b8, 0, none⟩ = some (.slice (some ⟨g1, 0, none⟩) rn c1)) := Lib.hid (fun j x hx W hW => by
          have hj : j < rn := by rw [← HRN.out]; exact (List.getElem?_eq_some_iff.1 hx).1
          have hnj : N[j]? = some x.nm := by rw [← HN.out, List.getElem?_map, hx]; rfl
          have e1 := (HO1y.out.below hW).cell hnj 0 (u := strV x.nm) rfl
          rw [show j * eN.k + 0 = j from by show j * 1 + 0 = j; omega] at e1
          have e2 := ((HRS.out.below hW).rd).name hx
          have e3 := ((HRS.out.below hW).rd).quanta hx
          rw [Nat.zero_add] at e2 e3
          have hq := tb_q (key := key) (p := p) HFU.out hx
          rw [HTE.out] at hq
          rw [hq] at e3
          have e4 := (HV.out.below hW).cell (cntZ_get rn L hj) 0 rfl
          rw [show j * eZ.k + 0 = j from by show j * 1 + 0 = j; omega, HCE.out] at e4
          exact ⟨e1, e2, e3, e4, Blk_10.cell (Blk_10.below HT8.out (Blk_10.lt HT8.out) hW) rfl⟩)
        have HGP : Hid (0 < T.G ∧ T.G ≤ 1024000) := Lib.hid (by have h9 := HFU.out.best (by rintro rfl; have := HRN.out; have := HR1.out; simp at *; omega); rw [HTG.out] at h9; omega)
        have HQG : Hid (∀ j, j < rn → T.q j ≤ T.G) := Lib.hid (fun j hj => HOK.out.le j (by rw [HTN.out]; exact hj))
        clear a9 b9 h1 h2 h3
        go_wp2_with fail
        obtain ⟨G, hG⟩ : ∃ G, T.G = G := ⟨_, rfl⟩
        have HGE := Lib.hid hG
        rw [hG]
        rw [hG] at HGP HQG
        clear hG
        obtain ⟨Q, hQ⟩ : ∃ Q, T.q = Q := ⟨_, rfl⟩
        have HQE := Lib.hid hQ
        rw [hQ] at HCELL HQG
        clear hQ
        go_loopw [13, 14, 15] (fun rv sv i wr => ∃ j : Nat, j ≤ rn ∧ i = .int .i64 (j : Int) ∧ rv = .int .i64 ((mrN Q C G p j : Nat) : Int) ∧ sv = .int .i64 ((sumC C j : Nat) : Int) ∧ Below W9.heap.size W9 wr)
          (fun _ _ i _ => rn - (intOf i).toNat)
        case atStart => exact ⟨0, Nat.zero_le _, rfl, rfl, rfl, Below.refl _ _⟩
        case round =>
          obtain ⟨j, hj, rfl, rfl, rfl, hbe⟩ := hrel
          have HBE := Lib.hid hbe
          clear hbe
          by_cases hlt : j < rn
          · have hs1 := sum_one C j
            have hs2 := sum_to C (show j + 1 ≤ rn by omega)
            rw [HSU.out] at hs2
            have hp9 := HLM.out
            have hm1 := mr_one Q C G p j
            have hm2 := mrN_top Q C G p j
            obtain ⟨x, hx⟩ : ∃ x, R[j]? = some x := ⟨_, List.getElem?_eq_getElem (by rw [HRN.out]; exact hlt)⟩
            obtain ⟨f1, f2, f3, f4, f5⟩ := HCELL.out j x hx wr HBE.out
            have hqG := HQG.out j hlt
            have hcp : C j ≤ 65537 := Nat.le_trans (sum_le C hlt) (by rw [HSU.out]; exact HLM.out)
            have HLT := Lib.hid hlt
            have h1 : (j : Int) < (rn : Int) := by omega
            have h0 : (0 : Int) ≤ (j : Int) := by omega
            have hj9 : j < 30 := by have := HRL.out; omega
            obtain ⟨q, hq⟩ : ∃ q, Q j = q := ⟨_, rfl⟩
            have HQJ := Lib.hid hq
            rw [hq] at f3 hqG
            obtain ⟨c, hc⟩ : ∃ c, C j = c := ⟨_, rfl⟩
            have HCJ := Lib.hid hc
            rw [hc] at f4 hcp
            clear hx hlt hj hq hc
            rw [HCJ.out] at hs1 hm1
            rw [HQJ.out] at hm1
            obtain ⟨s, hs⟩ : ∃ s, sumC C j = s := ⟨_, rfl⟩
            obtain ⟨m, hm⟩ : ∃ m, mrN Q C G p j = m := ⟨_, rfl⟩
            rw [hs] at hs1 ⊢
            rw [hm] at hm1 hm2 ⊢
            have HS1 := Lib.hid hs1
            have hs9 : s + c ≤ 65537 := by omega
            have HM1 := Lib.hid hm1
            clear hs1 hs2 hm1 hs hm
            by_cases hqq : q = G
            · subst hqq
              by_cases hcm : c < m
              · have hcm2 : (c : Int) < (m : Int) := by omega
                have HMN : Hid (mrN Q C q p (j + 1) = c) := Lib.hid (by rw [HM1.out, if_pos ⟨rfl, hcm⟩])
                go_wp2_with fail
                go_quiet (fail)
                go_wp2_with fail
                go_roundw
                case rel => exact ⟨j + 1, HLT.out, (by have := HLT.out; go_num), (by rw [HMN.out]), (by rw [HS1.out]; go_num), below_drewN HBE.out _⟩
                case measure =>
                  have := HLT.out
                  simp [intOf]
                  omega
              · have hcm2 : ¬ (c : Int) < (m : Int) := by omega
                have HMN : Hid (mrN Q C q p (j + 1) = m) := Lib.hid (by rw [HM1.out, if_neg (fun h => hcm h.2)])
                go_wp2_with fail
                go_quiet (fail)
                go_wp2_with fail
                go_roundw
                case rel => exact ⟨j + 1, HLT.out, (by have := HLT.out; go_num), (by rw [HMN.out]), (by rw [HS1.out]; go_num), below_drewN HBE.out _⟩
                case measure =>
                  have := HLT.out
                  simp [intOf]
                  omega
            · have hq1 : ((q : Int) == (G : Int)) = false := by simp; omega
              have hq2 : (q == G) = false := by simp; omega
              have hq3 : ¬ (q : Int) = (G : Int) := by omega
              have HMN : Hid (mrN Q C G p (j + 1) = m) := Lib.hid (by rw [HM1.out, if_neg (fun h => hqq h.1)])
              go_wp2_with fail
              go_quiet (fail)
              go_wp2_with fail
              go_roundw
              case rel => exact ⟨j + 1, HLT.out, (by have := HLT.out; go_num), (by rw [HMN.out]), (by rw [HS1.out]; go_num), below_drewN HBE.out _⟩
              case measure =>
                have := HLT.out
                simp [intOf]
                omega
          · obtain rfl : rn = j := by omega
            have h1 : ¬ (rn : Int) < (rn : Int) := by omega
            rw [HSU.out]
            clear hlt hj
            go_wp2_with fail
            have HOKS := Lib.hid (shares_ok HOK.out)
            rw [HTL.out, HTN.out, HTM.out, HCE.out, HGE.out, HQE.out] at HOKS
            have hmt := mrN_top Q C G p rn
            obtain ⟨m, hm⟩ : ∃ m, mrN Q C G p rn = m := ⟨_, rfl⟩
            rw [hm] at hmt HOKS ⊢
            have HMT : Hid (m ≤ 65537) := Lib.hid (Nat.le_trans hmt HLM.out)
            clear hm hmt
            obtain ⟨wo, hwo⟩ : ∃ z, z = wr := ⟨_, rfl⟩
            subst hwo
            go_loopw [16] (fun i wr => ∃ j : Nat, j ≤ rn ∧ i = .int .i64 (j : Int) ∧ Below W9.heap.size W9 wr)
              (fun i _ => rn - (intOf i).toNat)
            case atStart => exact ⟨0, Nat.zero_le _, rfl, HBE.out⟩
            case round =>
              clear HBE
              obtain ⟨j, hj, rfl, hbe⟩ := hrel
              have HBE := Lib.hid hbe
              clear hbe
              by_cases hlt : j < rn
              · have hok := HOKS.out j hlt
                obtain ⟨x, hx⟩ : ∃ x, R[j]? = some x := ⟨_, List.getElem?_eq_getElem (by rw [HRN.out]; exact hlt)⟩
                obtain ⟨f1, f2, f3, f4, f5⟩ := HCELL.out j x hx wr HBE.out
                have hqG := HQG.out j hlt
                have hcp : C j ≤ 65537 := Nat.le_trans (sum_le C hlt) (by rw [HSU.out]; exact HLM.out)
                have HLT := Lib.hid hlt
                have h1 : (j : Int) < (rn : Int) := by omega
                have h0 : (0 : Int) ≤ (j : Int) := by omega
                have hj9 : j < 30 := by have := HRL.out; omega
                obtain ⟨q, hq⟩ : ∃ q, Q j = q := ⟨_, rfl⟩
                have HQJ := Lib.hid hq
                rw [hq] at f3 hqG
                obtain ⟨c, hc⟩ : ∃ c, C j = c := ⟨_, rfl⟩
                have HCJ := Lib.hid hc
                rw [hc] at f4 hcp
                clear hx hlt hj hq hc
                rw [HCJ.out, HQJ.out] at hok
                have hG9 := HGP.out
                have hm9 := HMT.out
                have hg0 : ((G : Int) == 0) = false := by simp; omega
                have hg1 : ¬ (G : Int) = 0 := by omega
                obtain ⟨z2, hz2⟩ : ∃ z, (m + 1) * q = z := ⟨_, rfl⟩
                have hzb : z2 ≤ 65538 * 1024000 := by rw [← hz2]; exact Nat.mul_le_mul (by omega) (by omega)
                have hw2 : IntKind.i64.wrap (((m : Int) + 1) * (q : Int)) = (z2 : Int) := by
                  have e : ((m : Int) + 1) * (q : Int) = (z2 : Int) := by rw [← hz2, Int.natCast_mul]; rfl
                  rw [e]
                  exact wi64 (by omega) (by omega)
                obtain ⟨d2, hd2⟩ : ∃ d, z2 / G = d := ⟨_, rfl⟩
                have hd2b : d2 ≤ z2 := by rw [← hd2]; exact Nat.div_le_self _ _
                have hD2 : (z2 : Int) / (G : Int) = (d2 : Int) := by rw [← hd2, Int.natCast_ediv]
                have hT2 : Int.tdiv (z2 : Int) (G : Int) = (d2 : Int) := by rw [Int.tdiv_eq_ediv_of_nonneg (by omega)]; exact hD2
                have hn2 : ¬ (c : Int) > (d2 : Int) := by have h9 := hok.2; rw [hz2, hd2] at h9; omega
                have hn2' : ¬ (d2 : Int) < (c : Int) := hn2
                have hn2'' : ¬ d2 < c := by omega
                clear hz2 hd2
                by_cases hm0 : 0 < m
                · have hm1 : 0 < (m : Int) := by omega
                  obtain ⟨z1, hz1⟩ : ∃ z, (m - 1) * q = z := ⟨_, rfl⟩
                  have hzb1 : z1 ≤ 65538 * 1024000 := by rw [← hz1]; exact Nat.mul_le_mul (by omega) (by omega)
                  have hw1 : IntKind.i64.wrap (((m : Int) - 1) * (q : Int)) = (z1 : Int) := by
                    have e : ((m : Int) - 1) * (q : Int) = (z1 : Int) := by rw [← hz1, Int.natCast_mul, Int.natCast_sub hm0]; rfl
                    rw [e]
                    exact wi64 (by omega) (by omega)
                  obtain ⟨d1, hd1⟩ : ∃ d, z1 / G = d := ⟨_, rfl⟩
                  have hd1b : d1 ≤ z1 := by rw [← hd1]; exact Nat.div_le_self _ _
                  have hD1 : (z1 : Int) / (G : Int) = (d1 : Int) := by rw [← hd1, Int.natCast_ediv]
                  have hT1 : Int.tdiv (z1 : Int) (G : Int) = (d1 : Int) := by rw [Int.tdiv_eq_ediv_of_nonneg (by omega)]; exact hD1
                  have hn1 : ¬ (c : Int) < (d1 : Int) := by have h9 := hok.1 hm0; rw [hz1, hd1] at h9; omega
                  have hn1' : ¬ c < d1 := by omega
                  clear hz1 hd1 hok
                  go_wp2_with fail
                  go_quiet (fail)
                  go_wp2_with fail
                  go_roundw
                  case rel => exact ⟨j + 1, HLT.out, (by have := HLT.out; go_num), below_drewN HBE.out _⟩
                  case measure =>
                    have := HLT.out
                    simp [intOf]
                    omega
                · have hm1 : ¬ 0 < (m : Int) := by omega
                  clear hok
                  go_wp2_with fail
                  go_quiet (fail)
                  go_wp2_with fail
                  go_roundw
                  case rel => exact ⟨j + 1, HLT.out, (by have := HLT.out; go_num), below_drewN HBE.out _⟩
                  case measure =>
                    have := HLT.out
                    simp [intOf]
                    omega
              · obtain rfl : rn = j := by omega
                have h1 : ¬ (rn : Int) < (rn : Int) := by omega
                clear hlt hj
                go_wp2_with fail
                go_ret
                have h8 := D5.out
                have h7 := E8.out.trans (HBE.out.mono E8.out.size)
                exact ⟨rfl, h8.trans (h7.mono h8.size)⟩
end Go.Proofs.Ytmngagcekhlppaa
