/-
  MaglevFirst: its walk, the program's contracts a premise.
-/
import Derived.Test.YtmngagcekhlppaaMaglevSharesW
import Derived.Deep.DeepCutAuto
namespace Go.Proofs.Ytmngagcekhlppaa
set_option maxRecDepth 100000
open Go.RowKit Go.Lib Go.ChangeShapes Go.WideShapes Go.ChangeAt

set_option maxHeartbeats 16000000 in
theorem maglevFirst_walkW (S : MagC) (key : List UInt8) (hk : key.length = 16) (n : Nat) (hn : n < 256) (A : Option Addr) (len cap : Nat) (xs : List Shr) (hc : len ≤ cap) (hm : cap ≤ maxLen) (_hX : ∀ x, x ∈ xs → x.nm.length ≤ maxLen ∧ -9223372036854775808 ≤ x.q ∧ x.q ≤ 9223372036854775807) (w : World) (hI : RdG eS w w.heap.size A len xs) :
    Calls Try.prog 8 #[keyC key, .int .u8 (n : Int), .slice A len cap] w fun e w' => e = .returned (.bool true) ∧ Below w.heap.size w w' := by
  obtain ⟨C0, hC0⟩ : ∃ C, (key.map v8).toArray = C := ⟨_, rfl⟩
  obtain ⟨Y, hY⟩ : ∃ Y, w.alloc (.cells C0 22) = Y := ⟨_, rfl⟩
  have HK0 := Lib.hid (show Blk Y 22 w.heap.size (key.map v8) by rw [← hY, ← hC0]; exact Blk_10.new w _ _)
  have HB0 := Lib.hid (show Below w.heap.size w Y by rw [← hY]; exact (Below.refl w.heap.size w).alloc (Nat.le_refl _) _)
  have HY := Lib.hid hY
  have HKE : Hid (keyC key = .agg C0) := Lib.hid (by rw [← hC0]; rfl)
  rw [HKE.out]
  have HKL := Lib.hid hk
  have HI := Lib.hid hI
  have HLE := Lib.hid hI.len
  have HCP := Lib.hid hc
  have HCM := Lib.hid hm
  have HAW := Lib.hid (fun W => awake_any S W)
  have HSS := Lib.hid S
  have hlb : len ≤ 9223372036854775807 := by unfold maxLen at hm; omega
  have HLB := Lib.hid hlb
  have HF0 : Hid (∀ W, Below w.heap.size w W → Calls Try.prog 11 #[.slice A len cap] W fun e w' => e = .returned (.bool (fewB xs)) ∧ w' = W) := Lib.hid (fun W hW => rfew_any cap HLB.out W (HI.out.below hW))
  have HM0 : Hid (∀ W, Below w.heap.size w W → Calls Try.prog 14 #[.slice A len cap] W fun e w' => e = .returned (.bool (mayB xs)) ∧ Below W.heap.size W w') := Lib.hid (fun W hW => rmay_any cap W (HI.out.below hW))
  clear hY hC0 hk hI hc hm hlb S _hX
  obtain ⟨F, hF⟩ : ∃ F, fewB xs = F := ⟨_, rfl⟩
  obtain ⟨M, hM⟩ : ∃ M, mayB xs = M := ⟨_, rfl⟩
  rw [hF] at HF0
  rw [hM] at HM0
  have HFE := Lib.hid hF
  have HME := Lib.hid hM
  clear hF hM
  go_enter Try.func8, Try.ntmps8
  go_wp2_with fail
  rw [HY.out]
  refine (HAW.out Y).mono ?_
  rintro e W1 ⟨rfl, hb⟩
  have D1 := Lib.hid (HB0.out.trans (hb.mono HB0.out.size))
  have HK1 := Lib.hid (Blk_10.below HK0.out (Blk_10.lt HK0.out) hb)
  clear hb
  cases F
  · go_wp2_with ((with_reducible refine (HF0.out W1 D1.out).mono ?_); rintro e W2 ⟨rfl, rfl⟩)
    refine (HAW.out _).mono ?_
    rintro e W3 ⟨rfl, hb⟩
    go_wp2_with fail
    go_ret
    exact ⟨rfl, D1.out.trans (hb.mono D1.out.size)⟩
  · cases M
    · go_wp2_with (first
        | ((with_reducible refine (HF0.out W1 D1.out).mono ?_); rintro e W2 ⟨rfl, rfl⟩)
        | ((with_reducible refine (HM0.out _ D1.out).mono ?_); rintro e W3 ⟨rfl, hb⟩; have D3 := Lib.hid (D1.out.trans (hb.mono D1.out.size)); clear hb))
      refine (HAW.out _).mono ?_
      rintro e W4 ⟨rfl, hb⟩
      go_wp2_with fail
      go_ret
      exact ⟨rfl, D3.out.trans (hb.mono D3.out.size)⟩
    · have HMS := Lib.hid ((mayB_iff xs).1 HME.out)
      have HN3 := Lib.hid (fewB_n HFE.out HLE.out)
      have HSH := Lib.hid (fewB_s HFE.out)
      have hnx := rnext_any (n : Int) (by omega) (by omega)
      obtain ⟨hsz, _, _⟩ := nextN_size (z := (n : Int)) (by omega)
      obtain ⟨p, hp⟩ : ∃ p, nextN (n : Int) = p := ⟨_, rfl⟩
      rw [hp] at hnx hsz
      have HNX := Lib.hid hnx
      have HSZ := Lib.hid hsz
      obtain ⟨R, hR⟩ : ∃ R, riseL xs = R := ⟨_, rfl⟩
      have HR := Lib.hid hR
      have HFU := Lib.hid (show Full R by rw [← hR]; exact HMS.out.full)
      obtain ⟨N, hN⟩ : ∃ N, R.map Shr.nm = N := ⟨_, rfl⟩
      have HN := Lib.hid hN
      obtain ⟨L, hL⟩ : ∃ L, slotL key p R = L := ⟨_, rfl⟩
      have HL := Lib.hid hL
      clear hnx hsz hp hR hN hL
      have HIW : Hid (∀ W, Below w.heap.size w W → RdG eS W w.heap.size A len xs) := Lib.hid (fun W hW => HI.out.below hW)
      have HNR : Hid (N.length = R.length) := Lib.hid (by rw [← HN.out, List.length_map])
      have HRL : Hid (R.length ≤ 30) := Lib.hid (by rw [← HR.out]; exact rise_len HN3.out HLE.out)
      have HRG : Hid (∀ x, x ∈ L → 0 ≤ x ∧ x < (R.length : Int)) := Lib.hid (fun x hx => by rw [← HL.out] at hx; exact slotL_range HFU.out key HSZ.out hx)
      have P0 : Hid (∀ W, Below w.heap.size w W → Calls Try.prog 12 #[.agg (key.map v8).toArray, .int .i64 (p : Int), .slice A len cap] W (BuildGave N L W)) := Lib.hid (fun W hW => build_gave HSS.out key HKL.out p HSZ.out A len cap xs HMS.out HN3.out HSH.out HCP.out HCM.out W _ hW.size (HIW.out W hW) N (by rw [HR.out, HN.out]) L (by rw [HR.out, HL.out]))
      have PR : Hid (∀ W, Below w.heap.size w W → Calls Try.prog 20 #[.slice A len cap] W fun e w' => ∃ A8 c8, e = .returned (.slice A8 R.length c8) ∧ R.length ≤ c8 ∧ c8 ≤ maxLen ∧ OwnG eS w' W.heap.size (.slice A8 R.length c8) R ∧ Below W.heap.size W w') := Lib.hid (fun W hW => by
        refine (rrise_any cap (Nat.le_trans HN3.out (by decide)) W hW.size (HIW.out W hW)).mono ?_
        rintro e w' ⟨v, he, hov, hb⟩
        rw [HR.out] at hov
        obtain ⟨A8, m8, c8, rfl, e8, k8, l8, _⟩ := hov.sl
        subst m8
        exact ⟨A8, c8, he, k8, l8, hov, hb⟩)
      have HRI : Hid (riseL R = R) := Lib.hid (by rw [← HR.out]; exact riseL_twice HMS.out.apart)
      have HMR : Hid (MayS R) := Lib.hid (by rw [← HR.out]; exact HMS.out.rise)
      have HRX : Hid (∀ x, x ∈ R → x.nm.length ≤ 60) := Lib.hid (fun x hx => HSH.out x (by rw [← HR.out] at hx; exact (riseL_mem.1 hx).1))
      have PB : Hid (∀ (A8 : Option Addr) (c8 : Nat) (_ : R.length ≤ c8) (_ : c8 ≤ maxLen) (W : World) (_ : RdG eS W W.heap.size A8 R.length R), Calls Try.prog 12 #[.agg (key.map v8).toArray, .int .i64 (p : Int), .slice A8 R.length c8] W (BuildGave N L W)) := Lib.hid (fun A8 c8 h1 h2 W h3 => build_gave HSS.out key HKL.out p HSZ.out A8 R.length c8 R HMR.out HRL.out HRX.out h1 h2 W _ (Nat.le_refl _) h3 N (by rw [HRI.out, HN.out]) L (by rw [HRI.out, HL.out]))
      by_cases hR0 : R = []
      · have HNE : Hid (N.length = 0) := Lib.hid (by rw [HNR.out, hR0]; rfl)
        have HLE0 : Hid (L.length = 0) := Lib.hid (by rw [← HL.out]; unfold slotL; rw [if_pos hR0]; rfl)
        have HRE : Hid (R.length = 0) := Lib.hid (by rw [hR0]; rfl)
        have PG : Hid (∀ (A8 : Option Addr) (c8 : Nat) (_ : 0 ≤ c8) (_ : c8 ≤ maxLen) (W : World) (_ : RdG eS W W.heap.size A8 0 R), Calls Try.prog 12 #[.agg (key.map v8).toArray, .int .i64 (p : Int), .slice A8 0 c8] W (BuildG 0 0 N L W)) := Lib.hid (fun A8 c8 h1 h2 W h3 => build_g (by have h9 := PB.out A8 c8 (by rw [HRE.out]; exact h1) h2 W (by rw [HRE.out]; exact h3); rw [HRE.out] at h9; exact h9) HNE.out HLE0.out)
        have HLM : Hid (0 ≤ 65537) := Lib.hid (Nat.zero_le _)
        have hre := HRE.out
        rw [hre] at HRG PR HRL
        clear hR0 hre
        go_wp2_with (first
          | ((with_reducible refine (HF0.out W1 D1.out).mono ?_); rintro e W2 ⟨rfl, rfl⟩)
          | ((with_reducible refine (HM0.out _ D1.out).mono ?_); rintro e W3 ⟨rfl, hb⟩; have D3 := Lib.hid (D1.out.trans (hb.mono D1.out.size)); have HK3 := Lib.hid (Blk_10.below HK1.out (Blk_10.lt HK1.out) hb); clear hb)
          | ((with_reducible refine (HNX.out _).mono ?_); rintro e W4 ⟨rfl, rfl⟩)
          | (go_at_call 20; refine (PR.out W3 D3.out).mono ?_; rintro e W5 ⟨A8, c8, rfl, k8, l8, hov, hb⟩; have HR8 := Lib.hid hov; have HK8 := Lib.hid k8; have HL8 := Lib.hid l8; have D5 := Lib.hid (D3.out.trans (hb.mono D3.out.size)); have HK5 := Lib.hid (Blk_10.below HK3.out (Blk_10.lt HK3.out) hb); clear k8 l8 hov hb)
          | ((with_reducible show wpList _ _ _ (⟨some 37, _, _, _, _, _⟩ :: _) _ _); refine wpList_loadM (op := ⟨some 37, _, _, _, _, _⟩) 22 _ rfl (by rfl) w.heap.size 0 (by rfl) (key.map v8) (Blk_10.range HK5.out) _ Try.underlying22 rfl (keyp_size HKL.out) ?_)
          | (go_at_call 12; refine (PG.out A8 c8 HK8.out HL8.out W5 HR8.out.rd).mono ?_; rintro e W6 ⟨A1, c1, A2, c2, rfl, k1, k2, k3, k4, ho1, ho2, hb⟩; have HO1 := Lib.hid ho1; have HO2 := Lib.hid ho2; have HB6 := Lib.hid hb; have KA := Lib.hid k1; have KB := Lib.hid k2; have KC := Lib.hid k3; have KD := Lib.hid k4; clear ho1 ho2 hb k1 k2 k3 k4; have HB6z := Lib.hid (HB6.out.alloc HB6.out.size (.cells #[.slice A1 0 c1, .slice A2 0 c2] 30)); have HT6 := Lib.hid (tbl_new W6 (.slice A1 0 c1) (.slice A2 0 c2)); have a6 : (W6.alloc (.cells #[.slice A1 0 c1, .slice A2 0 c2] 30)).cell? ⟨W6.heap.size, 0, none⟩ = some (.slice A1 0 c1) := Blk_10.cell HT6.out rfl; have b6 : (W6.alloc (.cells #[.slice A1 0 c1, .slice A2 0 c2] 30)).cell? ⟨W6.heap.size, 1, none⟩ = some (.slice A2 0 c2) := Blk_10.cell HT6.out rfl)
          | (go_at_call 21; clear a6 b6; obtain ⟨Z6, hZ6⟩ : ∃ Z, W6.alloc (.cells #[.slice A1 0 c1, .slice A2 0 c2] 30) = Z := ⟨_, rfl⟩; rw [hZ6]; have HZ6 := Lib.hid hZ6; clear hZ6; obtain ⟨b8, hb8⟩ : ∃ b, W6.heap.size = b := ⟨_, rfl⟩; have HT6z : Hid (Blk Z6 30 b8 [.slice A1 0 c1, .slice A2 0 c2]) := Lib.hid (by rw [← HZ6.out, ← hb8]; exact HT6.out); have HB7 : Hid (Below W5.heap.size W5 Z6) := Lib.hid (below_zed HB6.out HZ6.out); have D6 : Hid (Below w.heap.size w Z6) := Lib.hid (D5.out.trans (HB7.out.mono D5.out.size)); have HK6 := Lib.hid (Blk_10.below HK5.out (Blk_10.lt HK5.out) HB7.out); have HO1z : Hid (OwnG eN Z6 W5.heap.size (.slice A1 0 c1) N) := Lib.hid (by rw [← HZ6.out]; exact HO1.out.alloc _); have HO2z : Hid (OwnG eZ Z6 W5.heap.size (.slice A2 0 c2) L) := Lib.hid (by rw [← HZ6.out]; exact HO2.out.alloc _); have HR6 := Lib.hid (HR8.out.below HB7.out); rw [hb8]; clear hb8; refine (right_tbl (Nat.le_trans HRL.out (by decide)) HLM.out HRG.out Z6 (Nat.le_refl _) HO1z.out.rd HO2z.out.rd).mono ?_; rintro e W7 ⟨rfl, hb⟩; have E7 := Lib.hid hb; have HT7 := Lib.hid (Blk_10.below HT6z.out (Blk_10.lt HT6z.out) hb); clear hb; have a7 : W7.cell? ⟨b8, 0, none⟩ = some (.slice A1 0 c1) := Blk_10.cell HT7.out rfl; have b7 : W7.cell? ⟨b8, 1, none⟩ = some (.slice A2 0 c2) := Blk_10.cell HT7.out rfl))
        go_ret
        have h8 := D6.out
        exact ⟨rfl, h8.trans (E7.out.mono h8.size)⟩
      · obtain ⟨rn, hrn⟩ : ∃ r, R.length = r := ⟨_, rfl⟩
        have HRN := Lib.hid hrn
        have HR1 : Hid (0 < rn) := Lib.hid (by rw [← hrn]; exact List.length_pos_iff.2 hR0)
        have HLP : Hid (L.length = p) := Lib.hid (by rw [← HL.out]; exact slotL_len key hR0)
        have PG : Hid (∀ (A8 : Option Addr) (c8 : Nat) (_ : rn ≤ c8) (_ : c8 ≤ maxLen) (W : World) (_ : RdG eS W W.heap.size A8 rn R), Calls Try.prog 12 #[.agg (key.map v8).toArray, .int .i64 (p : Int), .slice A8 rn c8] W (BuildG rn p N L W)) := Lib.hid (fun A8 c8 h1 h2 W h3 => build_g (by have h9 := PB.out A8 c8 (by rw [hrn]; exact h1) h2 W (by rw [hrn]; exact h3); rw [hrn] at h9; exact h9) (by rw [HNR.out, hrn]) HLP.out)
        have HLM : Hid (p ≤ 65537) := Lib.hid HSZ.out.most
        obtain ⟨T, hT⟩ : ∃ T, tbOf key p R = T := ⟨_, rfl⟩
        have HTE := Lib.hid hT
        have HOK : Hid T.Ok := Lib.hid (by rw [← hT]; exact HFU.out.ok hR0 key HSZ.out)
        have HTN : Hid (T.n = rn) := Lib.hid (by rw [← hT, ← hrn]; rfl)
        have HTM : Hid (T.m = p) := Lib.hid (by rw [← hT]; rfl)
        have HTL : Hid (T.out = L) := Lib.hid (by rw [← HL.out]; unfold slotL; rw [if_neg hR0, hT])
        have HTG : Hid (bestL R = ((T.G : Nat) : Int)) := Lib.hid (by rw [← hT]; exact tb_G key p R)
        rw [hrn] at HRG PR HRL
        obtain ⟨C, hC⟩ : ∃ C, cntN L = C := ⟨_, rfl⟩
        have HCE := Lib.hid hC
        have HSU : Hid (sumC C rn = p) := Lib.hid (by have h9 := Tb.out_sum HOK.out; rw [HTL.out, HTN.out, HTM.out] at h9; rw [← hC]; exact h9)
        have h1 : ¬ (rn : Int) = 0 := by have := HR1.out; omega
        have h2 : ((rn : Int) == 0) = false := by simp; have := HR1.out; omega
        have h3 : (rn == 0) = false := by simp; have := HR1.out; omega
        clear hrn hR0 hT hC
        go_wp2_with (first
          | ((with_reducible refine (HF0.out W1 D1.out).mono ?_); rintro e W2 ⟨rfl, rfl⟩)
          | ((with_reducible refine (HM0.out _ D1.out).mono ?_); rintro e W3 ⟨rfl, hb⟩; have D3 := Lib.hid (D1.out.trans (hb.mono D1.out.size)); have HK3 := Lib.hid (Blk_10.below HK1.out (Blk_10.lt HK1.out) hb); clear hb)
          | ((with_reducible refine (HNX.out _).mono ?_); rintro e W4 ⟨rfl, rfl⟩)
          | (go_at_call 20; refine (PR.out W3 D3.out).mono ?_; rintro e W5 ⟨A8, c8, rfl, k8, l8, hov, hb⟩; have HR8 := Lib.hid hov; have HK8 := Lib.hid k8; have HL8 := Lib.hid l8; have D5 := Lib.hid (D3.out.trans (hb.mono D3.out.size)); have HK5 := Lib.hid (Blk_10.below HK3.out (Blk_10.lt HK3.out) hb); clear k8 l8 hov hb)
          | ((with_reducible show wpList _ _ _ (⟨some 37, _, _, _, _, _⟩ :: _) _ _); refine wpList_loadM (op := ⟨some 37, _, _, _, _, _⟩) 22 _ rfl (by rfl) w.heap.size 0 (by rfl) (key.map v8) (Blk_10.range HK5.out) _ Try.underlying22 rfl (keyp_size HKL.out) ?_)
          | (go_at_call 12; refine (PG.out A8 c8 HK8.out HL8.out W5 HR8.out.rd).mono ?_; rintro e W6 ⟨A1, c1, A2, c2, rfl, k1, k2, k3, k4, ho1, ho2, hb⟩; have HO1 := Lib.hid ho1; have HO2 := Lib.hid ho2; have HB6 := Lib.hid hb; have KA := Lib.hid k1; have KB := Lib.hid k2; have KC := Lib.hid k3; have KD := Lib.hid k4; clear ho1 ho2 hb k1 k2 k3 k4; have HB6z := Lib.hid (HB6.out.alloc HB6.out.size (.cells #[.slice A1 rn c1, .slice A2 p c2] 30)); have HT6 := Lib.hid (tbl_new W6 (.slice A1 rn c1) (.slice A2 p c2)); have a6 : (W6.alloc (.cells #[.slice A1 rn c1, .slice A2 p c2] 30)).cell? ⟨W6.heap.size, 0, none⟩ = some (.slice A1 rn c1) := Blk_10.cell HT6.out rfl; have b6 : (W6.alloc (.cells #[.slice A1 rn c1, .slice A2 p c2] 30)).cell? ⟨W6.heap.size, 1, none⟩ = some (.slice A2 p c2) := Blk_10.cell HT6.out rfl)
          | (go_at_call 21; clear a6 b6; obtain ⟨Z6, hZ6⟩ : ∃ Z, W6.alloc (.cells #[.slice A1 rn c1, .slice A2 p c2] 30) = Z := ⟨_, rfl⟩; rw [hZ6]; have HZ6 := Lib.hid hZ6; clear hZ6; obtain ⟨b8, hb8⟩ : ∃ b, W6.heap.size = b := ⟨_, rfl⟩; have HT6z : Hid (Blk Z6 30 b8 [.slice A1 rn c1, .slice A2 p c2]) := Lib.hid (by rw [← HZ6.out, ← hb8]; exact HT6.out); have HB7 : Hid (Below W5.heap.size W5 Z6) := Lib.hid (below_zed HB6.out HZ6.out); have D6 : Hid (Below w.heap.size w Z6) := Lib.hid (D5.out.trans (HB7.out.mono D5.out.size)); have HK6 := Lib.hid (Blk_10.below HK5.out (Blk_10.lt HK5.out) HB7.out); have HO1z : Hid (OwnG eN Z6 W5.heap.size (.slice A1 rn c1) N) := Lib.hid (by rw [← HZ6.out]; exact HO1.out.alloc _); have HO2z : Hid (OwnG eZ Z6 W5.heap.size (.slice A2 p c2) L) := Lib.hid (by rw [← HZ6.out]; exact HO2.out.alloc _); have HR6 := Lib.hid (HR8.out.below HB7.out); rw [hb8]; clear hb8; refine (right_tbl (Nat.le_trans HRL.out (by decide)) HLM.out HRG.out Z6 (Nat.le_refl _) HO1z.out.rd HO2z.out.rd).mono ?_; rintro e W7 ⟨rfl, hb⟩; have E7 := Lib.hid hb; have HT7 := Lib.hid (Blk_10.below HT6z.out (Blk_10.lt HT6z.out) hb); clear hb; have a7 : W7.cell? ⟨b8, 0, none⟩ = some (.slice A1 rn c1) := Blk_10.cell HT7.out rfl; have b7 : W7.cell? ⟨b8, 1, none⟩ = some (.slice A2 p c2) := Blk_10.cell HT7.out rfl)
          | (go_at_call 22; refine (HSS.out.count A1 A2 rn c1 p c2 N L (Nat.le_trans HRL.out (by decide)) HLM.out KA.out KB.out KC.out KD.out HRG.out W7 _ _ (Nat.le_refl _) (Nat.le_refl _) (HO1z.out.below E7.out).rd (HO2z.out.below E7.out).rd).mono ?_; rintro e W8 ⟨v, rfl, hv, hb⟩; clear a7 b7; obtain ⟨gc, cc, hcv, _, _, _, _⟩ := hv.form (by rw [cntZ_len]; exact HR1.out); rw [cntZ_len] at hcv; subst hcv; have HV := Lib.hid hv; have E8 := Lib.hid (E7.out.trans (hb.mono E7.out.size)); have HT8 := Lib.hid (Blk_10.below HT6z.out (Blk_10.lt HT6z.out) E8.out); clear hv hb; have a9 : W8.cell? ⟨b8, 0, none⟩ = some (.slice A1 rn c1) := Blk_10.cell HT8.out rfl; have b9 : W8.cell? ⟨b8, 1, none⟩ = some (.slice A2 p c2) := Blk_10.cell HT8.out rfl))
        refine (greatest_any c8 (Nat.le_trans HRL.out (by decide)) W8 (HR6.out.below E8.out).rd).mono ?_
        rintro e W9 ⟨rfl, rfl⟩
        rw [HTG.out]
        have HRS := Lib.hid (HR6.out.below E8.out)
        have HO1y := Lib.hid (HO1z.out.below E8.out)
        obtain ⟨g1, c1', hv1, _⟩ := HO1y.out.form (by rw [HNR.out, HRN.out]; exact HR1.out)
        rw [HNR.out, HRN.out] at hv1
        injection hv1 with hv11 _ hv12
        subst hv11 hv12
        obtain ⟨g9, c9', hv9, _⟩ := HRS.out.form (by rw [HRN.out]; exact HR1.out)
        rw [HRN.out] at hv9
        injection hv9 with hv91 _ hv92
        subst hv91 hv92
        have HCELL : Hid (∀ j x, R[j]? = some x → ∀ W, Below W9.heap.size W9 W → W.cell? ⟨g1, j, none⟩ = some (.string ⟨x.nm.toArray⟩) ∧ W.cell? ⟨g9, j * 2, none⟩ = some (.string ⟨x.nm.toArray⟩) ∧ W.cell? ⟨g9, j * 2 + 1, none⟩ = some (.int .i64 ((T.q j : Nat) : Int)) ∧ W.cell? ⟨gc, j, none⟩ = some (.int .i64 ((C j : Nat) : Int)) ∧ W.cell? ⟨b8, 0, none⟩ = some (.slice (some ⟨g1, 0, none⟩) rn c1)) := Lib.hid (fun j x hx W hW => by
          have hj : j < rn := by rw [← HRN.out]; exact (List.getElem?_eq_some_iff.1 hx).1
          have hnj : N[j]? = some x.nm := by rw [← HN.out, List.getElem?_map, hx]; rfl
          have e1 := (HO1y.out.below hW).cell hnj 0 (u := strV x.nm) rfl
          rw [show j * eN.k + 0 = j from by show j * 1 + 0 = j; omega] at e1
          have e2 := ((HRS.out.below hW).rd).name hx
          have e3 := ((HRS.out.below hW).rd).quanta hx
          rw [Nat.zero_add] at e2 e3
          have hq := tb_q (key := key) (p := p) HFU.out hx
          rw [HTE.out] at hq
          rw [hq] at e3
          have e4 := (HV.out.below hW).cell (cntZ_get rn L hj) 0 rfl
          rw [show j * eZ.k + 0 = j from by show j * 1 + 0 = j; omega, HCE.out] at e4
          exact ⟨e1, e2, e3, e4, Blk_10.cell (Blk_10.below HT8.out (Blk_10.lt HT8.out) hW) rfl⟩)
        have HGP : Hid (0 < T.G ∧ T.G ≤ 1024000) := Lib.hid (by have h9 := HFU.out.best (by rintro rfl; have := HRN.out; have := HR1.out; simp at *; omega); rw [HTG.out] at h9; omega)
        have HQG : Hid (∀ j, j < rn → T.q j ≤ T.G) := Lib.hid (fun j hj => HOK.out.le j (by rw [HTN.out]; exact hj))
        have HO2y := Lib.hid (HO2z.out.below E8.out)
        obtain ⟨gs, c2', hv2, _⟩ := HO2y.out.form (by rw [HLP.out]; have := HSZ.out.two; omega)
        rw [HLP.out] at hv2
        injection hv2 with hv21 _ hv22
        subst hv21 hv22
        have HKC := Lib.hid (Blk_10.below HK6.out (Blk_10.lt HK6.out) E8.out)
        clear a9 b9 h1 h2 h3
        go_wp2_with fail
        obtain ⟨G, hG⟩ : ∃ G, T.G = G := ⟨_, rfl⟩
        have HGE := Lib.hid hG
        rw [hG]
        rw [hG] at HGP HQG
        clear hG
        obtain ⟨Q, hQ⟩ : ∃ Q, T.q = Q := ⟨_, rfl⟩
        have HQE := Lib.hid hQ
        rw [hQ] at HCELL HQG
        clear hQ
        obtain ⟨i0, hi0, hq0⟩ := HOK.out.top
        rw [HTN.out] at hi0
        rw [HGE.out, HQE.out] at hq0
        have HI0 := Lib.hid hi0
        have HQ0 := Lib.hid hq0
        clear hi0 hq0
        go_loopw [13] (fun i wr => ∃ j : Nat, j < rn ∧ i = .int .i64 (j : Int) ∧ (∀ k, k < j → Q k < G) ∧ Below W9.heap.size W9 wr)
          (fun i _ => rn - (intOf i).toNat)
        case atStart => exact ⟨0, HR1.out, rfl, fun k hk => absurd hk (by omega), Below.refl _ _⟩
        case round =>
          obtain ⟨j, hlt, rfl, hall, hbe⟩ := hrel
          have HBE := Lib.hid hbe
          have HAL := Lib.hid hall
          have hj : j ≤ rn := Nat.le_of_lt hlt
          clear hbe hall
          obtain ⟨x, hx⟩ : ∃ x, R[j]? = some x := ⟨_, List.getElem?_eq_getElem (by rw [HRN.out]; exact hlt)⟩
          obtain ⟨f1, f2, f3, f4, f5⟩ := HCELL.out j x hx wr HBE.out
          have hqG := HQG.out j hlt
          have hcp : C j ≤ 65537 := Nat.le_trans (sum_le C hlt) (by rw [HSU.out]; exact HLM.out)
          have HLT := Lib.hid hlt
          have h1 : (j : Int) < (rn : Int) := by omega
          have h0 : (0 : Int) ≤ (j : Int) := by omega
          have hj9 : j < 30 := by have := HRL.out; omega
          obtain ⟨q, hq⟩ : ∃ q, Q j = q := ⟨_, rfl⟩
          have HQJ := Lib.hid hq
          rw [hq] at f3 hqG
          obtain ⟨c, hc⟩ : ∃ c, C j = c := ⟨_, rfl⟩
          have HCJ := Lib.hid hc
          rw [hc] at f4 hcp
          have HXX := Lib.hid hx
          clear hx hlt hj hq hc
          by_cases hqG2 : q < G
          · have hqi : (q : Int) < (G : Int) := by omega
            have HJ1 : Hid (j + 1 < rn) := Lib.hid (by
              have h5 := HQ0.out
              have h6 := HI0.out
              have h7 := HQJ.out
              rcases Nat.lt_trichotomy i0 j with h | h | h
              · have := HAL.out i0 h
                omega
              · subst h
                omega
              · omega)
            have HAN : Hid (∀ k, k < j + 1 → Q k < G) := Lib.hid (fun k hk => by
              by_cases e : k = j
              · subst e
                rw [HQJ.out]
                exact hqG2
              · exact HAL.out k (by omega))
            clear hqG2
            go_wp2_with fail
            go_roundw
            case rel => exact ⟨j + 1, HJ1.out, (by have := HLT.out; go_num), HAN.out, HBE.out⟩
            case measure =>
              have := HLT.out
              simp [intOf]
              omega
          · have hqi : ¬ (q : Int) < (G : Int) := by omega
            have HQX : Hid (T.q j = T.G) := Lib.hid (by rw [HQE.out, HGE.out, HQJ.out]; omega)
            have HAJ : Hid (∀ k, k < j → T.q k < T.G) := Lib.hid (fun k hk => by rw [HQE.out, HGE.out]; exact HAL.out k hk)
            obtain ⟨off, hoff⟩ : ∃ a, offN key x.nm p = a := ⟨_, rfl⟩
            have HOP : Hid (off < p) := Lib.hid (by rw [← hoff]; exact offN_lt HSZ.out key x.nm)
            have HSL : Hid (L[off]? = some (j : Int)) := Lib.hid (by
              have h9 := Tb.out_first HOK.out (i := j) (by rw [HTN.out]; exact HLT.out) HQX.out HAJ.out
              rw [HTL.out] at h9
              have e : T.ch j 0 = off := by
                rw [← HTE.out]
                show chN (offN key (atS R j).nm p) (skN key (atS R j).nm p) p 0 = off
                rw [atS_eq HXX.out, hoff]
                exact ch_first _ HOP.out
              rw [e] at h9
              exact h9)
            have POF : Hid (∀ W : World, Calls Try.prog 24 #[keyC key, .string ⟨x.nm.toArray⟩, .int .i64 (p : Int)] W fun e w' => e = .returned (.tuple #[.int .i64 (off : Int), .int .i64 (skN key x.nm p : Nat)]) ∧ Below W.heap.size W w') := Lib.hid (fun W => by
              have h9 := jrof_any key HKL.out ⟨x.nm.toArray⟩ (Nat.le_trans (HRX.out x (List.mem_of_getElem? HXX.out)) (by decide)) p HSZ.out W
              have e : (ByteArray.mk x.nm.toArray).data.toList = x.nm := rfl
              rw [e, hoff] at h9
              exact h9)
            have HNMF : Hid (∀ W, Below wr.heap.size wr W → W.cell? ⟨g9, j * 2, none⟩ = some (.string ⟨x.nm.toArray⟩)) := Lib.hid (fun W hW => (HCELL.out j x HXX.out W (HBE.out.trans (hW.mono HBE.out.size))).2.1)
            have HKD := Lib.hid (Blk_10.below HKC.out (Blk_10.lt HKC.out) HBE.out)
            obtain ⟨sk, hsk⟩ : ∃ s, skN key x.nm p = s := ⟨_, rfl⟩
            rw [hsk] at POF
            clear hqG2 hoff hsk f1 f2 f4 f5
            go_wp2_with fail
            refine wp_region_held_drew (S := fun W => Below wr.heap.size wr W) (by kernel_rfl) ((Below.refl wr.heap.size wr).drew) (fun hHeld => ?_)
            obtain ⟨X0, hX0⟩ : ∃ X, wr.drew = X := ⟨_, rfl⟩
            rw [hX0] at hHeld ⊢
            clear hX0
            refine tkY 0 87 (keyC key) rfl (yields_keyp (by rfl) _ rfl w.heap.size rfl key HKL.out (fun W hW => Blk_10.below HKD.out (Blk_10.lt HKD.out) hW)) hHeld ?_
            simp only [Act.put, sA, sZ, sS]
            refine tk 1 88 (.slice (some ⟨g9, 0, none⟩) rn c8) rfl hHeld ?_
            simp only [Act.put, sA, sZ, sS]
            refine tk 2 89 (.int .i64 (j : Int)) rfl hHeld ?_
            simp only [Act.put, sA, sZ, sS]
            refine tk 3 90 (.pointer (some ⟨g9, j * 2, none⟩)) rfl hHeld ?_
            simp only [Act.put, sA, sZ, sS]
            refine tk 4 91 (.pointer (some ⟨g9, j * 2, none⟩)) rfl hHeld ?_
            simp only [Act.put, sA, sZ, sS]
            refine tkY 5 92 (.string ⟨x.nm.toArray⟩) rfl (Or.inl ⟨by rfl, fun W hW => by have hc := HNMF.out W hW; go_simp⟩) hHeld ?_
            simp only [Act.put, sA, sZ, sS]
            refine tk 6 93 (.int .i64 (p : Int)) rfl hHeld ?_
            simp only [Act.put, sA, sZ, sS]
            refine wpAnyH_ready (rs := [7]) (by kernel_rfl) (by simp) (AllReadyH.cons (o := ⟨some 94, _, _, _, _, _⟩) rfl (fun K hK => ?_) AllReadyH.nil)
            go_simp
            refine (POF.out X0).mono ?_
            rintro e X1 ⟨rfl, hb⟩
            have HX1 := Lib.hid (hHeld.trans (hb.mono hHeld.size))
            clear hb
            refine hK.out _ _ HX1.out (fun hHeld => ?_)
            clear hK K
            refine tk 8 86 (.tuple #[.int .i64 (off : Int), .int .i64 (sk : Int)]) rfl hHeld ?_
            simp only [Act.put, sA, sZ, sS]
            refine tk 9 95 (.int .i64 (off : Int)) rfl hHeld ?_
            simp only [Act.put, sA, sZ, sS]
            refine tk 10 96 (.int .i64 (sk : Int)) rfl hHeld ?_
            simp only [Act.put, sA, sZ, sS]
            refine tk 11 14 (.int .i64 (off : Int)) rfl hHeld ?_
            simp only [Act.put, sA, sZ, sS]
            refine tk 12 15 (.int .i64 (sk : Int)) rfl hHeld ?_
            simp only [Act.put, sA, sZ, sS]
            refine wpAnyH_done (by kernel_rfl) ?_ _
            clear hHeld
            have HBX := Lib.hid (HBE.out.trans (HX1.out.mono HBE.out.size))
            have t1 : X1.cell? ⟨b8, 1, none⟩ = some (.slice (some ⟨gs, 0, none⟩) p c2) := Blk_10.cell (Blk_10.below HT8.out (Blk_10.lt HT8.out) HBX.out) rfl
            have t2 : X1.cell? ⟨gs, off, none⟩ = some (.int .i64 (j : Int)) := by have h9 := (HO2y.out.below HBX.out).cell HSL.out 0 (u := .int .i64 (j : Int)) rfl; rwa [show off * eZ.k + 0 = off from by show off * 1 + 0 = off; omega] at h9
            have o1 : (off : Int) < (p : Int) := by have := HOP.out; omega
            have o2 : (0 : Int) ≤ (off : Int) := by omega
            have hp9 := HLM.out
            go_wp2_with fail
            clear t1 t2 o1 o2 f3
            go_loopw [16] (fun i wr => ∃ a : Nat, a ≤ rn ∧ i = .int .i64 (a : Int) ∧ Below W9.heap.size W9 wr)
              (fun i _ => rn - (intOf i).toNat)
            case atStart => exact ⟨0, Nat.zero_le _, rfl, HBX.out⟩
            case round =>
              obtain ⟨a, ha, rfl, hbe⟩ := hrel
              have HBA := Lib.hid hbe
              clear hbe
              by_cases hla : a < rn
              · have ha1 : (a : Int) < (rn : Int) := by omega
                have HLA := Lib.hid hla
                go_wp2_with fail
                obtain ⟨wo, hwo⟩ : ∃ z, z = wr := ⟨_, rfl⟩
                subst hwo
                clear ha1 hla ha
                go_loopw [17] (fun i wr => ∃ b : Nat, b ≤ rn ∧ i = .int .i64 (b : Int) ∧ Below W9.heap.size W9 wr)
                  (fun i _ => rn - (intOf i).toNat)
                case atStart => exact ⟨0, Nat.zero_le _, rfl, HBA.out⟩
                case round =>
                  obtain ⟨b, hb, rfl, hbe⟩ := hrel
                  have HBB := Lib.hid hbe
                  clear hbe
                  have ha1 : (a : Int) < (rn : Int) := by have := HLA.out; omega
                  have ha0 : (0 : Int) ≤ (a : Int) := by omega
                  have h30 := HRL.out
                  by_cases hlb : b < rn
                  · have hb1 : (b : Int) < (rn : Int) := by omega
                    have hb0 : (0 : Int) ≤ (b : Int) := by omega
                    have HLB := Lib.hid hlb
                    obtain ⟨xa, hxa⟩ : ∃ x, R[a]? = some x := ⟨_, List.getElem?_eq_getElem (by rw [HRN.out]; exact HLA.out)⟩
                    obtain ⟨xb, hxb⟩ : ∃ x, R[b]? = some x := ⟨_, List.getElem?_eq_getElem (by rw [HRN.out]; exact hlb)⟩
                    obtain ⟨_, _, u3, u4, _⟩ := HCELL.out a xa hxa wr HBB.out
                    obtain ⟨_, _, v3, v4, _⟩ := HCELL.out b xb hxb wr HBB.out
                    have hnr : Q a = Q b → C a ≤ C b + 1 := fun h => by
                      have h9 := cnt_near HOK.out (i := a) (k := b) (by rw [HTN.out]; exact HLA.out) (by rw [HTN.out]; exact hlb) (by rw [HQE.out]; exact h)
                      rw [HTL.out, HCE.out] at h9
                      exact h9
                    have hca : C a ≤ 65537 := Nat.le_trans (sum_le C HLA.out) (by rw [HSU.out]; exact HLM.out)
                    have hcb : C b ≤ 65537 := Nat.le_trans (sum_le C hlb) (by rw [HSU.out]; exact HLM.out)
                    obtain ⟨qa, hqa⟩ : ∃ q, Q a = q := ⟨_, rfl⟩
                    obtain ⟨qb, hqb⟩ : ∃ q, Q b = q := ⟨_, rfl⟩
                    obtain ⟨ca, hca2⟩ : ∃ q, C a = q := ⟨_, rfl⟩
                    obtain ⟨cb, hcb2⟩ : ∃ q, C b = q := ⟨_, rfl⟩
                    rw [hqa] at u3 hnr
                    rw [hqb] at v3 hnr
                    rw [hca2] at u4 hnr hca
                    rw [hcb2] at v4 hnr hcb
                    clear hxa hxb hqa hqb hca2 hcb2 hlb hb
                    by_cases hqq : qa = qb
                    · have hcc := hnr hqq
                      subst hqq
                      have hc1 : ¬ (ca : Int) > (cb : Int) + 1 := by omega
                      have hc2 : ¬ (cb : Int) + 1 < (ca : Int) := by omega
                      clear hnr
                      go_wp2_with fail
                      go_quiet (fail)
                      go_wp2_with fail
                      go_roundw
                      case rel => exact ⟨b + 1, HLB.out, (by have := HLB.out; go_num), below_drewN HBB.out _⟩
                      case measure =>
                        have := HLB.out
                        simp [intOf]
                        omega
                    · have hq1 : ((qa : Int) == (qb : Int)) = false := by simp; omega
                      have hq2 : (qa == qb) = false := by simp; omega
                      have hq3 : ¬ (qa : Int) = (qb : Int) := by omega
                      clear hnr
                      go_wp2_with fail
                      go_quiet (fail)
                      go_wp2_with fail
                      go_roundw
                      case rel => exact ⟨b + 1, HLB.out, (by have := HLB.out; go_num), below_drewN HBB.out _⟩
                      case measure =>
                        have := HLB.out
                        simp [intOf]
                        omega
                  · obtain rfl : rn = b := by omega
                    have hb1 : ¬ (rn : Int) < (rn : Int) := by omega
                    clear hlb hb
                    go_wp2_with fail
                    go_roundw
                    case rel => exact ⟨a + 1, HLA.out, (by have := HLA.out; go_num), HBB.out⟩
                    case measure =>
                      have := HLA.out
                      simp [intOf]
                      omega
              · obtain rfl : rn = a := by omega
                have ha1 : ¬ (rn : Int) < (rn : Int) := by omega
                clear hla ha
                have HEND : Hid (Below w.heap.size w wr) := Lib.hid (by
                  have h7 := E8.out.trans (HBA.out.mono E8.out.size)
                  exact D6.out.trans (h7.mono D6.out.size))
                by_cases h1r : 1 < rn
                · have hr1 : 1 < (rn : Int) := by omega
                  go_wp2_with fail
                  go_ret
                  exact ⟨rfl, HEND.out⟩
                · have hr1 : ¬ 1 < (rn : Int) := by omega
                  have hrn1 : rn = 1 := by have := HR1.out; omega
                  have hc0 : C 0 = p := by
                    have h9 := HSU.out
                    rw [hrn1] at h9
                    have e : sumC C 1 = C 0 := by simp [sumC]
                    rw [← e]
                    exact h9
                  obtain ⟨x0, hx0⟩ : ∃ x, R[0]? = some x := ⟨_, List.getElem?_eq_getElem (by rw [HRN.out]; exact HR1.out)⟩
                  obtain ⟨_, _, _, u4, _⟩ := HCELL.out 0 x0 hx0 wr HBA.out
                  rw [hc0] at u4
                  have hr0 : 0 < (rn : Int) := by have := HR1.out; omega
                  clear hc0 hrn1 hx0 h1r
                  go_wp2_with fail
                  go_ret
                  exact ⟨rfl, HEND.out⟩
end Go.Proofs.Ytmngagcekhlppaa
