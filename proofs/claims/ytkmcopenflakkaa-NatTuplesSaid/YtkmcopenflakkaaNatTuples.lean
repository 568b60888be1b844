/-
  PROVED HERE: 'NatTuplesSaid': whatever bytes frame and more, address addr and number port are, the Go function NatTuples of package wayleavelaw12 returns true, and its arguments read behind the call as they read before. No condition.
-/
import Derived.Test.YtkmcopenflakkaaNEql
namespace Go.Proofs.Ytkmcopenflakkaa
set_option maxRecDepth 100000
open Go.RowKit Go.Lib Go.ChangeShapes Go.WideShapes Go.ChangeAt

set_option maxHeartbeats 16000000 in
theorem natTuples_walk (A : Option Addr) (len cap : Nat) (xs : List UInt8) (hca : len ≤ cap) (hma : cap ≤ maxLen) (a : Ad) (ha : a.b.length = 16) (m : Int) (_ : -9223372036854775808 ≤ m) (_ : m ≤ 9223372036854775807) (B : Option Addr) (mo cb : Nat) (ys : List UInt8) (hcb : mo ≤ cb) (hmb : cb ≤ maxLen) (w : World) (hI : Rd w w.heap.size A len xs) (hJ : Rd w w.heap.size B mo ys) :
    Calls Try.prog 4 #[.slice A len cap, adC a, .int .i64 m, .slice B mo cb] w fun e w' => e = .returned (.bool true) ∧ Below w.heap.size w w' := by
  have hmm : mo ≤ 9223372036854775807 := by unfold maxLen at hmb; omega
  have HRY := Lib.hid (fun W (hB : Below w.heap.size w W) => (hJ.below hB).more hB.size)
  have HYL := Lib.hid hJ.len
  have hml : len ≤ 9223372036854775807 := by unfold maxLen at hma; omega
  obtain ⟨Y, hY, hq, hbel⟩ := box_ad w a
  have HXL := Lib.hid hI.len
  have HRX := Lib.hid (fun W (hB : Below w.heap.size w W) => (hI.below hB).more hB.size)
  have HCA := Lib.hid hca
  have HMA := Lib.hid hma
  have HAL := Lib.hid ha
  have E1 := Lib.hid (show adC a = .agg (adL a).toArray from rfl)
  obtain ⟨C1, hC1⟩ : ∃ C, (adL a).toArray = C := ⟨_, rfl⟩
  rw [E1.out]
  rw [hC1] at hY ⊢
  rw [hC1] at E1
  have HC1 := Lib.hid hC1
  have HY := Lib.hid hY
  have HQ := Lib.hid hq
  have HB := Lib.hid hbel
  clear hI hJ hY hq hbel hC1 ha hca hma
  go_enter Try.func4, Try.ntmps4
  go_wp2_with fail
  rw [HY.out]
  refine (awake_any _).mono ?_
  rintro e w1 ⟨rfl, hb1⟩
  have HB1 := Lib.hid (HB.out.trans (hb1.mono HB.out.size))
  have HQ1 := Lib.hid (HQ.out.below HQ.out.lt hb1)
  clear hb1
  by_cases hbig : 3000 < len ∨ 300 < mo
  · by_cases hn : 3000 < len
    · have hn' : (3000 : Int) < (len : Int) := by omega
      have hnb : decide ((3000 : Int) < (len : Int)) = true := decide_eq_true hn'
      clear hbig hn
      go_wp2_with fail
      refine (awake_any _).mono ?_
      rintro e w2 ⟨rfl, hb2⟩
      go_wp2_with fail
      go_ret
      exact ⟨rfl, HB1.out.trans (hb2.mono HB1.out.size)⟩
    · have hn' : ¬ (3000 : Int) < (len : Int) := by omega
      have hnb : decide ((3000 : Int) < (len : Int)) = false := decide_eq_false hn'
      have hl' : (300 : Int) < (mo : Int) := by omega
      have hlb : decide ((300 : Int) < (mo : Int)) = true := decide_eq_true hl'
      clear hbig hn
      go_wp2_with fail
      refine (awake_any _).mono ?_
      rintro e w2 ⟨rfl, hb2⟩
      go_wp2_with fail
      go_ret
      exact ⟨rfl, HB1.out.trans (hb2.mono HB1.out.size)⟩
  · have hn' : ¬ (3000 : Int) < (len : Int) := by omega
    have hnb : decide ((3000 : Int) < (len : Int)) = false := decide_eq_false hn'
    have hl' : ¬ (300 : Int) < (mo : Int) := by omega
    have hlb : decide ((300 : Int) < (mo : Int)) = false := decide_eq_false hl'
    have hlen : len ≤ 3000 := by omega
    have hmo : mo ≤ 300 := by omega
    clear hbig
    have HRD := Lib.hid (kread_any A len cap xs (by omega) HCA.out w1 (HRX.out w1 HB1.out))
    have HOK := Lib.hid (readK_ok xs)
    obtain ⟨k, hk⟩ : ∃ k, readK xs = k := ⟨_, rfl⟩
    have HK := Lib.hid hk
    rw [hk] at HRD HOK
    clear hk
    go_wp2_with fail
    refine HRD.out.mono ?_
    rintro e w2 ⟨rfl, hb2⟩
    have HB2 := Lib.hid (HB1.out.trans (hb2.mono HB1.out.size))
    have HQ2 := Lib.hid (HQ1.out.below HQ1.out.lt hb2)
    clear hb2 hn' hnb hl' hlb
    have HN1 := Lib.hid hlen
    have HN2 := Lib.hid hmo
    clear hlen hmo
    go_wp2_with (((with_reducible show wpList _ _ _ (⟨none, .store 37 (.tmp 9) _, _, _, _, _⟩ :: _) _ _); refine wpList_storePk rfl (.tmp 9) _ rfl (by rfl) (k) HOK.out (by rfl) (by rfl) ?_; intro w3 hp_ hb_; have HP3 := Lib.hid hp_; have HB3 := Lib.hid (HB2.out.trans (hb_.mono HB2.out.size)); have HQ3 := Lib.hid (HQ2.out.below HQ2.out.lt hb_); clear hp_ hb_; have NPB := Lib.hid HB2.out.size; generalize w2.heap.size = G at HP3 NPB ⊢))
    refine wp_region_held_drew (S := fun W => Below w3.heap.size w3 W) (by kernel_rfl) ((Below.refl _ _).drew) (fun hHeld => ?_)
    obtain ⟨X, hX⟩ : ∃ X, w3.drew = X := ⟨_, rfl⟩
    rw [hX] at hHeld ⊢
    clear hX
    refine tk 1 34 (.slice A len cap) rfl hHeld ?_
    simp only [Act.put, sA, sZ, sS]
    refine tk 3 36 (.slice B mo cb) rfl hHeld ?_
    simp only [Act.put, sA, sZ, sS]
    refine tkY 5 38 (.agg C1) rfl (HC1.out ▸ yieldsIf_load_mid (by rfl) 25 _ rfl w.heap.size 0 rfl (adL a) _ (fun W hW => Blk_10.range (HQ3.out.below HQ3.out.lt hW)) Try.underlying25 rfl (sizeAdL HAL.out)) hHeld ?_
    simp only [Act.put, sA, sZ, sS]
    refine tk 6 39 (.int .i64 m) rfl hHeld ?_
    simp only [Act.put, sA, sZ, sS]
    refine wpAnyH_ready (rs := [0]) (by kernel_rfl) (by simp) (AllReadyH.cons (o := ⟨some 33, _, _, _, _, _⟩) rfl (fun K hK => ?_) AllReadyH.nil)
    go_simp
    have HE := Lib.hid (empty8 (base := w3.heap.size) X hHeld.size)
    have HH := Lib.hid (hHeld.alloc hHeld.size (.cells #[] 5))
    have HXX := Lib.hid ((HRX.out _ (HB3.out.trans (HH.out.mono HB3.out.size))))
    generalize X.alloc (.cells #[] 5) = X0 at HE HH HXX ⊢
    generalize X.heap.size = g0 at HE ⊢
    refine hK.out _ _ (HH.out) (fun hHeld => ?_)
    clear hK K 
    refine wpAnyH_ready (rs := [2]) (by kernel_rfl) (by simp) (AllReadyH.cons (o := ⟨some 35, _, _, _, _, _⟩) rfl (fun K hK => ?_) AllReadyH.nil)
    refine step_append8 rfl (.tmp 33) (.tmp 34) rfl w3.heap.size _ [] (by rfl) HE.out _ A len cap xs (by rfl) HXX.out (by have := HN1.out; rw [List.length_nil]; omega) HH.out.size ?_
    intro v4 w4 ho4 hg4
    rw [List.nil_append] at ho4
    have HH4 := Lib.hid (HH.out.grown hg4 HH.out.size HE.out.lt)
    have HO4 := Lib.hid ho4
    have HYY := Lib.hid ((HRY.out _ (HB3.out.trans (HH4.out.mono HB3.out.size))))
    refine hK.out _ _ (HH4.out) (fun hHeld => ?_)
    clear hK K ho4 hg4 HE HXX HH
    refine wpAnyH_ready (rs := [4]) (by kernel_rfl) (by simp) (AllReadyH.cons (o := ⟨some 37, _, _, _, _, _⟩) rfl (fun K hK => ?_) AllReadyH.nil)
    refine step_append8 rfl (.tmp 35) (.tmp 36) rfl w3.heap.size v4 xs (by rfl) HO4.out _ B mo cb ys (by rfl) HYY.out (by have := HN1.out; have := HN2.out; rw [HXL.out]; omega) HH4.out.size ?_
    intro v5 w5 ho5 hg5
    have HH5 := Lib.hid (HH4.out.grown hg5 HH4.out.size HO4.out.lt)
    obtain ⟨A5, c5, rfl, h51, h52, hr5⟩ := ho5.formN (n := len + mo) (by rw [List.length_append, HXL.out, HYL.out])
    have TO := Lib.hid (nto_any HAL.out (m := m) (by have := HN1.out; have := HN2.out; omega) h51 h52 w5 hr5)
    rw [E1.out] at TO
    refine hK.out _ _ (HH5.out) (fun hHeld => ?_)
    clear hK K ho5 hg5 hr5 h51 h52 HO4 HYY HH4
    refine wpAnyH_ready (rs := [7]) (by kernel_rfl) (by simp) (AllReadyH.cons (o := ⟨some 40, _, _, _, _, _⟩) rfl (fun K hK => ?_) AllReadyH.nil)
    go_simp
    refine TO.out.mono ?_
    rintro e w6 ⟨hn, hy, hb6⟩
    obtain ⟨v6, ev, hev, hyy⟩ : ∃ (v : Value) (ev : Int), e = .returned (.tuple #[v, .int .i64 ev]) ∧ (mayN k a m = true → ev = 0 ∧ Own8 w6 w5.heap.size v (natL xs a m true)) := by
      cases hc : mayN (readK (xs ++ ys)) a m with
      | false => exact ⟨_, _, hn hc, fun h => by rw [may_more (by rw [HK.out]; exact h)] at hc; cases hc⟩
      | true =>
        obtain ⟨v, e1, e2⟩ := hy hc
        exact ⟨v, 0, e1, fun h => ⟨rfl, by rw [← (natL_more (more := ys) (mayN_yes (k := readK xs) (by rw [HK.out]; exact h)).1 a m true).1]; exact e2⟩⟩
    subst hev
    have HYE := Lib.hid hyy
    have HH6 := Lib.hid (HH5.out.trans (hb6.mono HH5.out.size))
    refine hK.out _ _ (HH6.out) (fun hHeld => ?_)
    clear hK K hn hy hyy hb6 TO
    refine tk 8 32 (.tuple #[v6, .int .i64 ev]) rfl hHeld ?_
    simp only [Act.put, sA, sZ, sS]
    refine tk 9 41 v6 rfl hHeld ?_
    simp only [Act.put, sA, sZ, sS]
    refine tk 10 42 (.int .i64 ev) rfl hHeld ?_
    simp only [Act.put, sA, sZ, sS]
    refine tk 11 10 v6 rfl hHeld ?_
    simp only [Act.put, sA, sZ, sS]
    refine tk 12 11 (.int .i64 ev) rfl hHeld ?_
    simp only [Act.put, sA, sZ, sS]
    refine wpAnyH_done (by kernel_rfl) ?_ _
    clear hHeld
    have HB6 := Lib.hid (HB3.out.trans (HH6.out.mono HB3.out.size))
    have HQ6 := Lib.hid (HQ3.out.below HQ3.out.lt HH6.out)
    have HP6 := Lib.hid (HP3.out.below HP3.out.lt HH6.out)
    have FR := Lib.hid (nfrom_any HAL.out (m := m) (by have := HN1.out; omega) HCA.out HMA.out w6 (HRX.out w6 HB6.out))
    rw [E1.out] at FR
    have HHS := Lib.hid (show w3.heap.size ≤ w5.heap.size from HH5.out.size)
    go_wp2_with (((with_reducible show wpList _ _ _ (⟨some 45, _, _, _, _, _⟩ :: _) _ _); refine wpList_loadM (op := ⟨some 45, _, _, _, _, _⟩) 25 _ rfl (by rfl) w.heap.size 0 (by rfl) (adL a) (Blk_10.range HQ6.out) _ Try.underlying25 rfl (sizeAdL HAL.out) ?_; rw [HC1.out]))
    refine FR.out.mono ?_
    rintro e w7 ⟨hn, hy, hb7⟩
    have HB7 := Lib.hid (HB6.out.trans (hb7.mono HB6.out.size))
    have HQ7 := Lib.hid (HQ6.out.below HQ6.out.lt hb7)
    have HP7 := Lib.hid (HP6.out.below HP6.out.lt hb7)
    have HOF := Lib.hid (rof_any HAL.out k.t.s.six)
    rw [E1.out] at HOF
    have c0 := (pk_cells HP7.out HOK.out).1
    have c1 : w7.cell? ⟨G, 1, none⟩ = some (.bool k.t.s.six) := Blk_10.cell HP7.out rfl
    rw [HK.out] at hn hy
    cases hc : mayN k a m with
    | false =>
      obtain rfl := hn hc
      have HMN : Hid ((decide (k.kind = 0) && (ofB k.t.s.six a && decide (0 ≤ m ∧ m ≤ 65535))) = false) := Lib.hid hc
      obtain ⟨kd, hkd⟩ : ∃ z, k.kind = z := ⟨_, rfl⟩
      obtain ⟨b, hb⟩ : ∃ b, ofB k.t.s.six a = b := ⟨_, rfl⟩
      rw [hb] at HOF HMN
      rw [hkd] at HMN c0
      obtain ⟨sx, hsx⟩ : ∃ s, k.t.s.six = s := ⟨_, rfl⟩
      rw [hsx] at HOF c1
      clear hn hy hc hkd hb hsx hb7
      by_cases h0 : kd = 0
      · subst h0
        go_wp2_with (((with_reducible show wpList _ _ _ (⟨some 58, _, _, _, _, _⟩ :: _) _ _); refine wpList_loadM (op := ⟨some 58, _, _, _, _, _⟩) 25 _ rfl (by rfl) w.heap.size 0 (by rfl) (adL a) (Blk_10.range HQ7.out) _ Try.underlying25 rfl (sizeAdL HAL.out) ?_; rw [HC1.out]))
        refine (HOF.out _).mono ?_
        rintro e w8 ⟨rfl, hb8⟩
        have HB8 := Lib.hid (HB7.out.trans (hb8.mono HB7.out.size))
        clear hb8 c0 c1
        cases b with
        | false =>
          go_wp2_with fail
          go_ret
          exact ⟨rfl, HB8.out⟩
        | true =>
          have hm : ¬ (0 ≤ m ∧ m ≤ 65535) := by
            have := HMN.out
            simpa using this
          by_cases h1 : m < 0
          · have b1 : decide (m < 0) = true := decide_eq_true h1
            clear hm
            go_wp2_with fail
            go_ret
            exact ⟨rfl, HB8.out⟩
          · have b1 : decide (m < 0) = false := decide_eq_false h1
            have h2 : 65535 < m := by omega
            have b2 : decide (65535 < m) = true := decide_eq_true h2
            clear hm
            go_wp2_with fail
            go_ret
            exact ⟨rfl, HB8.out⟩
      · have b0 : (kd != 0) = true := by simp [h0]
        go_wp2_with fail
        go_ret
        exact ⟨rfl, HB7.out⟩
    | true =>
      obtain ⟨vy, rfl, hoy⟩ := hy hc
      obtain ⟨rfl, hox⟩ := HYE.out hc
      have hc' : mayN (readK xs) a m = true := by rw [HK.out]; exact hc
      obtain ⟨hk0, hof, m0, m1⟩ := mayN_yes hc
      obtain ⟨n1, n2, n3⟩ := nat_len hc' true
      obtain ⟨n4, n5, n6⟩ := nat_len hc' false
      obtain ⟨E, hE⟩ : ∃ E, (natL xs a m true).length = E := ⟨_, rfl⟩
      have hE2 : (natL xs a m false).length = E := by omega
      obtain ⟨Ax, cx, rfl, hx1, hx2, _⟩ := hox.formN hE
      obtain ⟨Ay, cy, rfl, hy1, hy2, _⟩ := hoy.formN hE2
      rw [hof] at HOF
      rw [hk0] at c0
      have HLE := Lib.hid (show E ≤ 3000 by have := HN1.out; rw [HXL.out] at n2; omega)
      have HKE := Lib.hid (show k.en = (E : Int) by rw [← HK.out, ← n1, hE])
      have HLX := Lib.hid hE
      have HLY := Lib.hid hE2
      have HOX := Lib.hid (hox.below hb7)
      have HOY := Lib.hid hoy
      have RDX := Lib.hid (fun W (h : Own8 W w5.heap.size (.slice Ax E cx) (natL xs a m true)) => HK.out ▸ nat_read HAL.out hc' true ▸ kread_any Ax E cx (natL xs a m true) (by have := HLE.out; omega) hx1 W (h.rdN HLX.out).2.2)
      have RDY := Lib.hid (fun W (h : Own8 W w6.heap.size (.slice Ay E cy) (natL xs a m false)) => HK.out ▸ nat_read HAL.out hc' false ▸ kread_any Ay E cy (natL xs a m false) (by have := HLE.out; omega) hy1 W (h.rdN HLY.out).2.2)
      have b1 : decide (m < 0) = false := decide_eq_false (by omega)
      have b2 : decide (65535 < m) = false := decide_eq_false (by omega)
      have b3 : ¬ m < 0 := by omega
      have b4 : ¬ 65535 < m := by omega
      clear hn hy hc hc' hk0 hof m0 m1 n1 n2 n3 n4 n5 n6 hE hE2 hox hoy hx1 hx2 hy1 hy2 hb7 HYE
      go_wp2_with (((with_reducible show wpList _ _ _ (⟨some 58, _, _, _, _, _⟩ :: _) _ _); refine wpList_loadM (op := ⟨some 58, _, _, _, _, _⟩) 25 _ rfl (by rfl) w.heap.size 0 (by rfl) (adL a) (Blk_10.range HQ7.out) _ Try.underlying25 rfl (sizeAdL HAL.out) ?_; rw [HC1.out]))
      refine (HOF.out _).mono ?_
      rintro e w8 ⟨rfl, hb8⟩
      have HB8 := Lib.hid (HB7.out.trans (hb8.mono HB7.out.size))
      have HQ8 := Lib.hid (HQ7.out.below HQ7.out.lt hb8)
      have HP8 := Lib.hid (HP7.out.below HP7.out.lt hb8)
      have HOX8 := Lib.hid (HOX.out.below hb8)
      have HOY8 := Lib.hid (HOY.out.below hb8)
      have HRX8 := Lib.hid (RDX.out w8 HOX8.out)
      clear hb8 c0 c1
      go_wp2_with fail
      refine HRX8.out.mono ?_
      rintro e w9 ⟨rfl, hb9⟩
      have HB9 := Lib.hid (HB8.out.trans (hb9.mono HB8.out.size))
      have HQ9 := Lib.hid (HQ8.out.below HQ8.out.lt hb9)
      have HP9 := Lib.hid (HP8.out.below HP8.out.lt hb9)
      have HOY9 := Lib.hid (HOY8.out.below hb9)
      clear hb9 b1 b2 b3 b4
      have HOD := Lib.hid (pkN_ok HOK.out HAL.out m true)
      have HOS := Lib.hid (pkN_ok HOK.out HAL.out m false)
      go_wp2_with (((with_reducible show wpList _ _ _ (⟨none, .store 37 (.tmp 14) _, _, _, _, _⟩ :: _) _ _); refine wpList_storePk rfl (.tmp 14) _ rfl (by rfl) (pkN k a m true) HOD.out (by rfl) (by rfl) ?_; intro w10 hp_ hb_; have H14 := Lib.hid hp_; have HBA := Lib.hid (HB9.out.trans (hb_.mono HB9.out.size)); have HQA := Lib.hid (HQ9.out.below HQ9.out.lt hb_); have HPA := Lib.hid (HP9.out.below HP9.out.lt hb_); have HOYA := Lib.hid (HOY9.out.below hb_); have HRYA := Lib.hid (RDY.out w10 HOYA.out); have NP14 := Lib.hid (Nat.ne_of_gt HP9.out.lt); clear hp_ hb_; generalize w9.heap.size = G14 at H14 NP14 ⊢))
      refine HRYA.out.mono ?_
      rintro e w11 ⟨rfl, hb11⟩
      have HBB := Lib.hid (HBA.out.trans (hb11.mono HBA.out.size))
      have HQB := Lib.hid (HQA.out.below HQA.out.lt hb11)
      have HPB := Lib.hid (HPA.out.below HPA.out.lt hb11)
      have H14B := Lib.hid (H14.out.below H14.out.lt hb11)
      clear hb11
      go_wp2_with (first
        | ((with_reducible show wpList _ _ _ (⟨none, .store 37 (.tmp 15) _, _, _, _, _⟩ :: _) _ _); refine wpList_storePk rfl (.tmp 15) _ rfl (by rfl) (pkN k a m false) HOS.out (by rfl) (by rfl) ?_; intro w12 hp_ hb_; have H15 := Lib.hid hp_; have HBC := Lib.hid (HBB.out.trans (hb_.mono HBB.out.size)); have HQC := Lib.hid (HQB.out.below HQB.out.lt hb_); have HPC := Lib.hid (HPB.out.below HPB.out.lt hb_); have H14C := Lib.hid (H14B.out.below H14B.out.lt hb_); have NP15 := Lib.hid (Nat.ne_of_gt HPB.out.lt); clear hp_ hb_; generalize w11.heap.size = G15 at H15 NP15 ⊢)
        | ((with_reducible show wpList _ _ _ (⟨some 81, _, _, _, _, _⟩ :: _) _ _); refine wpList_loadPk (op := ⟨some 81, _, _, _, _, _⟩) _ rfl (by rfl) G (by rfl) k HOK.out HPC.out ?_)
        | ((with_reducible show wpList _ _ _ (⟨none, .store 37 (.tmp 16) _, _, _, _, _⟩ :: _) _ _); refine wpList_storePk rfl (.tmp 16) _ rfl (by rfl) (k) HOK.out (by rfl) (by rfl) ?_; intro w13 hp_ hb_; have H16 := Lib.hid hp_; have HBD := Lib.hid (HBC.out.trans (hb_.mono HBC.out.size)); have HQD := Lib.hid (HQC.out.below HQC.out.lt hb_); have HPD := Lib.hid (HPC.out.below HPC.out.lt hb_); have H14D := Lib.hid (H14C.out.below H14C.out.lt hb_); have H15D := Lib.hid (H15.out.below H15.out.lt hb_); have NP := Lib.hid (Nat.ne_of_lt HPC.out.lt); have N14 := Lib.hid (Nat.ne_of_lt H14C.out.lt); have N15 := Lib.hid (Nat.ne_of_lt H15.out.lt); have NQ := Lib.hid (Nat.ne_of_lt HQC.out.lt); have NB := Lib.hid (HBC.out.size); clear hp_ hb_; generalize w12.heap.size = G16 at H16 NP N14 N15 NQ NB ⊢)
        | ((with_reducible show wpList _ _ _ (⟨some 82, _, _, _, _, _⟩ :: _) _ _); refine wpList_loadM (op := ⟨some 82, _, _, _, _, _⟩) 25 _ rfl (by rfl) w.heap.size 0 (by rfl) (adL a) (Blk_10.range HQD.out) _ Try.underlying25 rfl (sizeAdL HAL.out) ?_; rw [HC1.out])
        | ((with_reducible show wpList _ _ _ (⟨none, .store 25 (.tmp 84) _, _, _, _, _⟩ :: _) _ _); refine wpList_storeAd rfl (.tmp 84) _ rfl G16 18 (by rfl) a HAL.out (by rw [HC1.out]; rfl) 37 (pkL k) (.int .i64 k.kind :: adL k.t.s) (adL k.t.d) (tuE k.t ++ pkE k) (by rw [List.length_cons, adL_len HOK.out.s]) (adL_len HOK.out.d) H16.out (pk_dst k) ?_; intro w14 hq_ hn_ hb_; have H16E := Lib.hid (show Blk w14 37 G16 (pkL ⟨k.kind, ⟨k.t.s, a, k.t.pr, k.t.sp, k.t.dp⟩, k.fl, k.net, k.sg, k.en⟩) from (pk_dst ⟨k.kind, ⟨k.t.s, a, k.t.pr, k.t.sp, k.t.dp⟩, k.fl, k.net, k.sg, k.en⟩) ▸ hq_); have HPE := Lib.hid (show Blk w14 37 G (pkL k) from (hn_ _ NP.out).trans HPD.out); have H14E := Lib.hid (show Blk w14 37 G14 (pkL (pkN k a m true)) from (hn_ _ N14.out).trans H14D.out); have H15E := Lib.hid (show Blk w14 37 G15 (pkL (pkN k a m false)) from (hn_ _ N15.out).trans H15D.out); have HQE := Lib.hid (show Blk w14 25 w.heap.size (adL a) from (hn_ _ NQ.out).trans HQD.out); have HBE := Lib.hid (HBD.out.trans (hb_.mono NB.out)); clear hq_ hn_ hb_)
        | ((with_reducible show wpList _ _ _ (⟨none, .store 3 (.tmp 87) _, _, _, _, _⟩ :: _) _ _); refine wpList_storeI_10 rfl (.tmp 87) _ rfl G16 37 (by rfl) m (by rfl) 37 _ H16E.out _ (pk_i37 ⟨HOK.out.s, HAL.out⟩) ?_; intro w15 hq_ hn_ hb_; have H16F := Lib.hid (show Blk w15 37 G16 (pkL (pkN k a m true)) from (pk_s37 (k := ⟨k.kind, ⟨k.t.s, a, k.t.pr, k.t.sp, k.t.dp⟩, k.fl, k.net, k.sg, k.en⟩) ⟨HOK.out.s, HAL.out⟩ m) ▸ hq_); have HPF := Lib.hid (show Blk w15 37 G (pkL k) from (hn_ _ NP.out).trans HPE.out); have H14F := Lib.hid (show Blk w15 37 G14 (pkL (pkN k a m true)) from (hn_ _ N14.out).trans H14E.out); have H15F := Lib.hid (show Blk w15 37 G15 (pkL (pkN k a m false)) from (hn_ _ N15.out).trans H15E.out); have HQF := Lib.hid (show Blk w15 25 w.heap.size (adL a) from (hn_ _ NQ.out).trans HQE.out); have HBF := Lib.hid (HBE.out.trans (hb_.mono NB.out)); clear hq_ hn_ hb_)
        | ((with_reducible show wpList _ _ _ (⟨some 88, _, _, _, _, _⟩ :: _) _ _); refine wpList_loadM (op := ⟨some 88, _, _, _, _, _⟩) 25 _ rfl (by rfl) w.heap.size 0 (by rfl) (adL a) (Blk_10.range HQF.out) _ Try.underlying25 rfl (sizeAdL HAL.out) ?_; rw [HC1.out])
        | ((with_reducible show wpList _ _ _ (⟨none, .store 25 (.tmp 90) _, _, _, _, _⟩ :: _) _ _); refine wpList_storeAd rfl (.tmp 90) _ rfl G 1 (by rfl) a HAL.out (by rw [HC1.out]; rfl) 37 (pkL k) [.int .i64 k.kind] (adL k.t.s) (adL k.t.d ++ (tuE k.t ++ pkE k)) rfl (adL_len HOK.out.s) HPF.out (pk_src k) ?_; intro w16 hq_ hn_ hb_; have HPG := Lib.hid (show Blk w16 37 G (pkL ⟨k.kind, ⟨a, k.t.d, k.t.pr, k.t.sp, k.t.dp⟩, k.fl, k.net, k.sg, k.en⟩) from (pk_src ⟨k.kind, ⟨a, k.t.d, k.t.pr, k.t.sp, k.t.dp⟩, k.fl, k.net, k.sg, k.en⟩) ▸ hq_); have H16G := Lib.hid (show Blk w16 37 G16 (pkL (pkN k a m true)) from (hn_ _ NP.out.symm).trans H16F.out); have H14G := Lib.hid (show Blk w16 37 G14 (pkL (pkN k a m true)) from (hn_ _ NP14.out).trans H14F.out); have H15G := Lib.hid (show Blk w16 37 G15 (pkL (pkN k a m false)) from (hn_ _ NP15.out).trans H15F.out); have HBG := Lib.hid (HBF.out.trans (hb_.mono NPB.out)); clear hq_ hn_ hb_)
        | ((with_reducible show wpList _ _ _ (⟨none, .store 3 (.tmp 93) _, _, _, _, _⟩ :: _) _ _); refine wpList_storeI_10 rfl (.tmp 93) _ rfl G 36 (by rfl) m (by rfl) 37 _ HPG.out _ (pk_i36 ⟨HAL.out, HOK.out.d⟩) ?_; intro w17 hq_ hn_ hb_; have HPH := Lib.hid (show Blk w17 37 G (pkL (pkN k a m false)) from (pk_s36 (k := ⟨k.kind, ⟨a, k.t.d, k.t.pr, k.t.sp, k.t.dp⟩, k.fl, k.net, k.sg, k.en⟩) ⟨HAL.out, HOK.out.d⟩ m) ▸ hq_); have H16H := Lib.hid (show Blk w17 37 G16 (pkL (pkN k a m true)) from (hn_ _ NP.out.symm).trans H16G.out); have H14H := Lib.hid (show Blk w17 37 G14 (pkL (pkN k a m true)) from (hn_ _ NP14.out).trans H14G.out); have H15H := Lib.hid (show Blk w17 37 G15 (pkL (pkN k a m false)) from (hn_ _ NP15.out).trans H15G.out); have HBH := Lib.hid (HBG.out.trans (hb_.mono NPB.out)); clear hq_ hn_ hb_; have c41 : w17.cell? ⟨G, 41, none⟩ = some (.int .i64 (E : Int)) := by { have := (pk_cells HPH.out HOS.out).2.2.2.2; rw [this]; exact congrArg (fun z => some (Value.int .i64 z)) HKE.out })
        | ((with_reducible show wpList _ _ _ (⟨some 101, _, _, _, _, _⟩ :: _) _ _); refine wpList_loadPk (op := ⟨some 101, _, _, _, _, _⟩) _ rfl (by rfl) G14 (by rfl) (pkN k a m true) HOD.out H14H.out ?_)
        | ((with_reducible show wpList _ _ _ (⟨some 102, _, _, _, _, _⟩ :: _) _ _); refine wpList_loadPk (op := ⟨some 102, _, _, _, _, _⟩) _ rfl (by rfl) G16 (by rfl) (pkN k a m true) HOD.out H16H.out ?_)
        | ((with_reducible show wpList _ _ _ (⟨some 106, _, _, _, _, _⟩ :: _) _ _); refine wpList_loadPk (op := ⟨some 106, _, _, _, _, _⟩) _ rfl (by rfl) G15 (by rfl) (pkN k a m false) HOS.out H15H.out ?_)
        | ((with_reducible show wpList _ _ _ (⟨some 107, _, _, _, _, _⟩ :: _) _ _); refine wpList_loadPk (op := ⟨some 107, _, _, _, _, _⟩) _ rfl (by rfl) G (by rfl) (pkN k a m false) HOS.out HPH.out ?_)
        | ((with_reducible show wpList _ _ _ (⟨some 103, _, _, _, _, _⟩ :: _) _ _); refine wpList_eqlw_8 37 _ _ _ rfl (by rfl) (pkL (pkN k a m true)).toArray (pkL (pkN k a m true)).toArray (by rfl) (by rfl) guard_pk true (fun W => run_eql_pk W (p := pkN k a m true) HOD.out) ?_)
        | ((with_reducible show wpList _ _ _ (⟨some 108, _, _, _, _, _⟩ :: _) _ _); refine wpList_eqlw_8 37 _ _ _ rfl (by rfl) (pkL (pkN k a m false)).toArray (pkL (pkN k a m false)).toArray (by rfl) (by rfl) guard_pk true (fun W => run_eql_pk W (p := pkN k a m false) HOS.out) ?_))
      go_ret
      exact ⟨rfl, HBH.out⟩

theorem natTuples_walks : WalksTrue 4 Try.f4 := by
  intro H enc W base args ds p hval hA
  rw [Try.params4] at hA hval
  obtain ⟨v0, vs0, d0, ds0, p0, q0, hargs, rfl, rfl, h0, r0⟩ := trodAll_cons hA
  obtain ⟨v1, vs1, d1, ds1, p1, q1, rfl, rfl, rfl, h1, r1⟩ := trodAll_cons r0
  obtain ⟨v2, vs2, d2, ds2, p2, q2, rfl, rfl, rfl, h2, r2⟩ := trodAll_cons r1
  obtain ⟨v3, vs3, d3, ds3, p3, q3, rfl, rfl, rfl, h3, r3⟩ := trodAll_cons r2
  obtain ⟨rfl, rfl, rfl⟩ := trodAll_nil r3
  obtain rfl : args = #[v0, v1, v2, v3] := by cases args; simp_all
  obtain ⟨A0, len0, cap0, xs0, rfl, hc0, hm0, hI0⟩ := open_bytes (hval 0 22 v0 rfl rfl) h0
  obtain ⟨d1_, rfl, l1⟩ := open_ad (hval 1 25 v1 rfl rfl) h1
  obtain ⟨a2, rfl, rfl, rfl, w2⟩ := open_int Try.underlying3 (hval 2 3 v2 rfl rfl) h2
  obtain ⟨g2a, g2b⟩ := range_i64 w2
  obtain ⟨A3, len3, cap3, xs3, rfl, hc3, hm3, hI3⟩ := open_bytes (hval 3 22 v3 rfl rfl) h3
  exact natTuples_walk A0 len0 cap0 xs0 hc0 hm0 d1_ l1 a2 g2a g2b A3 len3 cap3 xs3 hc3 hm3 W hI0 hI3

theorem natTuples_said : Rows.NatTuplesSaid :=
  OpenClaim.holds_of_wide 4 Try.f4 rfl rfl rfl rfl rfl rfl rfl ⟨rfl, rfl, rfl, rfl, rfl⟩ rfl rfl rfl rfl rfl (by kernel_rfl) Try.func4 (by kernel_rfl)
    (of_decide_eq_true (by kernel_rfl)) (by unfold Func.isWrapper; first | (rw [if_pos (by decide +kernel)]; kernel_rfl) | (rw [if_neg (by decide +kernel)]; exact ⟨rfl, rfl⟩))
    (fun os started H enc _ => law_lift (s := Rows.natTuplesSpec) Try.func4 (by kernel_rfl) rfl rfl (by intro H ds hd; match ds, hd with | [_, _, _, _], _ => exact ⟨rfl, rfl, rfl⟩) (by kernel_rfl) natTuples_walks os started H enc
      (ChangeSpec.witness6 (enc := enc) (C := Try.checked) false ⟨#[], #[.slice none 0 0, .agg #[.bool false, .int .u8 0, .int .u8 0, .int .u8 0, .int .u8 0, .int .u8 0, .int .u8 0, .int .u8 0, .int .u8 0, .int .u8 0, .int .u8 0, .int .u8 0, .int .u8 0, .int .u8 0, .int .u8 0, .int .u8 0, .int .u8 0], .int .i64 0, .slice none 0 0], []⟩ 8 (by kernel_rfl) (by kernel_rfl) (by kernel_rfl) (by kernel_rfl)))

end Go.Proofs.Ytkmcopenflakkaa
