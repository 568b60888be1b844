/-
  The document's Read of frames.
-/
import Derived.Test.YtkmcopenflakkaaTK
import Derived.Test.YtkmcopenflakkaaKRef1
namespace Go.Proofs.Ytkmcopenflakkaa
open Go.RowKit Go.Lib
theorem zeroPk : (#[.int .i64 0, .bool false, .int .u8 0, .int .u8 0, .int .u8 0, .int .u8 0, .int .u8 0, .int .u8 0, .int .u8 0, .int .u8 0, .int .u8 0, .int .u8 0, .int .u8 0, .int .u8 0, .int .u8 0, .int .u8 0, .int .u8 0, .int .u8 0, .bool false, .int .u8 0, .int .u8 0, .int .u8 0, .int .u8 0, .int .u8 0, .int .u8 0, .int .u8 0, .int .u8 0, .int .u8 0, .int .u8 0, .int .u8 0, .int .u8 0, .int .u8 0, .int .u8 0, .int .u8 0, .int .u8 0, .int .i64 0, .int .i64 0, .int .i64 0, .int .i64 0, .int .i64 0, .int .i64 0, .int .i64 0] : Array Value) = (pkL (kindK 0)).toArray := rfl
theorem tu_set35 {s d : Ad} (hs : s.b.length = 16) (hd : d.b.length = 16) {pr a b x : Int} : (tuL ⟨s, d, pr, a, b⟩).set 35 (.int .i64 x) = tuL ⟨s, d, pr, x, b⟩ := by
  obtain ⟨s6, sb⟩ := s
  obtain ⟨d6, db⟩ := d
  obtain ⟨a0, a1, a2, a3, a4, a5, a6, a7, a8, a9, a10, a11, a12, a13, a14, a15, rfl⟩ := sixteen hs
  obtain ⟨b0, b1, b2, b3, b4, b5, b6, b7, b8, b9, b10, b11, b12, b13, b14, b15, rfl⟩ := sixteen hd
  rfl
theorem tu_set36 {s d : Ad} (hs : s.b.length = 16) (hd : d.b.length = 16) {pr a b x : Int} : (tuL ⟨s, d, pr, a, b⟩).set 36 (.int .i64 x) = tuL ⟨s, d, pr, a, x⟩ := by
  obtain ⟨s6, sb⟩ := s
  obtain ⟨d6, db⟩ := d
  obtain ⟨a0, a1, a2, a3, a4, a5, a6, a7, a8, a9, a10, a11, a12, a13, a14, a15, rfl⟩ := sixteen hs
  obtain ⟨b0, b1, b2, b3, b4, b5, b6, b7, b8, b9, b10, b11, b12, b13, b14, b15, rfl⟩ := sixteen hd
  rfl
theorem kind_len (j k : Int) : (pkL (kindK j)).length = (pkL (kindK k)).length := by rw [pkL_len (p := kindK j) Tu.ok_zero, pkL_len (p := kindK k) Tu.ok_zero]
theorem behind_ok {at_ : Nat} {rest : List UInt8} {n : Nt} (h : n.Fits rest.length) : (behind at_ rest n).t.Ok := by
  unfold behind
  repeat' split
  · exact Tu.ok_zero
  · exact Tu.ok_zero
  · exact Tu.ok_zero
  · exact Tu.ok_zero
  · exact ⟨h.s, h.d⟩
theorem readK_ok (xs : List UInt8) : (readK xs).t.Ok := by
  unfold readK
  repeat' split
  · exact Tu.ok_zero
  · exact behind_ok (nt4_fits _)
  · exact behind_ok (nt6_fits _)
  · exact Tu.ok_zero
set_option maxRecDepth 100000 in
set_option maxHeartbeats 40000000 in
/-- The document's Read. -/
theorem kread_any (A : Option Addr) (len cap : Nat) (xs : List UInt8) (hlen : len ≤ 100000) (hcap : len ≤ cap) (w : World) (hI : Rd w w.heap.size A len xs) :
    Calls Try.prog 14 #[.slice A len cap] w fun e w' => e = .returned (pkC (readK xs)) ∧ Below w.heap.size w w' := by
  obtain ⟨Z, hZ⟩ : ∃ Z : World, w.alloc (.cells (pkL (kindK 0)).toArray 37) = Z := ⟨_, rfl⟩
  have hP0 : Blk Z 37 w.heap.size (pkL (kindK 0)) := by rw [← hZ]; exact Blk_10.new w _ _
  have hB0 : Below w.heap.size w Z := by rw [← hZ]; exact (Below.refl w.heap.size w).alloc (Nat.le_refl _) _
  rw [← zeroPk] at hZ
  have HZ := Lib.hid hZ
  have HP0 := Lib.hid hP0
  have HB0 := Lib.hid hB0
  have HIW := Lib.hid hI
  have hR := rread_any_7 A len cap xs (by omega) Z ((hI.below hB0).more hB0.size)
  unfold ReadGave_7 at hR
  have K1 := Lib.hid (fun (h : (rdOf xs).2 ≠ 0) => show readK xs = kindK 1 from if_pos h)
  have K2 := Lib.hid (fun (h : (rdOf xs).2 = 0) (h1 : (rdOf xs).1.ty ≠ 2048) (h2 : (rdOf xs).1.ty ≠ 34525) => show readK xs = kindK 2 by unfold readK; rw [if_neg (by omega), if_neg h1, if_neg h2])
  have K4 := Lib.hid (fun (h : (rdOf xs).2 = 0) (h1 : (rdOf xs).1.ty = 2048) => show readK xs = behind (atK xs) (xs.drop (atK xs)) (nt4 (xs.drop (atK xs))) by unfold readK; rw [if_neg (by omega), if_pos h1])
  have K6 := Lib.hid (fun (h : (rdOf xs).2 = 0) (h1 : (rdOf xs).1.ty = 34525) => show readK xs = behind (atK xs) (xs.drop (atK xs)) (nt6 (xs.drop (atK xs))) by unfold readK; rw [if_neg (by omega), if_neg (by rw [h1]; decide), if_pos h1])
  have HAT := Lib.hid (fun (h : (rdOf xs).2 = 0) => atK_ok h)
  have H6 := Lib.hid (show (rdOf xs).1.Six from (rdOf_six xs _ _ rfl).1)
  have HFR := Lib.hid (fun p (hp : p ≤ len) => hI.from hp cap hcap)
  obtain ⟨L, hL⟩ : ∃ L, (rdOf xs).1 = L := ⟨_, rfl⟩
  obtain ⟨E, hE⟩ : ∃ E, (rdOf xs).2 = E := ⟨_, rfl⟩
  rw [hL, hE] at hR
  rw [hE] at K1 HAT
  rw [hL, hE] at K2 K4 K6
  rw [hL] at HAT H6
  obtain ⟨KK, hKK⟩ : ∃ K, readK xs = K := ⟨_, rfl⟩
  rw [hKK] at K1 K2 K4 K6 ⊢
  have HR := Lib.hid hR
  have HL := Lib.hid hI.len
  have HO := Lib.hid (show KK.t.Ok by rw [← hKK]; exact readK_ok xs)
  clear hZ hP0 hB0 hR hL hE hI hKK
  go_enter Try.func14, Try.ntmps14
  go_wp2_with fail
  rw [HZ.out]
  refine HR.out.mono ?_
  rintro e w1 ⟨tv, rfl, hown, hb1⟩
  obtain ⟨At, mt, ct, rfl, q1, q2, q3, q4, q5⟩ := hown.sl
  clear q1 q2 q3 q4 q5
  have HB1 := Lib.hid (HB0.out.trans (hb1.mono HB0.out.size))
  have HP1 := Lib.hid (HP0.out.below HP0.out.lt hb1)
  clear hb1 hown
  by_cases hE0 : E = 0
  · subst hE0
    obtain ⟨a1, a2, a3, a4, _⟩ := HAT.out rfl
    obtain ⟨p, hp⟩ : ∃ p, atK xs = p := ⟨_, rfl⟩
    rw [hp] at a1 a2 a3 a4
    rw [hp] at K4 K6
    rw [HL.out] at a2
    have Hat : Hid ((lkL L (.slice At mt ct))[14]? = some (.int .i64 (p : Int))) := Lib.hid (a1 ▸ (lk_ty L H6.out _).2)
    have Hty := Lib.hid (lk_ty L H6.out (.slice At mt ct)).1
    have HRR := Lib.hid (HFR.out p a2)
    have hcut := fun W => run_from8 A len cap p a2 W
    have hdl : (xs.drop p).length = len - p := by rw [List.length_drop, HL.out]
    obtain ⟨RA, hRA⟩ : ∃ R, cutA A cap p = R := ⟨_, rfl⟩
    obtain ⟨rl, hrl⟩ : ∃ n, len - p = n := ⟨_, rfl⟩
    obtain ⟨rc, hrc⟩ : ∃ n, cap - p = n := ⟨_, rfl⟩
    have hrcl : rl ≤ rc := by omega
    have hrll : rl ≤ 100000 := by omega
    rw [hrl] at hdl
    rw [hRA, hrl, hrc] at hcut
    rw [hRA, hrl] at HRR
    obtain ⟨rest, hrest⟩ : ∃ r, xs.drop p = r := ⟨_, rfl⟩
    rw [hrest] at HRR hdl K4 K6
    have HDL := Lib.hid hdl
    have HCUT := Lib.hid hcut
    clear hRA hrl hrc hrest hdl a1 a3 hp HAT HFR hcut
    by_cases h4 : L.ty = 2048
    · have KE := K4.out rfl h4
      rw [h4] at Hty
      have R8 := Lib.hid (fun W (hB : Below w.heap.size w W) => rread_any_8 RA rl rc rest hrll hrcl W ((HRR.out.below hB).more hB.size))
      have NE := Lib.hid (nt4_e rest)
      have NF := nt4_fr rest
      have NS := Lib.hid (HDL.out ▸ nt4_fits rest)
      have HFO := Lib.hid (rdF_ok rest)
      obtain ⟨n, hn⟩ : ∃ n, nt4 rest = n := ⟨_, rfl⟩
      obtain ⟨f, hf⟩ : ∃ f, rdF rest = f := ⟨_, rfl⟩
      obtain ⟨E2, hE2⟩ : ∃ E, faultN rest = E := ⟨_, rfl⟩
      rw [hn] at KE NE NF NS
      rw [hf] at R8 NF HFO
      rw [hE2] at R8 NE
      have HKE := Lib.hid KE
      have HNF := Lib.hid NF
      clear h4 hn hf hE2 KE NF K1 K2 K4 K6
      go_wp2_with (first
        | ((with_reducible show wpList _ _ _ (⟨none, .store 46 (.tmp 3) (.tmp 19), _, _, _, _⟩ :: _) _ _); refine wpList_storeNewG (op := ⟨none, .store 46 (.tmp 3) (.tmp 19), _, _, _, _⟩) rfl 46 _ _ rfl (by rfl) (lkL L (.slice At mt ct)) (by rfl) (by rw [lkL_len H6.out]; rfl) (sizeLkL H6.out _) (lkL_one L _ rfl) ?_; intro w2 hl2 hb2 hz2; clear hz2; have HB2 := Lib.hid (HB1.out.trans (hb2.mono HB1.out.size)); have HP2 := Lib.hid (HP1.out.below HP1.out.lt hb2); have HK2 := Lib.hid hl2; have HG2 := Lib.hid (show w.heap.size < w2.heap.size from Nat.lt_of_lt_of_le HP1.out.lt hb2.size); have HG3 := Lib.hid (show w1.heap.size < w2.heap.size from hl2.lt); have c14 := Blk_10.cell hl2 Hat.out; have hcut := HCUT.out; clear hl2 hb2)
        | ((with_reducible show wpList _ _ _ (⟨some 28, _, _, _, _, _⟩ :: _) _ _); refine wpList_buildw (op := ⟨some 28, _, _, _, _, _⟩) 35 _ rfl (by rfl) _ (by kernel_rfl) (tuL Tu.zero).toArray built_tu0 ?_)
        | ((with_reducible show wpList _ _ _ (⟨none, .store 35 (.tmp 9) (.tmp 28), _, _, _, _⟩ :: _) _ _); refine wpList_storeNewG (op := ⟨none, .store 35 (.tmp 9) (.tmp 28), _, _, _, _⟩) rfl 35 _ _ rfl (by rfl) (tuL Tu.zero) (by rfl) (by rw [tuL_len Tu.ok_zero]; rfl) (sizeTuL Tu.ok_zero) (tuL_one _) ?_; intro w3 ht3 hb3 hz3; clear hz3; have HB3 := Lib.hid (HB2.out.trans (hb3.mono HB2.out.size)); have HP3 := Lib.hid (HP2.out.below HP2.out.lt hb3); have HK3 := Lib.hid (HK2.out.below HK2.out.lt hb3); have HT3 := Lib.hid ht3; have c13 := Blk_10.cell HK3.out Hty.out; clear ht3 hb3))
      refine (R8.out _ HB3.out).mono ?_
      rintro e w4 ⟨rfl, hb4⟩
      have HB4 := Lib.hid (HB3.out.trans (hb4.mono HB3.out.size))
      have HP4 := Lib.hid (HP3.out.below HP3.out.lt hb4)
      have HK4 := Lib.hid (HK3.out.below HK3.out.lt hb4)
      have HT4 := Lib.hid (HT3.out.below HT3.out.lt hb4)
      clear hb4 c13
      by_cases h0 : E2 = 0
      · subst h0
        have hne := NE.out
        obtain ⟨fg, hfg⟩ : ∃ b, n.frag = b := ⟨_, rfl⟩
        have HFG := Lib.hid hfg
        cases fg with
        | true =>
          have e := HKE.out.trans (behind_4 hne hfg)
          subst e
          go_wp2_with (first
            | ((with_reducible show wpList _ _ _ (⟨none, .store 64 (.tmp 10) (.tmp 35), _, _, _, _⟩ :: _) _ _); refine wpList_storeNewG (op := ⟨none, .store 64 (.tmp 10) (.tmp 35), _, _, _, _⟩) rfl 64 _ _ rfl (by rfl) (frL_8 f) (by rfl) (by rw [frL_len_8 HFO.out]; rfl) (sizeFrL_8 HFO.out) (frL_one_8 _) ?_; intro w5 hf5 hb5 hz5; clear hz5; have HB5 := Lib.hid (HB4.out.trans (hb5.mono HB4.out.size)); have HP5 := Lib.hid (HP4.out.below HP4.out.lt hb5); have HK5 := Lib.hid (HK4.out.below HK4.out.lt hb5); have HT5 := Lib.hid (HT4.out.below HT4.out.lt hb5); have c0 := Blk_8.cell hf5 (i := 0) (v := .int .i64 (n.head : Int)) (by rw [← HNF.out.1]; rfl); have c1 := Blk_8.cell hf5 (i := 1) (v := .int .i64 (n.total : Int)) (by rw [← HNF.out.2.1]; rfl); have c4 := Blk_8.cell hf5 (i := 4) (v := .bool true) (by rw [← HFG.out, ← HNF.out.2.2.1]; rfl); have c7 := Blk_8.cell hf5 (i := 7) (v := .int .i64 (n.proto : Int)) (by rw [← HNF.out.2.2.2.1]; rfl); have HA0 : Hid (w5.rangeAt w4.heap.size 8 (adL n.s)) := Lib.hid (by rw [← HNF.out.2.2.2.2.1]; exact Blk_8.src hf5); have HA1 : Hid (w5.rangeAt w4.heap.size 25 (adL n.d)) := Lib.hid (by rw [← HNF.out.2.2.2.2.2]; exact Blk_8.dst hf5 HFO.out); clear hf5 hb5)
            | ((with_reducible show wpList _ _ _ (⟨some 47, _, _, _, _, _⟩ :: _) _ _); refine wpList_loadAd (op := ⟨some 47, _, _, _, _, _⟩) _ rfl (by rfl) w4.heap.size 8 (by rfl) n.s NS.out.s HA0.out ?_)
            | ((with_reducible show wpList _ _ _ (⟨some 49, _, _, _, _, _⟩ :: _) _ _); refine wpList_loadAd (op := ⟨some 49, _, _, _, _, _⟩) _ rfl (by rfl) w4.heap.size 25 (by rfl) n.d NS.out.d HA1.out ?_)
            | ((with_reducible show wpList _ _ _ (⟨some 52, _, _, _, _, _⟩ :: _) _ _); refine wpList_buildw (op := ⟨some 52, _, _, _, _, _⟩) 35 _ rfl (by rfl) _ (by kernel_rfl) (tuL ⟨n.s, n.d, (n.proto : Int), 0, 0⟩).toArray (built_tu3 _ _ _ NS.out.s NS.out.d) ?_)
            | ((with_reducible show wpList _ _ _ (⟨none, .store 35 (.tmp 9) _, _, _, _, _⟩ :: _) _ _); refine wpList_storeR_10 (op := ⟨none, .store 35 (.tmp 9) _, _, _, _, _⟩) rfl 35 _ _ rfl w2.heap.size (by rfl) (tuL ⟨n.s, n.d, (n.proto : Int), 0, 0⟩) (by rfl) _ HT5.out (by rw [tuL_len (t := ⟨n.s, n.d, (n.proto : Int), 0, 0⟩) ⟨NS.out.s, NS.out.d⟩, tuL_len Tu.ok_zero]) (sizeTuL ⟨NS.out.s, NS.out.d⟩) (tuL_one _) ?_; generalize hX : w5.setRow w2.heap.size (tuL ⟨n.s, n.d, (n.proto : Int), 0, 0⟩).toArray = w6; have HT6 : Hid (Blk w6 35 w2.heap.size (tuL ⟨n.s, n.d, (n.proto : Int), 0, 0⟩)) := Lib.hid (by rw [← hX]; exact Blk_10.setRow_ HT5.out _); have HP6 : Hid (Blk w6 37 w.heap.size (pkL (kindK 0))) := Lib.hid (by rw [← hX]; exact Blk_10.setRow_far HP5.out (by have := HB2.out.size; have := HG2.out; omega) _); have HK6 : Hid (Blk w6 46 w1.heap.size (lkL L (.slice At mt ct))) := Lib.hid (by rw [← hX]; exact Blk_10.setRow_far HK5.out (by have := HG3.out; omega) _); have HB6 : Hid (Below w.heap.size w w6) := Lib.hid (by rw [← hX]; exact below_setRow HB5.out (Nat.le_trans HB2.out.size (Nat.le_refl _)) _); clear hX; have q34 := (tu_num HT6.out ⟨NS.out.s, NS.out.d⟩).1)
            | ((with_reducible show wpList _ _ _ (⟨some 79, _, _, _, _, _⟩ :: _) _ _); refine wpList_buildw (op := ⟨some 79, _, _, _, _, _⟩) 37 _ rfl (by rfl) _ (by kernel_rfl) (pkL (kindK 4)).toArray (built_pk1 4) ?_)
            | ((with_reducible show wpList _ _ _ (⟨none, .store 37 (.tmp 2) _, _, _, _, _⟩ :: _) _ _); refine wpList_storeR_10 (op := ⟨none, .store 37 (.tmp 2) _, _, _, _, _⟩) rfl 37 _ _ rfl w.heap.size (by rfl) (pkL (kindK 4)) (by rfl) _ HP6.out (kind_len _ _) (sizePkL Tu.ok_zero) (pkL_one _) ?_))
          refine bodyPost_ret (v := pkC (kindK 4)) (results_pk rfl _ _ w.heap.size (by rfl) _ Tu.ok_zero (Blk_10.setRow_ HP6.out _)) rfl ?_
          exact ⟨rfl, below_setRow HB6.out (Nat.le_refl _) _⟩
        | false =>
          by_cases hp5 : n.proto ≠ 6 ∧ n.proto ≠ 17
          · have p6 : ((n.proto : Int) != 6) = true := by simp; omega
            have p17 : ((n.proto : Int) != 17) = true := by simp; omega
            have e := HKE.out.trans (behind_5 hne hfg hp5)
            subst e
            go_wp2_with (first
              | ((with_reducible show wpList _ _ _ (⟨none, .store 64 (.tmp 10) (.tmp 35), _, _, _, _⟩ :: _) _ _); refine wpList_storeNewG (op := ⟨none, .store 64 (.tmp 10) (.tmp 35), _, _, _, _⟩) rfl 64 _ _ rfl (by rfl) (frL_8 f) (by rfl) (by rw [frL_len_8 HFO.out]; rfl) (sizeFrL_8 HFO.out) (frL_one_8 _) ?_; intro w5 hf5 hb5 hz5; clear hz5; have HB5 := Lib.hid (HB4.out.trans (hb5.mono HB4.out.size)); have HP5 := Lib.hid (HP4.out.below HP4.out.lt hb5); have HK5 := Lib.hid (HK4.out.below HK4.out.lt hb5); have HT5 := Lib.hid (HT4.out.below HT4.out.lt hb5); have c0 := Blk_8.cell hf5 (i := 0) (v := .int .i64 (n.head : Int)) (by rw [← HNF.out.1]; rfl); have c1 := Blk_8.cell hf5 (i := 1) (v := .int .i64 (n.total : Int)) (by rw [← HNF.out.2.1]; rfl); have c4 := Blk_8.cell hf5 (i := 4) (v := .bool false) (by rw [← HFG.out, ← HNF.out.2.2.1]; rfl); have c7 := Blk_8.cell hf5 (i := 7) (v := .int .i64 (n.proto : Int)) (by rw [← HNF.out.2.2.2.1]; rfl); have HA0 : Hid (w5.rangeAt w4.heap.size 8 (adL n.s)) := Lib.hid (by rw [← HNF.out.2.2.2.2.1]; exact Blk_8.src hf5); have HA1 : Hid (w5.rangeAt w4.heap.size 25 (adL n.d)) := Lib.hid (by rw [← HNF.out.2.2.2.2.2]; exact Blk_8.dst hf5 HFO.out); clear hf5 hb5)
              | ((with_reducible show wpList _ _ _ (⟨some 47, _, _, _, _, _⟩ :: _) _ _); refine wpList_loadAd (op := ⟨some 47, _, _, _, _, _⟩) _ rfl (by rfl) w4.heap.size 8 (by rfl) n.s NS.out.s HA0.out ?_)
              | ((with_reducible show wpList _ _ _ (⟨some 49, _, _, _, _, _⟩ :: _) _ _); refine wpList_loadAd (op := ⟨some 49, _, _, _, _, _⟩) _ rfl (by rfl) w4.heap.size 25 (by rfl) n.d NS.out.d HA1.out ?_)
              | ((with_reducible show wpList _ _ _ (⟨some 52, _, _, _, _, _⟩ :: _) _ _); refine wpList_buildw (op := ⟨some 52, _, _, _, _, _⟩) 35 _ rfl (by rfl) _ (by kernel_rfl) (tuL ⟨n.s, n.d, (n.proto : Int), 0, 0⟩).toArray (built_tu3 _ _ _ NS.out.s NS.out.d) ?_)
              | ((with_reducible show wpList _ _ _ (⟨none, .store 35 (.tmp 9) _, _, _, _, _⟩ :: _) _ _); refine wpList_storeR_10 (op := ⟨none, .store 35 (.tmp 9) _, _, _, _, _⟩) rfl 35 _ _ rfl w2.heap.size (by rfl) (tuL ⟨n.s, n.d, (n.proto : Int), 0, 0⟩) (by rfl) _ HT5.out (by rw [tuL_len (t := ⟨n.s, n.d, (n.proto : Int), 0, 0⟩) ⟨NS.out.s, NS.out.d⟩, tuL_len Tu.ok_zero]) (sizeTuL ⟨NS.out.s, NS.out.d⟩) (tuL_one _) ?_; generalize hX : w5.setRow w2.heap.size (tuL ⟨n.s, n.d, (n.proto : Int), 0, 0⟩).toArray = w6; have HT6 : Hid (Blk w6 35 w2.heap.size (tuL ⟨n.s, n.d, (n.proto : Int), 0, 0⟩)) := Lib.hid (by rw [← hX]; exact Blk_10.setRow_ HT5.out _); have HP6 : Hid (Blk w6 37 w.heap.size (pkL (kindK 0))) := Lib.hid (by rw [← hX]; exact Blk_10.setRow_far HP5.out (by have := HB2.out.size; have := HG2.out; omega) _); have HK6 : Hid (Blk w6 46 w1.heap.size (lkL L (.slice At mt ct))) := Lib.hid (by rw [← hX]; exact Blk_10.setRow_far HK5.out (by have := HG3.out; omega) _); have HB6 : Hid (Below w.heap.size w w6) := Lib.hid (by rw [← hX]; exact below_setRow HB5.out (Nat.le_trans HB2.out.size (Nat.le_refl _)) _); clear hX; have q34 := (tu_num HT6.out ⟨NS.out.s, NS.out.d⟩).1)
              | ((with_reducible show wpList _ _ _ (⟨some 88, _, _, _, _, _⟩ :: _) _ _); refine wpList_buildw (op := ⟨some 88, _, _, _, _, _⟩) 37 _ rfl (by rfl) _ (by kernel_rfl) (pkL (kindK 5)).toArray (built_pk1 5) ?_)
              | ((with_reducible show wpList _ _ _ (⟨none, .store 37 (.tmp 2) _, _, _, _, _⟩ :: _) _ _); refine wpList_storeR_10 (op := ⟨none, .store 37 (.tmp 2) _, _, _, _, _⟩) rfl 37 _ _ rfl w.heap.size (by rfl) (pkL (kindK 5)) (by rfl) _ HP6.out (kind_len _ _) (sizePkL Tu.ok_zero) (pkL_one _) ?_))
            refine bodyPost_ret (v := pkC (kindK 5)) (results_pk rfl _ _ w.heap.size (by rfl) _ Tu.ok_zero (Blk_10.setRow_ HP6.out _)) rfl ?_
            exact ⟨rfl, below_setRow HB6.out (Nat.le_refl _) _⟩
          · obtain ⟨pr, hpr⟩ : ∃ q, n.proto = q := ⟨_, rfl⟩
            have HPR := Lib.hid hpr
            have pne : (((n.proto : Int) != 6) && ((n.proto : Int) != 17)) = false := by simp; omega
            clear hpr
            by_cases hq6 : n.proto = 6
            · have p6 : ((n.proto : Int) != 6) = false := by simp; omega
              clear hq6 pne HPR
              go_wp2_with (first
                | ((with_reducible show wpList _ _ _ (⟨none, .store 64 (.tmp 10) (.tmp 35), _, _, _, _⟩ :: _) _ _); refine wpList_storeNewG (op := ⟨none, .store 64 (.tmp 10) (.tmp 35), _, _, _, _⟩) rfl 64 _ _ rfl (by rfl) (frL_8 f) (by rfl) (by rw [frL_len_8 HFO.out]; rfl) (sizeFrL_8 HFO.out) (frL_one_8 _) ?_; intro w5 hf5 hb5 hz5; clear hz5; have HB5 := Lib.hid (HB4.out.trans (hb5.mono HB4.out.size)); have HP5 := Lib.hid (HP4.out.below HP4.out.lt hb5); have HK5 := Lib.hid (HK4.out.below HK4.out.lt hb5); have HT5 := Lib.hid (HT4.out.below HT4.out.lt hb5); have c0 := Blk_8.cell hf5 (i := 0) (v := .int .i64 (n.head : Int)) (by rw [← HNF.out.1]; rfl); have c1 := Blk_8.cell hf5 (i := 1) (v := .int .i64 (n.total : Int)) (by rw [← HNF.out.2.1]; rfl); have c4 := Blk_8.cell hf5 (i := 4) (v := .bool false) (by rw [← HFG.out, ← HNF.out.2.2.1]; rfl); have c7 := Blk_8.cell hf5 (i := 7) (v := .int .i64 (n.proto : Int)) (by rw [← HNF.out.2.2.2.1]; rfl); have HA0 : Hid (w5.rangeAt w4.heap.size 8 (adL n.s)) := Lib.hid (by rw [← HNF.out.2.2.2.2.1]; exact Blk_8.src hf5); have HA1 : Hid (w5.rangeAt w4.heap.size 25 (adL n.d)) := Lib.hid (by rw [← HNF.out.2.2.2.2.2]; exact Blk_8.dst hf5 HFO.out); clear hf5 hb5)
                | ((with_reducible show wpList _ _ _ (⟨some 47, _, _, _, _, _⟩ :: _) _ _); refine wpList_loadAd (op := ⟨some 47, _, _, _, _, _⟩) _ rfl (by rfl) w4.heap.size 8 (by rfl) n.s NS.out.s HA0.out ?_)
                | ((with_reducible show wpList _ _ _ (⟨some 49, _, _, _, _, _⟩ :: _) _ _); refine wpList_loadAd (op := ⟨some 49, _, _, _, _, _⟩) _ rfl (by rfl) w4.heap.size 25 (by rfl) n.d NS.out.d HA1.out ?_)
                | ((with_reducible show wpList _ _ _ (⟨some 52, _, _, _, _, _⟩ :: _) _ _); refine wpList_buildw (op := ⟨some 52, _, _, _, _, _⟩) 35 _ rfl (by rfl) _ (by kernel_rfl) (tuL ⟨n.s, n.d, (n.proto : Int), 0, 0⟩).toArray (built_tu3 _ _ _ NS.out.s NS.out.d) ?_)
                | ((with_reducible show wpList _ _ _ (⟨none, .store 35 (.tmp 9) _, _, _, _, _⟩ :: _) _ _); refine wpList_storeR_10 (op := ⟨none, .store 35 (.tmp 9) _, _, _, _, _⟩) rfl 35 _ _ rfl w2.heap.size (by rfl) (tuL ⟨n.s, n.d, (n.proto : Int), 0, 0⟩) (by rfl) _ HT5.out (by rw [tuL_len (t := ⟨n.s, n.d, (n.proto : Int), 0, 0⟩) ⟨NS.out.s, NS.out.d⟩, tuL_len Tu.ok_zero]) (sizeTuL ⟨NS.out.s, NS.out.d⟩) (tuL_one _) ?_; generalize hX : w5.setRow w2.heap.size (tuL ⟨n.s, n.d, (n.proto : Int), 0, 0⟩).toArray = w6; have HT6 : Hid (Blk w6 35 w2.heap.size (tuL ⟨n.s, n.d, (n.proto : Int), 0, 0⟩)) := Lib.hid (by rw [← hX]; exact Blk_10.setRow_ HT5.out _); have HP6 : Hid (Blk w6 37 w.heap.size (pkL (kindK 0))) := Lib.hid (by rw [← hX]; exact Blk_10.setRow_far HP5.out (by have := HB2.out.size; have := HG2.out; omega) _); have HK6 : Hid (Blk w6 46 w1.heap.size (lkL L (.slice At mt ct))) := Lib.hid (by rw [← hX]; exact Blk_10.setRow_far HK5.out (by have := HG3.out; omega) _); have HB6 : Hid (Below w.heap.size w w6) := Lib.hid (by rw [← hX]; exact below_setRow HB5.out (Nat.le_trans HB2.out.size (Nat.le_refl _)) _); clear hX; have q34 := (tu_num HT6.out ⟨NS.out.s, NS.out.d⟩).1))
              have HT34 := Lib.hid (fun W (hW : Below w6.heap.size w6 W) => (tu_num (HT6.out.below HT6.out.lt hW) ⟨NS.out.s, NS.out.d⟩).1)
              have h1 := NS.out.h1
              have h2 := NS.out.h2
              obtain ⟨sl, hsl⟩ : ∃ k, n.total - n.head = k := ⟨_, rfl⟩
              have HSEG := Lib.hid (fun W (hW : Below w6.heap.size w6 W) => ((HRR.out.below (HB6.out.trans (hW.mono HB6.out.size))).cut (l := n.head) (n := sl) (by omega) rc hrcl).more (Nat.le_trans HB6.out.size hW.size))
              have hseg : (rest.drop n.head).take sl = segN rest n := by unfold segN; rw [hsl]
              rw [hseg] at HSEG
              have HC8 := Lib.hid (fun W => run_cut8 RA rl rc n.head sl (n.head : Int) (n.total : Int) rfl (by omega) (by omega) W)
              have R10 := Lib.hid (fun W (hW : Below w6.heap.size w6 W) => rread_any_10 (A := cutA RA rc n.head) (cap := rc - n.head) (xs := segN rest n) (n.proto : Int) W (HSEG.out W hW))
              obtain ⟨q, hq⟩ : ∃ q, rdP (n.proto : Nat) (segN rest n) = q := ⟨_, rfl⟩
              obtain ⟨F3, hF3⟩ : ∃ F, faultP (n.proto : Nat) (segN rest n) = F := ⟨_, rfl⟩
              have KB6 := Lib.hid (fun (h : F3 ≠ 0) => HKE.out.trans (behind_6 hne hfg hp5 (by rw [hF3]; exact h)))
              have KB0 := Lib.hid (fun (h : F3 = 0) => hq ▸ HKE.out.trans (behind_0 hne hfg hp5 (by rw [hF3]; exact h)))
              rw [hq, hF3] at R10
              have HSL := Lib.hid hsl
              clear hq hF3 hsl hseg c14 hp5 hne hfg
              apply cut_world (H := fun W G => w6.heap.size ≤ G ∧ Blk W 72 G (poL q) ∧ Below w6.heap.size w6 W)
              case h1 =>
                intro hc
                refine wp_region_held_drew (S := fun W => Below w6.heap.size w6 W) (by kernel_rfl) ((Below.refl _ _).drew) (fun hHeld => ?_)
                obtain ⟨Y, hY⟩ : ∃ Y, w6.drew = Y := ⟨_, rfl⟩
                rw [hY] at hHeld ⊢
                clear hY
                refine tk 0 90 (.pointer (some ⟨w2.heap.size, 34, none⟩)) rfl hHeld ?_
                simp only [Act.put, sA, sZ, sS]
                refine tkY 1 91 (.int .i64 (n.proto : Int)) rfl (Or.inl ⟨by rfl, fun W hW => by have hc := HT34.out W hW; go_simp⟩) hHeld ?_
                simp only [Act.put, sA, sZ, sS]
                refine tk 2 92 (.slice RA rl rc) rfl hHeld ?_
                simp only [Act.put, sA, sZ, sS]
                refine tk 3 93 (.int .i64 (n.head : Int)) rfl hHeld ?_
                simp only [Act.put, sA, sZ, sS]
                refine tk 4 94 (.int .i64 (n.total : Int)) rfl hHeld ?_
                simp only [Act.put, sA, sZ, sS]
                refine tkY 5 95 (.slice (cutA RA rc n.head) sl (rc - n.head)) rfl (Or.inl ⟨by rfl, fun W _ => by have hs := HC8.out W; go_simp⟩) hHeld ?_
                simp only [Act.put, sA, sZ, sS]
                refine wpAnyH_ready (rs := [6, 10]) (by kernel_rfl) (by simp) (AllReadyH.cons (o := ⟨some 96, _, _, _, _, _⟩) rfl (fun K hK => ?_) (AllReadyH.cons (o := ⟨some 14, _, _, _, _, _⟩) rfl (fun K hK => ?_) AllReadyH.nil))
                · go_simp
                  refine (R10.out _ hHeld).mono ?_
                  rintro e w7 ⟨rfl, hb7⟩
                  refine hK.out _ _ (hHeld.trans (hb7.mono hHeld.size)) (fun hHeld => ?_)
                  clear hK K hb7
                  refine tk 7 89 (.tuple #[poC q, .int .i64 (F3 : Int)]) rfl hHeld ?_
                  simp only [Act.put, sA, sZ, sS]
                  refine tk 8 97 (poC q) rfl hHeld ?_
                  simp only [Act.put, sA, sZ, sS]
                  refine tk 9 98 (.int .i64 (F3 : Int)) rfl hHeld ?_
                  simp only [Act.put, sA, sZ, sS]
                  refine wpAnyH_ready (rs := [10]) (by kernel_rfl) (by simp) (AllReadyH.cons (o := ⟨some 14, _, _, _, _, _⟩) rfl (fun K hK => ?_) AllReadyH.nil)
                  go_simp
                  rw [zeroP_10]
                  have hg8 := Blk_10.new w7 72 (poL Po.zero)
                  have HG8 := Lib.hid hg8
                  have HGE := Lib.hid hHeld.size
                  have hh8 := hHeld.alloc hHeld.size (.cells (poL Po.zero).toArray 72)
                  have HH8 := Lib.hid hh8
                  clear hg8 hh8
                  generalize w7.heap.size = G at HG8 HGE ⊢
                  generalize w7.alloc (.cells (poL Po.zero).toArray 72) = w8 at HG8 HH8 ⊢
                  refine hK.out _ _ (HH8.out) (fun hHeld => ?_)
                  clear hK K 
                  refine wpAnyH_ready (rs := [11]) (by kernel_rfl) (by simp) (AllReadyH.cons (o := ⟨none, _, _, _, _, _⟩) rfl (fun K hK => ?_) AllReadyH.nil)
                  refine step_storeR_10 rfl 72 _ _ rfl G (by rfl) (poL q) (by rfl) _ HG8.out rfl (sizePoL _) (poL_one _) ?_
                  have hr9 := Blk_10.setRow_ HG8.out (poL q)
                  have hh9 := below_setRow hHeld (HGE.out) (poL q).toArray
                  have HR9 := Lib.hid hr9
                  have HH9 := Lib.hid hh9
                  clear hr9 hh9
                  generalize World.setRow _ G (poL q).toArray = wz at HR9 HH9 ⊢
                  refine hK.out _ _ (HH9.out) (fun hHeld => ?_)
                  clear hK K 
                  refine tk 12 15 (.int .i64 (F3 : Int)) rfl hHeld ?_
                  simp only [Act.put, sA, sZ, sS]
                  refine wpAnyH_done (by kernel_rfl) ?_ _
                  exact hc wz G ⟨HGE.out, HR9.out, HH9.out⟩
                · go_simp
                  rw [zeroP_10]
                  have hg7 := Blk_10.new Y 72 (poL Po.zero)
                  have HG7 := Lib.hid hg7
                  have HGE := Lib.hid hHeld.size
                  have hh7 := hHeld.alloc hHeld.size (.cells (poL Po.zero).toArray 72)
                  have HH7 := Lib.hid hh7
                  clear hg7 hh7
                  generalize Y.heap.size = G at HG7 HGE ⊢
                  generalize Y.alloc (.cells (poL Po.zero).toArray 72) = w7 at HG7 HH7 ⊢
                  refine hK.out _ _ (HH7.out) (fun hHeld => ?_)
                  clear hK K 
                  refine wpAnyH_ready (rs := [6]) (by kernel_rfl) (by simp) (AllReadyH.cons (o := ⟨some 96, _, _, _, _, _⟩) rfl (fun K hK => ?_) AllReadyH.nil)
                  go_simp
                  refine (R10.out _ hHeld).mono ?_
                  rintro e w8 ⟨rfl, hb8⟩
                  have HG8 := Lib.hid (HG7.out.below HG7.out.lt hb8)
                  refine hK.out _ _ (hHeld.trans (hb8.mono hHeld.size)) (fun hHeld => ?_)
                  clear hK K hb8
                  refine tk 7 89 (.tuple #[poC q, .int .i64 (F3 : Int)]) rfl hHeld ?_
                  simp only [Act.put, sA, sZ, sS]
                  refine tk 8 97 (poC q) rfl hHeld ?_
                  simp only [Act.put, sA, sZ, sS]
                  refine tk 9 98 (.int .i64 (F3 : Int)) rfl hHeld ?_
                  simp only [Act.put, sA, sZ, sS]
                  refine wpAnyH_ready (rs := [11]) (by kernel_rfl) (by simp) (AllReadyH.cons (o := ⟨none, _, _, _, _, _⟩) rfl (fun K hK => ?_) AllReadyH.nil)
                  refine step_storeR_10 rfl 72 _ _ rfl G (by rfl) (poL q) (by rfl) _ HG8.out rfl (sizePoL _) (poL_one _) ?_
                  have hr9 := Blk_10.setRow_ HG8.out (poL q)
                  have hh9 := below_setRow hHeld (HGE.out) (poL q).toArray
                  have HR9 := Lib.hid hr9
                  have HH9 := Lib.hid hh9
                  clear hr9 hh9
                  generalize World.setRow _ G (poL q).toArray = wz at HR9 HH9 ⊢
                  refine hK.out _ _ (HH9.out) (fun hHeld => ?_)
                  clear hK K 
                  refine tk 12 15 (.int .i64 (F3 : Int)) rfl hHeld ?_
                  simp only [Act.put, sA, sZ, sS]
                  refine wpAnyH_done (by kernel_rfl) ?_ _
                  exact hc wz G ⟨HGE.out, HR9.out, HH9.out⟩
              case h2 =>
                intro wz G hcc
                obtain ⟨hge, hq, hbz⟩ := hcc
                have HQ := Lib.hid hq
                have HPz := Lib.hid (HP6.out.below HP6.out.lt hbz)
                have HTz := Lib.hid (HT6.out.below HT6.out.lt hbz)
                have HKz := Lib.hid (HK6.out.below HK6.out.lt hbz)
                have HBz := Lib.hid (HB6.out.trans (hbz.mono HB6.out.size))
                have HTL := Lib.hid HT6.out.lt
                have HKL := Lib.hid HK6.out.lt
                have HPL := Lib.hid HP6.out.lt
                have HGE := Lib.hid hge
                have o0 := Blk_10.cell HQ.out (i := 0) (v := .int .i64 (q.s : Int)) rfl
                have o1 := Blk_10.cell HQ.out (i := 1) (v := .int .i64 (q.d : Int)) rfl
                have o2 := Blk_10.cell HQ.out (i := 2) (v := .int .i64 (q.f : Int)) rfl
                clear hge hq hbz
                by_cases hF : F3 = 0
                · subst hF
                  have e := KB0.out rfl
                  simp only [Int.natCast_add] at e
                  subst e
                  have hwh : IntKind.i64.wrap ((p : Int) + (n.head : Int)) = (p : Int) + (n.head : Int) := by rw [IntKind.wrap_i64]; omega
                  have hwt : IntKind.i64.wrap ((p : Int) + (n.total : Int)) = (p : Int) + (n.total : Int) := by rw [IntKind.wrap_i64]; omega
                  go_wp2_with (first
                    | ((with_reducible show wpList _ _ _ (⟨none, .store 3 (.tmp 104) _, _, _, _, _⟩ :: _) _ _); refine wpList_storeI_10 (op := ⟨none, .store 3 (.tmp 104) _, _, _, _, _⟩) rfl (.tmp 104) _ rfl w2.heap.size 35 (by rfl) (q.s : Int) (by rfl) 35 _ HTz.out 0 (tuL_num ⟨NS.out.s, NS.out.d⟩ 1) ?_; intro wa hta hna hba; rw [tu_set35 NS.out.s NS.out.d] at hta; have HTa := Lib.hid hta; have HPa := Lib.hid (show Blk wa 37 w.heap.size (pkL (kindK 0)) from (hna _ (Nat.ne_of_lt (Nat.lt_of_lt_of_le HG2.out (Nat.le_refl _)))).trans HPz.out); have HKa := Lib.hid (show Blk wa 46 w1.heap.size (lkL L (.slice At mt ct)) from (hna _ (Nat.ne_of_lt HG3.out)).trans HKz.out); have HBa := Lib.hid (HBz.out.trans (hba.mono (Nat.le_of_lt HG2.out))); have oa1 := (show Blk wa 72 G (poL q) from (hna _ (by have := HTL.out; have := HGE.out; omega)).trans HQ.out); have p1 := Blk_10.cell oa1 (i := 1) (v := .int .i64 (q.d : Int)) rfl; have HQa := Lib.hid oa1; clear hta hna hba oa1)
                    | ((with_reducible show wpList _ _ _ (⟨none, .store 3 (.tmp 107) _, _, _, _, _⟩ :: _) _ _); refine wpList_storeI_10 (op := ⟨none, .store 3 (.tmp 107) _, _, _, _, _⟩) rfl (.tmp 107) _ rfl w2.heap.size 36 (by rfl) (q.d : Int) (by rfl) 35 _ HTa.out 0 (tuL_num ⟨NS.out.s, NS.out.d⟩ 2) ?_; intro wb htb hnb hbb; rw [tu_set36 NS.out.s NS.out.d] at htb; have HTb := Lib.hid htb; have HPb := Lib.hid (show Blk wb 37 w.heap.size (pkL (kindK 0)) from (hnb _ (Nat.ne_of_lt (Nat.lt_of_lt_of_le HG2.out (Nat.le_refl _)))).trans HPa.out); have kb := (show Blk wb 46 w1.heap.size (lkL L (.slice At mt ct)) from (hnb _ (Nat.ne_of_lt HG3.out)).trans HKa.out); have k14 := Blk_10.cell kb Hat.out; have HBb := Lib.hid (HBa.out.trans (hbb.mono (Nat.le_of_lt HG2.out))); have ob := (show Blk wb 72 G (poL q) from (hnb _ (by have := HTL.out; have := HGE.out; omega)).trans HQa.out); have r2 := Blk_10.cell ob (i := 2) (v := .int .i64 (q.f : Int)) rfl; clear htb hnb hbb ob kb)
                    | ((with_reducible show wpList _ _ _ (⟨some 108, _, _, _, _, _⟩ :: _) _ _); refine wpList_loadTu (op := ⟨some 108, _, _, _, _, _⟩) _ rfl (by rfl) w2.heap.size 0 (by rfl) ⟨n.s, n.d, (n.proto : Int), (q.s : Int), (q.d : Int)⟩ ⟨NS.out.s, NS.out.d⟩ (Blk_10.range HTb.out) ?_)
                    | ((with_reducible show wpList _ _ _ (⟨some 121, _, _, _, _, _⟩ :: _) _ _); refine wpList_buildw (op := ⟨some 121, _, _, _, _, _⟩) 37 _ rfl (by rfl) _ (by kernel_rfl) (pkL ⟨0, ⟨n.s, n.d, (n.proto : Int), (q.s : Int), (q.d : Int)⟩, (q.f : Int), (p : Int), (p : Int) + (n.head : Int), (p : Int) + (n.total : Int)⟩).toArray (built_pk _ _ _ _ _ ⟨NS.out.s, NS.out.d⟩) ?_)
                    | ((with_reducible show wpList _ _ _ (⟨none, .store 37 (.tmp 2) _, _, _, _, _⟩ :: _) _ _); refine wpList_storeR_10 (op := ⟨none, .store 37 (.tmp 2) _, _, _, _, _⟩) rfl 37 _ _ rfl w.heap.size (by rfl) (pkL ⟨0, ⟨n.s, n.d, (n.proto : Int), (q.s : Int), (q.d : Int)⟩, (q.f : Int), (p : Int), (p : Int) + (n.head : Int), (p : Int) + (n.total : Int)⟩) (by rfl) _ HPb.out (by rw [pkL_len (p := ⟨0, ⟨n.s, n.d, (n.proto : Int), (q.s : Int), (q.d : Int)⟩, (q.f : Int), (p : Int), (p : Int) + (n.head : Int), (p : Int) + (n.total : Int)⟩) ⟨NS.out.s, NS.out.d⟩, pkL_len (p := kindK 0) Tu.ok_zero]) (sizePkL ⟨NS.out.s, NS.out.d⟩) (pkL_one _) ?_))
                  refine bodyPost_ret (v := pkC ⟨0, ⟨n.s, n.d, (n.proto : Int), (q.s : Int), (q.d : Int)⟩, (q.f : Int), (p : Int), (p : Int) + (n.head : Int), (p : Int) + (n.total : Int)⟩) (results_pk rfl _ _ w.heap.size (by rfl) _ ⟨NS.out.s, NS.out.d⟩ (Blk_10.setRow_ HPb.out _)) rfl ?_
                  exact ⟨rfl, below_setRow HBb.out (Nat.le_refl _) _⟩
                · have e := KB6.out hF
                  subst e
                  have bE : ((F3 : Int) != 0) = true := by simp; omega
                  have bE2 : (F3 != 0) = true := by simp [hF]
                  go_wp2_with (first
                    | ((with_reducible show wpList _ _ _ (⟨some 101, _, _, _, _, _⟩ :: _) _ _); refine wpList_buildw (op := ⟨some 101, _, _, _, _, _⟩) 37 _ rfl (by rfl) _ (by kernel_rfl) (pkL (kindK 6)).toArray (built_pk1 6) ?_)
                    | ((with_reducible show wpList _ _ _ (⟨none, .store 37 (.tmp 2) _, _, _, _, _⟩ :: _) _ _); refine wpList_storeR_10 (op := ⟨none, .store 37 (.tmp 2) _, _, _, _, _⟩) rfl 37 _ _ rfl w.heap.size (by rfl) (pkL (kindK 6)) (by rfl) _ HPz.out (kind_len _ _) (sizePkL Tu.ok_zero) (pkL_one _) ?_))
                  refine bodyPost_ret (v := pkC (kindK 6)) (results_pk rfl _ _ w.heap.size (by rfl) _ Tu.ok_zero (Blk_10.setRow_ HPz.out _)) rfl ?_
                  exact ⟨rfl, below_setRow HBz.out (Nat.le_refl _) _⟩
            · have p6 : ((n.proto : Int) != 6) = true := by simp; omega
              have p17 : ((n.proto : Int) != 17) = false := by simp; omega
              clear hq6 pne HPR
              go_wp2_with (first
                | ((with_reducible show wpList _ _ _ (⟨none, .store 64 (.tmp 10) (.tmp 35), _, _, _, _⟩ :: _) _ _); refine wpList_storeNewG (op := ⟨none, .store 64 (.tmp 10) (.tmp 35), _, _, _, _⟩) rfl 64 _ _ rfl (by rfl) (frL_8 f) (by rfl) (by rw [frL_len_8 HFO.out]; rfl) (sizeFrL_8 HFO.out) (frL_one_8 _) ?_; intro w5 hf5 hb5 hz5; clear hz5; have HB5 := Lib.hid (HB4.out.trans (hb5.mono HB4.out.size)); have HP5 := Lib.hid (HP4.out.below HP4.out.lt hb5); have HK5 := Lib.hid (HK4.out.below HK4.out.lt hb5); have HT5 := Lib.hid (HT4.out.below HT4.out.lt hb5); have c0 := Blk_8.cell hf5 (i := 0) (v := .int .i64 (n.head : Int)) (by rw [← HNF.out.1]; rfl); have c1 := Blk_8.cell hf5 (i := 1) (v := .int .i64 (n.total : Int)) (by rw [← HNF.out.2.1]; rfl); have c4 := Blk_8.cell hf5 (i := 4) (v := .bool false) (by rw [← HFG.out, ← HNF.out.2.2.1]; rfl); have c7 := Blk_8.cell hf5 (i := 7) (v := .int .i64 (n.proto : Int)) (by rw [← HNF.out.2.2.2.1]; rfl); have HA0 : Hid (w5.rangeAt w4.heap.size 8 (adL n.s)) := Lib.hid (by rw [← HNF.out.2.2.2.2.1]; exact Blk_8.src hf5); have HA1 : Hid (w5.rangeAt w4.heap.size 25 (adL n.d)) := Lib.hid (by rw [← HNF.out.2.2.2.2.2]; exact Blk_8.dst hf5 HFO.out); clear hf5 hb5)
                | ((with_reducible show wpList _ _ _ (⟨some 47, _, _, _, _, _⟩ :: _) _ _); refine wpList_loadAd (op := ⟨some 47, _, _, _, _, _⟩) _ rfl (by rfl) w4.heap.size 8 (by rfl) n.s NS.out.s HA0.out ?_)
                | ((with_reducible show wpList _ _ _ (⟨some 49, _, _, _, _, _⟩ :: _) _ _); refine wpList_loadAd (op := ⟨some 49, _, _, _, _, _⟩) _ rfl (by rfl) w4.heap.size 25 (by rfl) n.d NS.out.d HA1.out ?_)
                | ((with_reducible show wpList _ _ _ (⟨some 52, _, _, _, _, _⟩ :: _) _ _); refine wpList_buildw (op := ⟨some 52, _, _, _, _, _⟩) 35 _ rfl (by rfl) _ (by kernel_rfl) (tuL ⟨n.s, n.d, (n.proto : Int), 0, 0⟩).toArray (built_tu3 _ _ _ NS.out.s NS.out.d) ?_)
                | ((with_reducible show wpList _ _ _ (⟨none, .store 35 (.tmp 9) _, _, _, _, _⟩ :: _) _ _); refine wpList_storeR_10 (op := ⟨none, .store 35 (.tmp 9) _, _, _, _, _⟩) rfl 35 _ _ rfl w2.heap.size (by rfl) (tuL ⟨n.s, n.d, (n.proto : Int), 0, 0⟩) (by rfl) _ HT5.out (by rw [tuL_len (t := ⟨n.s, n.d, (n.proto : Int), 0, 0⟩) ⟨NS.out.s, NS.out.d⟩, tuL_len Tu.ok_zero]) (sizeTuL ⟨NS.out.s, NS.out.d⟩) (tuL_one _) ?_; generalize hX : w5.setRow w2.heap.size (tuL ⟨n.s, n.d, (n.proto : Int), 0, 0⟩).toArray = w6; have HT6 : Hid (Blk w6 35 w2.heap.size (tuL ⟨n.s, n.d, (n.proto : Int), 0, 0⟩)) := Lib.hid (by rw [← hX]; exact Blk_10.setRow_ HT5.out _); have HP6 : Hid (Blk w6 37 w.heap.size (pkL (kindK 0))) := Lib.hid (by rw [← hX]; exact Blk_10.setRow_far HP5.out (by have := HB2.out.size; have := HG2.out; omega) _); have HK6 : Hid (Blk w6 46 w1.heap.size (lkL L (.slice At mt ct))) := Lib.hid (by rw [← hX]; exact Blk_10.setRow_far HK5.out (by have := HG3.out; omega) _); have HB6 : Hid (Below w.heap.size w w6) := Lib.hid (by rw [← hX]; exact below_setRow HB5.out (Nat.le_trans HB2.out.size (Nat.le_refl _)) _); clear hX; have q34 := (tu_num HT6.out ⟨NS.out.s, NS.out.d⟩).1))
              have HT34 := Lib.hid (fun W (hW : Below w6.heap.size w6 W) => (tu_num (HT6.out.below HT6.out.lt hW) ⟨NS.out.s, NS.out.d⟩).1)
              have h1 := NS.out.h1
              have h2 := NS.out.h2
              obtain ⟨sl, hsl⟩ : ∃ k, n.total - n.head = k := ⟨_, rfl⟩
              have HSEG := Lib.hid (fun W (hW : Below w6.heap.size w6 W) => ((HRR.out.below (HB6.out.trans (hW.mono HB6.out.size))).cut (l := n.head) (n := sl) (by omega) rc hrcl).more (Nat.le_trans HB6.out.size hW.size))
              have hseg : (rest.drop n.head).take sl = segN rest n := by unfold segN; rw [hsl]
              rw [hseg] at HSEG
              have HC8 := Lib.hid (fun W => run_cut8 RA rl rc n.head sl (n.head : Int) (n.total : Int) rfl (by omega) (by omega) W)
              have R10 := Lib.hid (fun W (hW : Below w6.heap.size w6 W) => rread_any_10 (A := cutA RA rc n.head) (cap := rc - n.head) (xs := segN rest n) (n.proto : Int) W (HSEG.out W hW))
              obtain ⟨q, hq⟩ : ∃ q, rdP (n.proto : Nat) (segN rest n) = q := ⟨_, rfl⟩
              obtain ⟨F3, hF3⟩ : ∃ F, faultP (n.proto : Nat) (segN rest n) = F := ⟨_, rfl⟩
              have KB6 := Lib.hid (fun (h : F3 ≠ 0) => HKE.out.trans (behind_6 hne hfg hp5 (by rw [hF3]; exact h)))
              have KB0 := Lib.hid (fun (h : F3 = 0) => hq ▸ HKE.out.trans (behind_0 hne hfg hp5 (by rw [hF3]; exact h)))
              rw [hq, hF3] at R10
              have HSL := Lib.hid hsl
              clear hq hF3 hsl hseg c14 hp5 hne hfg
              apply cut_world (H := fun W G => w6.heap.size ≤ G ∧ Blk W 72 G (poL q) ∧ Below w6.heap.size w6 W)
              case h1 =>
                intro hc
                refine wp_region_held_drew (S := fun W => Below w6.heap.size w6 W) (by kernel_rfl) ((Below.refl _ _).drew) (fun hHeld => ?_)
                obtain ⟨Y, hY⟩ : ∃ Y, w6.drew = Y := ⟨_, rfl⟩
                rw [hY] at hHeld ⊢
                clear hY
                refine tk 0 90 (.pointer (some ⟨w2.heap.size, 34, none⟩)) rfl hHeld ?_
                simp only [Act.put, sA, sZ, sS]
                refine tkY 1 91 (.int .i64 (n.proto : Int)) rfl (Or.inl ⟨by rfl, fun W hW => by have hc := HT34.out W hW; go_simp⟩) hHeld ?_
                simp only [Act.put, sA, sZ, sS]
                refine tk 2 92 (.slice RA rl rc) rfl hHeld ?_
                simp only [Act.put, sA, sZ, sS]
                refine tk 3 93 (.int .i64 (n.head : Int)) rfl hHeld ?_
                simp only [Act.put, sA, sZ, sS]
                refine tk 4 94 (.int .i64 (n.total : Int)) rfl hHeld ?_
                simp only [Act.put, sA, sZ, sS]
                refine tkY 5 95 (.slice (cutA RA rc n.head) sl (rc - n.head)) rfl (Or.inl ⟨by rfl, fun W _ => by have hs := HC8.out W; go_simp⟩) hHeld ?_
                simp only [Act.put, sA, sZ, sS]
                refine wpAnyH_ready (rs := [6, 10]) (by kernel_rfl) (by simp) (AllReadyH.cons (o := ⟨some 96, _, _, _, _, _⟩) rfl (fun K hK => ?_) (AllReadyH.cons (o := ⟨some 14, _, _, _, _, _⟩) rfl (fun K hK => ?_) AllReadyH.nil))
                · go_simp
                  refine (R10.out _ hHeld).mono ?_
                  rintro e w7 ⟨rfl, hb7⟩
                  refine hK.out _ _ (hHeld.trans (hb7.mono hHeld.size)) (fun hHeld => ?_)
                  clear hK K hb7
                  refine tk 7 89 (.tuple #[poC q, .int .i64 (F3 : Int)]) rfl hHeld ?_
                  simp only [Act.put, sA, sZ, sS]
                  refine tk 8 97 (poC q) rfl hHeld ?_
                  simp only [Act.put, sA, sZ, sS]
                  refine tk 9 98 (.int .i64 (F3 : Int)) rfl hHeld ?_
                  simp only [Act.put, sA, sZ, sS]
                  refine wpAnyH_ready (rs := [10]) (by kernel_rfl) (by simp) (AllReadyH.cons (o := ⟨some 14, _, _, _, _, _⟩) rfl (fun K hK => ?_) AllReadyH.nil)
                  go_simp
                  rw [zeroP_10]
                  have hg8 := Blk_10.new w7 72 (poL Po.zero)
                  have HG8 := Lib.hid hg8
                  have HGE := Lib.hid hHeld.size
                  have hh8 := hHeld.alloc hHeld.size (.cells (poL Po.zero).toArray 72)
                  have HH8 := Lib.hid hh8
                  clear hg8 hh8
                  generalize w7.heap.size = G at HG8 HGE ⊢
                  generalize w7.alloc (.cells (poL Po.zero).toArray 72) = w8 at HG8 HH8 ⊢
                  refine hK.out _ _ (HH8.out) (fun hHeld => ?_)
                  clear hK K 
                  refine wpAnyH_ready (rs := [11]) (by kernel_rfl) (by simp) (AllReadyH.cons (o := ⟨none, _, _, _, _, _⟩) rfl (fun K hK => ?_) AllReadyH.nil)
                  refine step_storeR_10 rfl 72 _ _ rfl G (by rfl) (poL q) (by rfl) _ HG8.out rfl (sizePoL _) (poL_one _) ?_
                  have hr9 := Blk_10.setRow_ HG8.out (poL q)
                  have hh9 := below_setRow hHeld (HGE.out) (poL q).toArray
                  have HR9 := Lib.hid hr9
                  have HH9 := Lib.hid hh9
                  clear hr9 hh9
                  generalize World.setRow _ G (poL q).toArray = wz at HR9 HH9 ⊢
                  refine hK.out _ _ (HH9.out) (fun hHeld => ?_)
                  clear hK K 
                  refine tk 12 15 (.int .i64 (F3 : Int)) rfl hHeld ?_
                  simp only [Act.put, sA, sZ, sS]
                  refine wpAnyH_done (by kernel_rfl) ?_ _
                  exact hc wz G ⟨HGE.out, HR9.out, HH9.out⟩
                · go_simp
                  rw [zeroP_10]
                  have hg7 := Blk_10.new Y 72 (poL Po.zero)
                  have HG7 := Lib.hid hg7
                  have HGE := Lib.hid hHeld.size
                  have hh7 := hHeld.alloc hHeld.size (.cells (poL Po.zero).toArray 72)
                  have HH7 := Lib.hid hh7
                  clear hg7 hh7
                  generalize Y.heap.size = G at HG7 HGE ⊢
                  generalize Y.alloc (.cells (poL Po.zero).toArray 72) = w7 at HG7 HH7 ⊢
                  refine hK.out _ _ (HH7.out) (fun hHeld => ?_)
                  clear hK K 
                  refine wpAnyH_ready (rs := [6]) (by kernel_rfl) (by simp) (AllReadyH.cons (o := ⟨some 96, _, _, _, _, _⟩) rfl (fun K hK => ?_) AllReadyH.nil)
                  go_simp
                  refine (R10.out _ hHeld).mono ?_
                  rintro e w8 ⟨rfl, hb8⟩
                  have HG8 := Lib.hid (HG7.out.below HG7.out.lt hb8)
                  refine hK.out _ _ (hHeld.trans (hb8.mono hHeld.size)) (fun hHeld => ?_)
                  clear hK K hb8
                  refine tk 7 89 (.tuple #[poC q, .int .i64 (F3 : Int)]) rfl hHeld ?_
                  simp only [Act.put, sA, sZ, sS]
                  refine tk 8 97 (poC q) rfl hHeld ?_
                  simp only [Act.put, sA, sZ, sS]
                  refine tk 9 98 (.int .i64 (F3 : Int)) rfl hHeld ?_
                  simp only [Act.put, sA, sZ, sS]
                  refine wpAnyH_ready (rs := [11]) (by kernel_rfl) (by simp) (AllReadyH.cons (o := ⟨none, _, _, _, _, _⟩) rfl (fun K hK => ?_) AllReadyH.nil)
                  refine step_storeR_10 rfl 72 _ _ rfl G (by rfl) (poL q) (by rfl) _ HG8.out rfl (sizePoL _) (poL_one _) ?_
                  have hr9 := Blk_10.setRow_ HG8.out (poL q)
                  have hh9 := below_setRow hHeld (HGE.out) (poL q).toArray
                  have HR9 := Lib.hid hr9
                  have HH9 := Lib.hid hh9
                  clear hr9 hh9
                  generalize World.setRow _ G (poL q).toArray = wz at HR9 HH9 ⊢
                  refine hK.out _ _ (HH9.out) (fun hHeld => ?_)
                  clear hK K 
                  refine tk 12 15 (.int .i64 (F3 : Int)) rfl hHeld ?_
                  simp only [Act.put, sA, sZ, sS]
                  refine wpAnyH_done (by kernel_rfl) ?_ _
                  exact hc wz G ⟨HGE.out, HR9.out, HH9.out⟩
              case h2 =>
                intro wz G hcc
                obtain ⟨hge, hq, hbz⟩ := hcc
                have HQ := Lib.hid hq
                have HPz := Lib.hid (HP6.out.below HP6.out.lt hbz)
                have HTz := Lib.hid (HT6.out.below HT6.out.lt hbz)
                have HKz := Lib.hid (HK6.out.below HK6.out.lt hbz)
                have HBz := Lib.hid (HB6.out.trans (hbz.mono HB6.out.size))
                have HTL := Lib.hid HT6.out.lt
                have HKL := Lib.hid HK6.out.lt
                have HPL := Lib.hid HP6.out.lt
                have HGE := Lib.hid hge
                have o0 := Blk_10.cell HQ.out (i := 0) (v := .int .i64 (q.s : Int)) rfl
                have o1 := Blk_10.cell HQ.out (i := 1) (v := .int .i64 (q.d : Int)) rfl
                have o2 := Blk_10.cell HQ.out (i := 2) (v := .int .i64 (q.f : Int)) rfl
                clear hge hq hbz
                by_cases hF : F3 = 0
                · subst hF
                  have e := KB0.out rfl
                  simp only [Int.natCast_add] at e
                  subst e
                  have hwh : IntKind.i64.wrap ((p : Int) + (n.head : Int)) = (p : Int) + (n.head : Int) := by rw [IntKind.wrap_i64]; omega
                  have hwt : IntKind.i64.wrap ((p : Int) + (n.total : Int)) = (p : Int) + (n.total : Int) := by rw [IntKind.wrap_i64]; omega
                  go_wp2_with (first
                    | ((with_reducible show wpList _ _ _ (⟨none, .store 3 (.tmp 104) _, _, _, _, _⟩ :: _) _ _); refine wpList_storeI_10 (op := ⟨none, .store 3 (.tmp 104) _, _, _, _, _⟩) rfl (.tmp 104) _ rfl w2.heap.size 35 (by rfl) (q.s : Int) (by rfl) 35 _ HTz.out 0 (tuL_num ⟨NS.out.s, NS.out.d⟩ 1) ?_; intro wa hta hna hba; rw [tu_set35 NS.out.s NS.out.d] at hta; have HTa := Lib.hid hta; have HPa := Lib.hid (show Blk wa 37 w.heap.size (pkL (kindK 0)) from (hna _ (Nat.ne_of_lt (Nat.lt_of_lt_of_le HG2.out (Nat.le_refl _)))).trans HPz.out); have HKa := Lib.hid (show Blk wa 46 w1.heap.size (lkL L (.slice At mt ct)) from (hna _ (Nat.ne_of_lt HG3.out)).trans HKz.out); have HBa := Lib.hid (HBz.out.trans (hba.mono (Nat.le_of_lt HG2.out))); have oa1 := (show Blk wa 72 G (poL q) from (hna _ (by have := HTL.out; have := HGE.out; omega)).trans HQ.out); have p1 := Blk_10.cell oa1 (i := 1) (v := .int .i64 (q.d : Int)) rfl; have HQa := Lib.hid oa1; clear hta hna hba oa1)
                    | ((with_reducible show wpList _ _ _ (⟨none, .store 3 (.tmp 107) _, _, _, _, _⟩ :: _) _ _); refine wpList_storeI_10 (op := ⟨none, .store 3 (.tmp 107) _, _, _, _, _⟩) rfl (.tmp 107) _ rfl w2.heap.size 36 (by rfl) (q.d : Int) (by rfl) 35 _ HTa.out 0 (tuL_num ⟨NS.out.s, NS.out.d⟩ 2) ?_; intro wb htb hnb hbb; rw [tu_set36 NS.out.s NS.out.d] at htb; have HTb := Lib.hid htb; have HPb := Lib.hid (show Blk wb 37 w.heap.size (pkL (kindK 0)) from (hnb _ (Nat.ne_of_lt (Nat.lt_of_lt_of_le HG2.out (Nat.le_refl _)))).trans HPa.out); have kb := (show Blk wb 46 w1.heap.size (lkL L (.slice At mt ct)) from (hnb _ (Nat.ne_of_lt HG3.out)).trans HKa.out); have k14 := Blk_10.cell kb Hat.out; have HBb := Lib.hid (HBa.out.trans (hbb.mono (Nat.le_of_lt HG2.out))); have ob := (show Blk wb 72 G (poL q) from (hnb _ (by have := HTL.out; have := HGE.out; omega)).trans HQa.out); have r2 := Blk_10.cell ob (i := 2) (v := .int .i64 (q.f : Int)) rfl; clear htb hnb hbb ob kb)
                    | ((with_reducible show wpList _ _ _ (⟨some 108, _, _, _, _, _⟩ :: _) _ _); refine wpList_loadTu (op := ⟨some 108, _, _, _, _, _⟩) _ rfl (by rfl) w2.heap.size 0 (by rfl) ⟨n.s, n.d, (n.proto : Int), (q.s : Int), (q.d : Int)⟩ ⟨NS.out.s, NS.out.d⟩ (Blk_10.range HTb.out) ?_)
                    | ((with_reducible show wpList _ _ _ (⟨some 121, _, _, _, _, _⟩ :: _) _ _); refine wpList_buildw (op := ⟨some 121, _, _, _, _, _⟩) 37 _ rfl (by rfl) _ (by kernel_rfl) (pkL ⟨0, ⟨n.s, n.d, (n.proto : Int), (q.s : Int), (q.d : Int)⟩, (q.f : Int), (p : Int), (p : Int) + (n.head : Int), (p : Int) + (n.total : Int)⟩).toArray (built_pk _ _ _ _ _ ⟨NS.out.s, NS.out.d⟩) ?_)
                    | ((with_reducible show wpList _ _ _ (⟨none, .store 37 (.tmp 2) _, _, _, _, _⟩ :: _) _ _); refine wpList_storeR_10 (op := ⟨none, .store 37 (.tmp 2) _, _, _, _, _⟩) rfl 37 _ _ rfl w.heap.size (by rfl) (pkL ⟨0, ⟨n.s, n.d, (n.proto : Int), (q.s : Int), (q.d : Int)⟩, (q.f : Int), (p : Int), (p : Int) + (n.head : Int), (p : Int) + (n.total : Int)⟩) (by rfl) _ HPb.out (by rw [pkL_len (p := ⟨0, ⟨n.s, n.d, (n.proto : Int), (q.s : Int), (q.d : Int)⟩, (q.f : Int), (p : Int), (p : Int) + (n.head : Int), (p : Int) + (n.total : Int)⟩) ⟨NS.out.s, NS.out.d⟩, pkL_len (p := kindK 0) Tu.ok_zero]) (sizePkL ⟨NS.out.s, NS.out.d⟩) (pkL_one _) ?_))
                  refine bodyPost_ret (v := pkC ⟨0, ⟨n.s, n.d, (n.proto : Int), (q.s : Int), (q.d : Int)⟩, (q.f : Int), (p : Int), (p : Int) + (n.head : Int), (p : Int) + (n.total : Int)⟩) (results_pk rfl _ _ w.heap.size (by rfl) _ ⟨NS.out.s, NS.out.d⟩ (Blk_10.setRow_ HPb.out _)) rfl ?_
                  exact ⟨rfl, below_setRow HBb.out (Nat.le_refl _) _⟩
                · have e := KB6.out hF
                  subst e
                  have bE : ((F3 : Int) != 0) = true := by simp; omega
                  have bE2 : (F3 != 0) = true := by simp [hF]
                  go_wp2_with (first
                    | ((with_reducible show wpList _ _ _ (⟨some 101, _, _, _, _, _⟩ :: _) _ _); refine wpList_buildw (op := ⟨some 101, _, _, _, _, _⟩) 37 _ rfl (by rfl) _ (by kernel_rfl) (pkL (kindK 6)).toArray (built_pk1 6) ?_)
                    | ((with_reducible show wpList _ _ _ (⟨none, .store 37 (.tmp 2) _, _, _, _, _⟩ :: _) _ _); refine wpList_storeR_10 (op := ⟨none, .store 37 (.tmp 2) _, _, _, _, _⟩) rfl 37 _ _ rfl w.heap.size (by rfl) (pkL (kindK 6)) (by rfl) _ HPz.out (kind_len _ _) (sizePkL Tu.ok_zero) (pkL_one _) ?_))
                  refine bodyPost_ret (v := pkC (kindK 6)) (results_pk rfl _ _ w.heap.size (by rfl) _ Tu.ok_zero (Blk_10.setRow_ HPz.out _)) rfl ?_
                  exact ⟨rfl, below_setRow HBz.out (Nat.le_refl _) _⟩
      · have e := HKE.out.trans (behind_3 (by rw [NE.out]; exact h0))
        subst e
        have bE : ((E2 : Int) != 0) = true := by simp; omega
        have bE2 : (E2 != 0) = true := by simp [h0]
        go_wp2_with (first
          | ((with_reducible show wpList _ _ _ (⟨none, .store 64 (.tmp 10) (.tmp 35), _, _, _, _⟩ :: _) _ _); refine wpList_storeNewG (op := ⟨none, .store 64 (.tmp 10) (.tmp 35), _, _, _, _⟩) rfl 64 _ _ rfl (by rfl) (frL_8 f) (by rfl) (by rw [frL_len_8 HFO.out]; rfl) (sizeFrL_8 HFO.out) (frL_one_8 _) ?_; intro w5 hf5 hb5 hz5; clear hz5; have HB5 := Lib.hid (HB4.out.trans (hb5.mono HB4.out.size)); have HP5 := Lib.hid (HP4.out.below HP4.out.lt hb5); have HK5 := Lib.hid (HK4.out.below HK4.out.lt hb5); have HT5 := Lib.hid (HT4.out.below HT4.out.lt hb5); clear hf5 hb5)
          | ((with_reducible show wpList _ _ _ (⟨some 39, _, _, _, _, _⟩ :: _) _ _); refine wpList_buildw (op := ⟨some 39, _, _, _, _, _⟩) 37 _ rfl (by rfl) _ (by kernel_rfl) (pkL (kindK 3)).toArray (built_pk1 3) ?_)
          | ((with_reducible show wpList _ _ _ (⟨none, .store 37 (.tmp 2) _, _, _, _, _⟩ :: _) _ _); refine wpList_storeR_10 (op := ⟨none, .store 37 (.tmp 2) _, _, _, _, _⟩) rfl 37 _ _ rfl w.heap.size (by rfl) (pkL (kindK 3)) (by rfl) _ HP5.out (kind_len _ _) (sizePkL Tu.ok_zero) (pkL_one _) ?_))
        refine bodyPost_ret (v := pkC (kindK 3)) (results_pk rfl _ _ w.heap.size (by rfl) _ Tu.ok_zero (Blk_10.setRow_ HP5.out _)) rfl ?_
        exact ⟨rfl, below_setRow HB5.out (Nat.le_refl _) _⟩
    · by_cases h6 : L.ty = 34525
      · have KE := K6.out rfl h6
        rw [h6] at Hty
        have R9 := Lib.hid (fun W (hB : Below w.heap.size w W) => rread_any_9 RA rl rc rest (by omega) W ((HRR.out.below hB).more hB.size))
        have NE := Lib.hid (nt6_e rest)
        have NF := nt6_fr rest
        have NS := Lib.hid (HDL.out ▸ nt6_fits rest)
        have HFO := Lib.hid (rdF_ok_9 rest)
        obtain ⟨n, hn⟩ : ∃ n, nt6 rest = n := ⟨_, rfl⟩
        obtain ⟨f, hf⟩ : ∃ f, rdF_9 rest = f := ⟨_, rfl⟩
        obtain ⟨E2, hE2⟩ : ∃ E, rdN rest = E := ⟨_, rfl⟩
        rw [hn] at KE NE NF NS
        rw [hf] at R9 NF HFO
        rw [hE2] at R9 NE
        have HKE := Lib.hid KE
        have HNF := Lib.hid NF
        clear h4 h6 hn hf hE2 KE NF K1 K2 K4 K6
        go_wp2_with (first
          | ((with_reducible show wpList _ _ _ (⟨none, .store 46 (.tmp 3) (.tmp 19), _, _, _, _⟩ :: _) _ _); refine wpList_storeNewG (op := ⟨none, .store 46 (.tmp 3) (.tmp 19), _, _, _, _⟩) rfl 46 _ _ rfl (by rfl) (lkL L (.slice At mt ct)) (by rfl) (by rw [lkL_len H6.out]; rfl) (sizeLkL H6.out _) (lkL_one L _ rfl) ?_; intro w2 hl2 hb2 hz2; clear hz2; have HB2 := Lib.hid (HB1.out.trans (hb2.mono HB1.out.size)); have HP2 := Lib.hid (HP1.out.below HP1.out.lt hb2); have HK2 := Lib.hid hl2; have HG2 := Lib.hid (show w.heap.size < w2.heap.size from Nat.lt_of_lt_of_le HP1.out.lt hb2.size); have HG3 := Lib.hid (show w1.heap.size < w2.heap.size from hl2.lt); have c14 := Blk_10.cell hl2 Hat.out; have hcut := HCUT.out; clear hl2 hb2)
          | ((with_reducible show wpList _ _ _ (⟨some 28, _, _, _, _, _⟩ :: _) _ _); refine wpList_buildw (op := ⟨some 28, _, _, _, _, _⟩) 35 _ rfl (by rfl) _ (by kernel_rfl) (tuL Tu.zero).toArray built_tu0 ?_)
          | ((with_reducible show wpList _ _ _ (⟨none, .store 35 (.tmp 9) (.tmp 28), _, _, _, _⟩ :: _) _ _); refine wpList_storeNewG (op := ⟨none, .store 35 (.tmp 9) (.tmp 28), _, _, _, _⟩) rfl 35 _ _ rfl (by rfl) (tuL Tu.zero) (by rfl) (by rw [tuL_len Tu.ok_zero]; rfl) (sizeTuL Tu.ok_zero) (tuL_one _) ?_; intro w3 ht3 hb3 hz3; clear hz3; have HB3 := Lib.hid (HB2.out.trans (hb3.mono HB2.out.size)); have HP3 := Lib.hid (HP2.out.below HP2.out.lt hb3); have HK3 := Lib.hid (HK2.out.below HK2.out.lt hb3); have HT3 := Lib.hid ht3; have c13 := Blk_10.cell HK3.out Hty.out; clear ht3 hb3))
        refine (R9.out _ HB3.out).mono ?_
        rintro e w4 ⟨rfl, hb4⟩
        have HB4 := Lib.hid (HB3.out.trans (hb4.mono HB3.out.size))
        have HP4 := Lib.hid (HP3.out.below HP3.out.lt hb4)
        have HK4 := Lib.hid (HK3.out.below HK3.out.lt hb4)
        have HT4 := Lib.hid (HT3.out.below HT3.out.lt hb4)
        clear hb4 c13
        by_cases h0 : E2 = 0
        · subst h0
          have hne := NE.out
          obtain ⟨fg, hfg⟩ : ∃ b, n.frag = b := ⟨_, rfl⟩
          have HFG := Lib.hid hfg
          cases fg with
          | true =>
            have e := HKE.out.trans (behind_4 hne hfg)
            subst e
            go_wp2_with (first
              | ((with_reducible show wpList _ _ _ (⟨none, .store 68 (.tmp 12) (.tmp 59), _, _, _, _⟩ :: _) _ _); refine wpList_storeNewG (op := ⟨none, .store 68 (.tmp 12) (.tmp 59), _, _, _, _⟩) rfl 68 _ _ rfl (by rfl) (frL_9 f) (by rfl) (by rw [frL_len_9 HFO.out]; rfl) (sizeFrL_9 HFO.out) (frL_one_9 _) ?_; intro w5 hf5 hb5 hz5; clear hz5; have HB5 := Lib.hid (HB4.out.trans (hb5.mono HB4.out.size)); have HP5 := Lib.hid (HP4.out.below HP4.out.lt hb5); have HK5 := Lib.hid (HK4.out.below HK4.out.lt hb5); have HT5 := Lib.hid (HT4.out.below HT4.out.lt hb5); have c0 := Blk_9.cell hf5 (i := 0) (v := .int .i64 (n.head : Int)) (by rw [← HNF.out.1]; rfl); have c1 := Blk_9.cell hf5 (i := 1) (v := .int .i64 (n.total : Int)) (by rw [← HNF.out.2.1]; rfl); have c4 := Blk_9.cell hf5 (i := 3) (v := .bool true) (by rw [← HFG.out, ← HNF.out.2.2.1]; rfl); have c7 := Blk_9.cell hf5 (i := 5) (v := .int .i64 (n.proto : Int)) (by rw [← HNF.out.2.2.2.1]; rfl); have HA0 : Hid (w5.rangeAt w4.heap.size 6 (adL n.s)) := Lib.hid (by rw [← HNF.out.2.2.2.2.1]; exact Blk_9.src hf5); have HA1 : Hid (w5.rangeAt w4.heap.size 23 (adL n.d)) := Lib.hid (by rw [← HNF.out.2.2.2.2.2]; exact Blk_9.dst hf5 HFO.out); clear hf5 hb5)
              | ((with_reducible show wpList _ _ _ (⟨some 71, _, _, _, _, _⟩ :: _) _ _); refine wpList_loadAd (op := ⟨some 71, _, _, _, _, _⟩) _ rfl (by rfl) w4.heap.size 6 (by rfl) n.s NS.out.s HA0.out ?_)
              | ((with_reducible show wpList _ _ _ (⟨some 73, _, _, _, _, _⟩ :: _) _ _); refine wpList_loadAd (op := ⟨some 73, _, _, _, _, _⟩) _ rfl (by rfl) w4.heap.size 23 (by rfl) n.d NS.out.d HA1.out ?_)
              | ((with_reducible show wpList _ _ _ (⟨some 76, _, _, _, _, _⟩ :: _) _ _); refine wpList_buildw (op := ⟨some 76, _, _, _, _, _⟩) 35 _ rfl (by rfl) _ (by kernel_rfl) (tuL ⟨n.s, n.d, (n.proto : Int), 0, 0⟩).toArray (built_tu3 _ _ _ NS.out.s NS.out.d) ?_)
              | ((with_reducible show wpList _ _ _ (⟨none, .store 35 (.tmp 9) _, _, _, _, _⟩ :: _) _ _); refine wpList_storeR_10 (op := ⟨none, .store 35 (.tmp 9) _, _, _, _, _⟩) rfl 35 _ _ rfl w2.heap.size (by rfl) (tuL ⟨n.s, n.d, (n.proto : Int), 0, 0⟩) (by rfl) _ HT5.out (by rw [tuL_len (t := ⟨n.s, n.d, (n.proto : Int), 0, 0⟩) ⟨NS.out.s, NS.out.d⟩, tuL_len Tu.ok_zero]) (sizeTuL ⟨NS.out.s, NS.out.d⟩) (tuL_one _) ?_; generalize hX : w5.setRow w2.heap.size (tuL ⟨n.s, n.d, (n.proto : Int), 0, 0⟩).toArray = w6; have HT6 : Hid (Blk w6 35 w2.heap.size (tuL ⟨n.s, n.d, (n.proto : Int), 0, 0⟩)) := Lib.hid (by rw [← hX]; exact Blk_10.setRow_ HT5.out _); have HP6 : Hid (Blk w6 37 w.heap.size (pkL (kindK 0))) := Lib.hid (by rw [← hX]; exact Blk_10.setRow_far HP5.out (by have := HB2.out.size; have := HG2.out; omega) _); have HK6 : Hid (Blk w6 46 w1.heap.size (lkL L (.slice At mt ct))) := Lib.hid (by rw [← hX]; exact Blk_10.setRow_far HK5.out (by have := HG3.out; omega) _); have HB6 : Hid (Below w.heap.size w w6) := Lib.hid (by rw [← hX]; exact below_setRow HB5.out (Nat.le_trans HB2.out.size (Nat.le_refl _)) _); clear hX; have q34 := (tu_num HT6.out ⟨NS.out.s, NS.out.d⟩).1)
              | ((with_reducible show wpList _ _ _ (⟨some 79, _, _, _, _, _⟩ :: _) _ _); refine wpList_buildw (op := ⟨some 79, _, _, _, _, _⟩) 37 _ rfl (by rfl) _ (by kernel_rfl) (pkL (kindK 4)).toArray (built_pk1 4) ?_)
              | ((with_reducible show wpList _ _ _ (⟨none, .store 37 (.tmp 2) _, _, _, _, _⟩ :: _) _ _); refine wpList_storeR_10 (op := ⟨none, .store 37 (.tmp 2) _, _, _, _, _⟩) rfl 37 _ _ rfl w.heap.size (by rfl) (pkL (kindK 4)) (by rfl) _ HP6.out (kind_len _ _) (sizePkL Tu.ok_zero) (pkL_one _) ?_))
            refine bodyPost_ret (v := pkC (kindK 4)) (results_pk rfl _ _ w.heap.size (by rfl) _ Tu.ok_zero (Blk_10.setRow_ HP6.out _)) rfl ?_
            exact ⟨rfl, below_setRow HB6.out (Nat.le_refl _) _⟩
          | false =>
            by_cases hp5 : n.proto ≠ 6 ∧ n.proto ≠ 17
            · have p6 : ((n.proto : Int) != 6) = true := by simp; omega
              have p17 : ((n.proto : Int) != 17) = true := by simp; omega
              have e := HKE.out.trans (behind_5 hne hfg hp5)
              subst e
              go_wp2_with (first
                | ((with_reducible show wpList _ _ _ (⟨none, .store 68 (.tmp 12) (.tmp 59), _, _, _, _⟩ :: _) _ _); refine wpList_storeNewG (op := ⟨none, .store 68 (.tmp 12) (.tmp 59), _, _, _, _⟩) rfl 68 _ _ rfl (by rfl) (frL_9 f) (by rfl) (by rw [frL_len_9 HFO.out]; rfl) (sizeFrL_9 HFO.out) (frL_one_9 _) ?_; intro w5 hf5 hb5 hz5; clear hz5; have HB5 := Lib.hid (HB4.out.trans (hb5.mono HB4.out.size)); have HP5 := Lib.hid (HP4.out.below HP4.out.lt hb5); have HK5 := Lib.hid (HK4.out.below HK4.out.lt hb5); have HT5 := Lib.hid (HT4.out.below HT4.out.lt hb5); have c0 := Blk_9.cell hf5 (i := 0) (v := .int .i64 (n.head : Int)) (by rw [← HNF.out.1]; rfl); have c1 := Blk_9.cell hf5 (i := 1) (v := .int .i64 (n.total : Int)) (by rw [← HNF.out.2.1]; rfl); have c4 := Blk_9.cell hf5 (i := 3) (v := .bool false) (by rw [← HFG.out, ← HNF.out.2.2.1]; rfl); have c7 := Blk_9.cell hf5 (i := 5) (v := .int .i64 (n.proto : Int)) (by rw [← HNF.out.2.2.2.1]; rfl); have HA0 : Hid (w5.rangeAt w4.heap.size 6 (adL n.s)) := Lib.hid (by rw [← HNF.out.2.2.2.2.1]; exact Blk_9.src hf5); have HA1 : Hid (w5.rangeAt w4.heap.size 23 (adL n.d)) := Lib.hid (by rw [← HNF.out.2.2.2.2.2]; exact Blk_9.dst hf5 HFO.out); clear hf5 hb5)
                | ((with_reducible show wpList _ _ _ (⟨some 71, _, _, _, _, _⟩ :: _) _ _); refine wpList_loadAd (op := ⟨some 71, _, _, _, _, _⟩) _ rfl (by rfl) w4.heap.size 6 (by rfl) n.s NS.out.s HA0.out ?_)
                | ((with_reducible show wpList _ _ _ (⟨some 73, _, _, _, _, _⟩ :: _) _ _); refine wpList_loadAd (op := ⟨some 73, _, _, _, _, _⟩) _ rfl (by rfl) w4.heap.size 23 (by rfl) n.d NS.out.d HA1.out ?_)
                | ((with_reducible show wpList _ _ _ (⟨some 76, _, _, _, _, _⟩ :: _) _ _); refine wpList_buildw (op := ⟨some 76, _, _, _, _, _⟩) 35 _ rfl (by rfl) _ (by kernel_rfl) (tuL ⟨n.s, n.d, (n.proto : Int), 0, 0⟩).toArray (built_tu3 _ _ _ NS.out.s NS.out.d) ?_)
                | ((with_reducible show wpList _ _ _ (⟨none, .store 35 (.tmp 9) _, _, _, _, _⟩ :: _) _ _); refine wpList_storeR_10 (op := ⟨none, .store 35 (.tmp 9) _, _, _, _, _⟩) rfl 35 _ _ rfl w2.heap.size (by rfl) (tuL ⟨n.s, n.d, (n.proto : Int), 0, 0⟩) (by rfl) _ HT5.out (by rw [tuL_len (t := ⟨n.s, n.d, (n.proto : Int), 0, 0⟩) ⟨NS.out.s, NS.out.d⟩, tuL_len Tu.ok_zero]) (sizeTuL ⟨NS.out.s, NS.out.d⟩) (tuL_one _) ?_; generalize hX : w5.setRow w2.heap.size (tuL ⟨n.s, n.d, (n.proto : Int), 0, 0⟩).toArray = w6; have HT6 : Hid (Blk w6 35 w2.heap.size (tuL ⟨n.s, n.d, (n.proto : Int), 0, 0⟩)) := Lib.hid (by rw [← hX]; exact Blk_10.setRow_ HT5.out _); have HP6 : Hid (Blk w6 37 w.heap.size (pkL (kindK 0))) := Lib.hid (by rw [← hX]; exact Blk_10.setRow_far HP5.out (by have := HB2.out.size; have := HG2.out; omega) _); have HK6 : Hid (Blk w6 46 w1.heap.size (lkL L (.slice At mt ct))) := Lib.hid (by rw [← hX]; exact Blk_10.setRow_far HK5.out (by have := HG3.out; omega) _); have HB6 : Hid (Below w.heap.size w w6) := Lib.hid (by rw [← hX]; exact below_setRow HB5.out (Nat.le_trans HB2.out.size (Nat.le_refl _)) _); clear hX; have q34 := (tu_num HT6.out ⟨NS.out.s, NS.out.d⟩).1)
                | ((with_reducible show wpList _ _ _ (⟨some 88, _, _, _, _, _⟩ :: _) _ _); refine wpList_buildw (op := ⟨some 88, _, _, _, _, _⟩) 37 _ rfl (by rfl) _ (by kernel_rfl) (pkL (kindK 5)).toArray (built_pk1 5) ?_)
                | ((with_reducible show wpList _ _ _ (⟨none, .store 37 (.tmp 2) _, _, _, _, _⟩ :: _) _ _); refine wpList_storeR_10 (op := ⟨none, .store 37 (.tmp 2) _, _, _, _, _⟩) rfl 37 _ _ rfl w.heap.size (by rfl) (pkL (kindK 5)) (by rfl) _ HP6.out (kind_len _ _) (sizePkL Tu.ok_zero) (pkL_one _) ?_))
              refine bodyPost_ret (v := pkC (kindK 5)) (results_pk rfl _ _ w.heap.size (by rfl) _ Tu.ok_zero (Blk_10.setRow_ HP6.out _)) rfl ?_
              exact ⟨rfl, below_setRow HB6.out (Nat.le_refl _) _⟩
            · obtain ⟨pr, hpr⟩ : ∃ q, n.proto = q := ⟨_, rfl⟩
              have HPR := Lib.hid hpr
              have pne : (((n.proto : Int) != 6) && ((n.proto : Int) != 17)) = false := by simp; omega
              clear hpr
              by_cases hq6 : n.proto = 6
              · have p6 : ((n.proto : Int) != 6) = false := by simp; omega
                clear hq6 pne HPR
                go_wp2_with (first
                  | ((with_reducible show wpList _ _ _ (⟨none, .store 68 (.tmp 12) (.tmp 59), _, _, _, _⟩ :: _) _ _); refine wpList_storeNewG (op := ⟨none, .store 68 (.tmp 12) (.tmp 59), _, _, _, _⟩) rfl 68 _ _ rfl (by rfl) (frL_9 f) (by rfl) (by rw [frL_len_9 HFO.out]; rfl) (sizeFrL_9 HFO.out) (frL_one_9 _) ?_; intro w5 hf5 hb5 hz5; clear hz5; have HB5 := Lib.hid (HB4.out.trans (hb5.mono HB4.out.size)); have HP5 := Lib.hid (HP4.out.below HP4.out.lt hb5); have HK5 := Lib.hid (HK4.out.below HK4.out.lt hb5); have HT5 := Lib.hid (HT4.out.below HT4.out.lt hb5); have c0 := Blk_9.cell hf5 (i := 0) (v := .int .i64 (n.head : Int)) (by rw [← HNF.out.1]; rfl); have c1 := Blk_9.cell hf5 (i := 1) (v := .int .i64 (n.total : Int)) (by rw [← HNF.out.2.1]; rfl); have c4 := Blk_9.cell hf5 (i := 3) (v := .bool false) (by rw [← HFG.out, ← HNF.out.2.2.1]; rfl); have c7 := Blk_9.cell hf5 (i := 5) (v := .int .i64 (n.proto : Int)) (by rw [← HNF.out.2.2.2.1]; rfl); have HA0 : Hid (w5.rangeAt w4.heap.size 6 (adL n.s)) := Lib.hid (by rw [← HNF.out.2.2.2.2.1]; exact Blk_9.src hf5); have HA1 : Hid (w5.rangeAt w4.heap.size 23 (adL n.d)) := Lib.hid (by rw [← HNF.out.2.2.2.2.2]; exact Blk_9.dst hf5 HFO.out); clear hf5 hb5)
                  | ((with_reducible show wpList _ _ _ (⟨some 71, _, _, _, _, _⟩ :: _) _ _); refine wpList_loadAd (op := ⟨some 71, _, _, _, _, _⟩) _ rfl (by rfl) w4.heap.size 6 (by rfl) n.s NS.out.s HA0.out ?_)
                  | ((with_reducible show wpList _ _ _ (⟨some 73, _, _, _, _, _⟩ :: _) _ _); refine wpList_loadAd (op := ⟨some 73, _, _, _, _, _⟩) _ rfl (by rfl) w4.heap.size 23 (by rfl) n.d NS.out.d HA1.out ?_)
                  | ((with_reducible show wpList _ _ _ (⟨some 76, _, _, _, _, _⟩ :: _) _ _); refine wpList_buildw (op := ⟨some 76, _, _, _, _, _⟩) 35 _ rfl (by rfl) _ (by kernel_rfl) (tuL ⟨n.s, n.d, (n.proto : Int), 0, 0⟩).toArray (built_tu3 _ _ _ NS.out.s NS.out.d) ?_)
                  | ((with_reducible show wpList _ _ _ (⟨none, .store 35 (.tmp 9) _, _, _, _, _⟩ :: _) _ _); refine wpList_storeR_10 (op := ⟨none, .store 35 (.tmp 9) _, _, _, _, _⟩) rfl 35 _ _ rfl w2.heap.size (by rfl) (tuL ⟨n.s, n.d, (n.proto : Int), 0, 0⟩) (by rfl) _ HT5.out (by rw [tuL_len (t := ⟨n.s, n.d, (n.proto : Int), 0, 0⟩) ⟨NS.out.s, NS.out.d⟩, tuL_len Tu.ok_zero]) (sizeTuL ⟨NS.out.s, NS.out.d⟩) (tuL_one _) ?_; generalize hX : w5.setRow w2.heap.size (tuL ⟨n.s, n.d, (n.proto : Int), 0, 0⟩).toArray = w6; have HT6 : Hid (Blk w6 35 w2.heap.size (tuL ⟨n.s, n.d, (n.proto : Int), 0, 0⟩)) := Lib.hid (by rw [← hX]; exact Blk_10.setRow_ HT5.out _); have HP6 : Hid (Blk w6 37 w.heap.size (pkL (kindK 0))) := Lib.hid (by rw [← hX]; exact Blk_10.setRow_far HP5.out (by have := HB2.out.size; have := HG2.out; omega) _); have HK6 : Hid (Blk w6 46 w1.heap.size (lkL L (.slice At mt ct))) := Lib.hid (by rw [← hX]; exact Blk_10.setRow_far HK5.out (by have := HG3.out; omega) _); have HB6 : Hid (Below w.heap.size w w6) := Lib.hid (by rw [← hX]; exact below_setRow HB5.out (Nat.le_trans HB2.out.size (Nat.le_refl _)) _); clear hX; have q34 := (tu_num HT6.out ⟨NS.out.s, NS.out.d⟩).1))
                have HT34 := Lib.hid (fun W (hW : Below w6.heap.size w6 W) => (tu_num (HT6.out.below HT6.out.lt hW) ⟨NS.out.s, NS.out.d⟩).1)
                have h1 := NS.out.h1
                have h2 := NS.out.h2
                obtain ⟨sl, hsl⟩ : ∃ k, n.total - n.head = k := ⟨_, rfl⟩
                have HSEG := Lib.hid (fun W (hW : Below w6.heap.size w6 W) => ((HRR.out.below (HB6.out.trans (hW.mono HB6.out.size))).cut (l := n.head) (n := sl) (by omega) rc hrcl).more (Nat.le_trans HB6.out.size hW.size))
                have hseg : (rest.drop n.head).take sl = segN rest n := by unfold segN; rw [hsl]
                rw [hseg] at HSEG
                have HC8 := Lib.hid (fun W => run_cut8 RA rl rc n.head sl (n.head : Int) (n.total : Int) rfl (by omega) (by omega) W)
                have R10 := Lib.hid (fun W (hW : Below w6.heap.size w6 W) => rread_any_10 (A := cutA RA rc n.head) (cap := rc - n.head) (xs := segN rest n) (n.proto : Int) W (HSEG.out W hW))
                obtain ⟨q, hq⟩ : ∃ q, rdP (n.proto : Nat) (segN rest n) = q := ⟨_, rfl⟩
                obtain ⟨F3, hF3⟩ : ∃ F, faultP (n.proto : Nat) (segN rest n) = F := ⟨_, rfl⟩
                have KB6 := Lib.hid (fun (h : F3 ≠ 0) => HKE.out.trans (behind_6 hne hfg hp5 (by rw [hF3]; exact h)))
                have KB0 := Lib.hid (fun (h : F3 = 0) => hq ▸ HKE.out.trans (behind_0 hne hfg hp5 (by rw [hF3]; exact h)))
                rw [hq, hF3] at R10
                have HSL := Lib.hid hsl
                clear hq hF3 hsl hseg c14 hp5 hne hfg
                apply cut_world (H := fun W G => w6.heap.size ≤ G ∧ Blk W 72 G (poL q) ∧ Below w6.heap.size w6 W)
                case h1 =>
                  intro hc
                  refine wp_region_held_drew (S := fun W => Below w6.heap.size w6 W) (by kernel_rfl) ((Below.refl _ _).drew) (fun hHeld => ?_)
                  obtain ⟨Y, hY⟩ : ∃ Y, w6.drew = Y := ⟨_, rfl⟩
                  rw [hY] at hHeld ⊢
                  clear hY
                  refine tk 0 90 (.pointer (some ⟨w2.heap.size, 34, none⟩)) rfl hHeld ?_
                  simp only [Act.put, sA, sZ, sS]
                  refine tkY 1 91 (.int .i64 (n.proto : Int)) rfl (Or.inl ⟨by rfl, fun W hW => by have hc := HT34.out W hW; go_simp⟩) hHeld ?_
                  simp only [Act.put, sA, sZ, sS]
                  refine tk 2 92 (.slice RA rl rc) rfl hHeld ?_
                  simp only [Act.put, sA, sZ, sS]
                  refine tk 3 93 (.int .i64 (n.head : Int)) rfl hHeld ?_
                  simp only [Act.put, sA, sZ, sS]
                  refine tk 4 94 (.int .i64 (n.total : Int)) rfl hHeld ?_
                  simp only [Act.put, sA, sZ, sS]
                  refine tkY 5 95 (.slice (cutA RA rc n.head) sl (rc - n.head)) rfl (Or.inl ⟨by rfl, fun W _ => by have hs := HC8.out W; go_simp⟩) hHeld ?_
                  simp only [Act.put, sA, sZ, sS]
                  refine wpAnyH_ready (rs := [6, 10]) (by kernel_rfl) (by simp) (AllReadyH.cons (o := ⟨some 96, _, _, _, _, _⟩) rfl (fun K hK => ?_) (AllReadyH.cons (o := ⟨some 14, _, _, _, _, _⟩) rfl (fun K hK => ?_) AllReadyH.nil))
                  · go_simp
                    refine (R10.out _ hHeld).mono ?_
                    rintro e w7 ⟨rfl, hb7⟩
                    refine hK.out _ _ (hHeld.trans (hb7.mono hHeld.size)) (fun hHeld => ?_)
                    clear hK K hb7
                    refine tk 7 89 (.tuple #[poC q, .int .i64 (F3 : Int)]) rfl hHeld ?_
                    simp only [Act.put, sA, sZ, sS]
                    refine tk 8 97 (poC q) rfl hHeld ?_
                    simp only [Act.put, sA, sZ, sS]
                    refine tk 9 98 (.int .i64 (F3 : Int)) rfl hHeld ?_
                    simp only [Act.put, sA, sZ, sS]
                    refine wpAnyH_ready (rs := [10]) (by kernel_rfl) (by simp) (AllReadyH.cons (o := ⟨some 14, _, _, _, _, _⟩) rfl (fun K hK => ?_) AllReadyH.nil)
                    go_simp
                    rw [zeroP_10]
                    have hg8 := Blk_10.new w7 72 (poL Po.zero)
                    have HG8 := Lib.hid hg8
                    have HGE := Lib.hid hHeld.size
                    have hh8 := hHeld.alloc hHeld.size (.cells (poL Po.zero).toArray 72)
                    have HH8 := Lib.hid hh8
                    clear hg8 hh8
                    generalize w7.heap.size = G at HG8 HGE ⊢
                    generalize w7.alloc (.cells (poL Po.zero).toArray 72) = w8 at HG8 HH8 ⊢
                    refine hK.out _ _ (HH8.out) (fun hHeld => ?_)
                    clear hK K 
                    refine wpAnyH_ready (rs := [11]) (by kernel_rfl) (by simp) (AllReadyH.cons (o := ⟨none, _, _, _, _, _⟩) rfl (fun K hK => ?_) AllReadyH.nil)
                    refine step_storeR_10 rfl 72 _ _ rfl G (by rfl) (poL q) (by rfl) _ HG8.out rfl (sizePoL _) (poL_one _) ?_
                    have hr9 := Blk_10.setRow_ HG8.out (poL q)
                    have hh9 := below_setRow hHeld (HGE.out) (poL q).toArray
                    have HR9 := Lib.hid hr9
                    have HH9 := Lib.hid hh9
                    clear hr9 hh9
                    generalize World.setRow _ G (poL q).toArray = wz at HR9 HH9 ⊢
                    refine hK.out _ _ (HH9.out) (fun hHeld => ?_)
                    clear hK K 
                    refine tk 12 15 (.int .i64 (F3 : Int)) rfl hHeld ?_
                    simp only [Act.put, sA, sZ, sS]
                    refine wpAnyH_done (by kernel_rfl) ?_ _
                    exact hc wz G ⟨HGE.out, HR9.out, HH9.out⟩
                  · go_simp
                    rw [zeroP_10]
                    have hg7 := Blk_10.new Y 72 (poL Po.zero)
                    have HG7 := Lib.hid hg7
                    have HGE := Lib.hid hHeld.size
                    have hh7 := hHeld.alloc hHeld.size (.cells (poL Po.zero).toArray 72)
                    have HH7 := Lib.hid hh7
                    clear hg7 hh7
                    generalize Y.heap.size = G at HG7 HGE ⊢
                    generalize Y.alloc (.cells (poL Po.zero).toArray 72) = w7 at HG7 HH7 ⊢
                    refine hK.out _ _ (HH7.out) (fun hHeld => ?_)
                    clear hK K 
                    refine wpAnyH_ready (rs := [6]) (by kernel_rfl) (by simp) (AllReadyH.cons (o := ⟨some 96, _, _, _, _, _⟩) rfl (fun K hK => ?_) AllReadyH.nil)
                    go_simp
                    refine (R10.out _ hHeld).mono ?_
                    rintro e w8 ⟨rfl, hb8⟩
                    have HG8 := Lib.hid (HG7.out.below HG7.out.lt hb8)
                    refine hK.out _ _ (hHeld.trans (hb8.mono hHeld.size)) (fun hHeld => ?_)
                    clear hK K hb8
                    refine tk 7 89 (.tuple #[poC q, .int .i64 (F3 : Int)]) rfl hHeld ?_
                    simp only [Act.put, sA, sZ, sS]
                    refine tk 8 97 (poC q) rfl hHeld ?_
                    simp only [Act.put, sA, sZ, sS]
                    refine tk 9 98 (.int .i64 (F3 : Int)) rfl hHeld ?_
                    simp only [Act.put, sA, sZ, sS]
                    refine wpAnyH_ready (rs := [11]) (by kernel_rfl) (by simp) (AllReadyH.cons (o := ⟨none, _, _, _, _, _⟩) rfl (fun K hK => ?_) AllReadyH.nil)
                    refine step_storeR_10 rfl 72 _ _ rfl G (by rfl) (poL q) (by rfl) _ HG8.out rfl (sizePoL _) (poL_one _) ?_
                    have hr9 := Blk_10.setRow_ HG8.out (poL q)
                    have hh9 := below_setRow hHeld (HGE.out) (poL q).toArray
                    have HR9 := Lib.hid hr9
                    have HH9 := Lib.hid hh9
                    clear hr9 hh9
                    generalize World.setRow _ G (poL q).toArray = wz at HR9 HH9 ⊢
                    refine hK.out _ _ (HH9.out) (fun hHeld => ?_)
                    clear hK K 
                    refine tk 12 15 (.int .i64 (F3 : Int)) rfl hHeld ?_
                    simp only [Act.put, sA, sZ, sS]
                    refine wpAnyH_done (by kernel_rfl) ?_ _
                    exact hc wz G ⟨HGE.out, HR9.out, HH9.out⟩
                case h2 =>
                  intro wz G hcc
                  obtain ⟨hge, hq, hbz⟩ := hcc
                  have HQ := Lib.hid hq
                  have HPz := Lib.hid (HP6.out.below HP6.out.lt hbz)
                  have HTz := Lib.hid (HT6.out.below HT6.out.lt hbz)
                  have HKz := Lib.hid (HK6.out.below HK6.out.lt hbz)
                  have HBz := Lib.hid (HB6.out.trans (hbz.mono HB6.out.size))
                  have HTL := Lib.hid HT6.out.lt
                  have HKL := Lib.hid HK6.out.lt
                  have HPL := Lib.hid HP6.out.lt
                  have HGE := Lib.hid hge
                  have o0 := Blk_10.cell HQ.out (i := 0) (v := .int .i64 (q.s : Int)) rfl
                  have o1 := Blk_10.cell HQ.out (i := 1) (v := .int .i64 (q.d : Int)) rfl
                  have o2 := Blk_10.cell HQ.out (i := 2) (v := .int .i64 (q.f : Int)) rfl
                  clear hge hq hbz
                  by_cases hF : F3 = 0
                  · subst hF
                    have e := KB0.out rfl
                    simp only [Int.natCast_add] at e
                    subst e
                    have hwh : IntKind.i64.wrap ((p : Int) + (n.head : Int)) = (p : Int) + (n.head : Int) := by rw [IntKind.wrap_i64]; omega
                    have hwt : IntKind.i64.wrap ((p : Int) + (n.total : Int)) = (p : Int) + (n.total : Int) := by rw [IntKind.wrap_i64]; omega
                    go_wp2_with (first
                      | ((with_reducible show wpList _ _ _ (⟨none, .store 3 (.tmp 104) _, _, _, _, _⟩ :: _) _ _); refine wpList_storeI_10 (op := ⟨none, .store 3 (.tmp 104) _, _, _, _, _⟩) rfl (.tmp 104) _ rfl w2.heap.size 35 (by rfl) (q.s : Int) (by rfl) 35 _ HTz.out 0 (tuL_num ⟨NS.out.s, NS.out.d⟩ 1) ?_; intro wa hta hna hba; rw [tu_set35 NS.out.s NS.out.d] at hta; have HTa := Lib.hid hta; have HPa := Lib.hid (show Blk wa 37 w.heap.size (pkL (kindK 0)) from (hna _ (Nat.ne_of_lt (Nat.lt_of_lt_of_le HG2.out (Nat.le_refl _)))).trans HPz.out); have HKa := Lib.hid (show Blk wa 46 w1.heap.size (lkL L (.slice At mt ct)) from (hna _ (Nat.ne_of_lt HG3.out)).trans HKz.out); have HBa := Lib.hid (HBz.out.trans (hba.mono (Nat.le_of_lt HG2.out))); have oa1 := (show Blk wa 72 G (poL q) from (hna _ (by have := HTL.out; have := HGE.out; omega)).trans HQ.out); have p1 := Blk_10.cell oa1 (i := 1) (v := .int .i64 (q.d : Int)) rfl; have HQa := Lib.hid oa1; clear hta hna hba oa1)
                      | ((with_reducible show wpList _ _ _ (⟨none, .store 3 (.tmp 107) _, _, _, _, _⟩ :: _) _ _); refine wpList_storeI_10 (op := ⟨none, .store 3 (.tmp 107) _, _, _, _, _⟩) rfl (.tmp 107) _ rfl w2.heap.size 36 (by rfl) (q.d : Int) (by rfl) 35 _ HTa.out 0 (tuL_num ⟨NS.out.s, NS.out.d⟩ 2) ?_; intro wb htb hnb hbb; rw [tu_set36 NS.out.s NS.out.d] at htb; have HTb := Lib.hid htb; have HPb := Lib.hid (show Blk wb 37 w.heap.size (pkL (kindK 0)) from (hnb _ (Nat.ne_of_lt (Nat.lt_of_lt_of_le HG2.out (Nat.le_refl _)))).trans HPa.out); have kb := (show Blk wb 46 w1.heap.size (lkL L (.slice At mt ct)) from (hnb _ (Nat.ne_of_lt HG3.out)).trans HKa.out); have k14 := Blk_10.cell kb Hat.out; have HBb := Lib.hid (HBa.out.trans (hbb.mono (Nat.le_of_lt HG2.out))); have ob := (show Blk wb 72 G (poL q) from (hnb _ (by have := HTL.out; have := HGE.out; omega)).trans HQa.out); have r2 := Blk_10.cell ob (i := 2) (v := .int .i64 (q.f : Int)) rfl; clear htb hnb hbb ob kb)
                      | ((with_reducible show wpList _ _ _ (⟨some 108, _, _, _, _, _⟩ :: _) _ _); refine wpList_loadTu (op := ⟨some 108, _, _, _, _, _⟩) _ rfl (by rfl) w2.heap.size 0 (by rfl) ⟨n.s, n.d, (n.proto : Int), (q.s : Int), (q.d : Int)⟩ ⟨NS.out.s, NS.out.d⟩ (Blk_10.range HTb.out) ?_)
                      | ((with_reducible show wpList _ _ _ (⟨some 121, _, _, _, _, _⟩ :: _) _ _); refine wpList_buildw (op := ⟨some 121, _, _, _, _, _⟩) 37 _ rfl (by rfl) _ (by kernel_rfl) (pkL ⟨0, ⟨n.s, n.d, (n.proto : Int), (q.s : Int), (q.d : Int)⟩, (q.f : Int), (p : Int), (p : Int) + (n.head : Int), (p : Int) + (n.total : Int)⟩).toArray (built_pk _ _ _ _ _ ⟨NS.out.s, NS.out.d⟩) ?_)
                      | ((with_reducible show wpList _ _ _ (⟨none, .store 37 (.tmp 2) _, _, _, _, _⟩ :: _) _ _); refine wpList_storeR_10 (op := ⟨none, .store 37 (.tmp 2) _, _, _, _, _⟩) rfl 37 _ _ rfl w.heap.size (by rfl) (pkL ⟨0, ⟨n.s, n.d, (n.proto : Int), (q.s : Int), (q.d : Int)⟩, (q.f : Int), (p : Int), (p : Int) + (n.head : Int), (p : Int) + (n.total : Int)⟩) (by rfl) _ HPb.out (by rw [pkL_len (p := ⟨0, ⟨n.s, n.d, (n.proto : Int), (q.s : Int), (q.d : Int)⟩, (q.f : Int), (p : Int), (p : Int) + (n.head : Int), (p : Int) + (n.total : Int)⟩) ⟨NS.out.s, NS.out.d⟩, pkL_len (p := kindK 0) Tu.ok_zero]) (sizePkL ⟨NS.out.s, NS.out.d⟩) (pkL_one _) ?_))
                    refine bodyPost_ret (v := pkC ⟨0, ⟨n.s, n.d, (n.proto : Int), (q.s : Int), (q.d : Int)⟩, (q.f : Int), (p : Int), (p : Int) + (n.head : Int), (p : Int) + (n.total : Int)⟩) (results_pk rfl _ _ w.heap.size (by rfl) _ ⟨NS.out.s, NS.out.d⟩ (Blk_10.setRow_ HPb.out _)) rfl ?_
                    exact ⟨rfl, below_setRow HBb.out (Nat.le_refl _) _⟩
                  · have e := KB6.out hF
                    subst e
                    have bE : ((F3 : Int) != 0) = true := by simp; omega
                    have bE2 : (F3 != 0) = true := by simp [hF]
                    go_wp2_with (first
                      | ((with_reducible show wpList _ _ _ (⟨some 101, _, _, _, _, _⟩ :: _) _ _); refine wpList_buildw (op := ⟨some 101, _, _, _, _, _⟩) 37 _ rfl (by rfl) _ (by kernel_rfl) (pkL (kindK 6)).toArray (built_pk1 6) ?_)
                      | ((with_reducible show wpList _ _ _ (⟨none, .store 37 (.tmp 2) _, _, _, _, _⟩ :: _) _ _); refine wpList_storeR_10 (op := ⟨none, .store 37 (.tmp 2) _, _, _, _, _⟩) rfl 37 _ _ rfl w.heap.size (by rfl) (pkL (kindK 6)) (by rfl) _ HPz.out (kind_len _ _) (sizePkL Tu.ok_zero) (pkL_one _) ?_))
                    refine bodyPost_ret (v := pkC (kindK 6)) (results_pk rfl _ _ w.heap.size (by rfl) _ Tu.ok_zero (Blk_10.setRow_ HPz.out _)) rfl ?_
                    exact ⟨rfl, below_setRow HBz.out (Nat.le_refl _) _⟩
              · have p6 : ((n.proto : Int) != 6) = true := by simp; omega
                have p17 : ((n.proto : Int) != 17) = false := by simp; omega
                clear hq6 pne HPR
                go_wp2_with (first
                  | ((with_reducible show wpList _ _ _ (⟨none, .store 68 (.tmp 12) (.tmp 59), _, _, _, _⟩ :: _) _ _); refine wpList_storeNewG (op := ⟨none, .store 68 (.tmp 12) (.tmp 59), _, _, _, _⟩) rfl 68 _ _ rfl (by rfl) (frL_9 f) (by rfl) (by rw [frL_len_9 HFO.out]; rfl) (sizeFrL_9 HFO.out) (frL_one_9 _) ?_; intro w5 hf5 hb5 hz5; clear hz5; have HB5 := Lib.hid (HB4.out.trans (hb5.mono HB4.out.size)); have HP5 := Lib.hid (HP4.out.below HP4.out.lt hb5); have HK5 := Lib.hid (HK4.out.below HK4.out.lt hb5); have HT5 := Lib.hid (HT4.out.below HT4.out.lt hb5); have c0 := Blk_9.cell hf5 (i := 0) (v := .int .i64 (n.head : Int)) (by rw [← HNF.out.1]; rfl); have c1 := Blk_9.cell hf5 (i := 1) (v := .int .i64 (n.total : Int)) (by rw [← HNF.out.2.1]; rfl); have c4 := Blk_9.cell hf5 (i := 3) (v := .bool false) (by rw [← HFG.out, ← HNF.out.2.2.1]; rfl); have c7 := Blk_9.cell hf5 (i := 5) (v := .int .i64 (n.proto : Int)) (by rw [← HNF.out.2.2.2.1]; rfl); have HA0 : Hid (w5.rangeAt w4.heap.size 6 (adL n.s)) := Lib.hid (by rw [← HNF.out.2.2.2.2.1]; exact Blk_9.src hf5); have HA1 : Hid (w5.rangeAt w4.heap.size 23 (adL n.d)) := Lib.hid (by rw [← HNF.out.2.2.2.2.2]; exact Blk_9.dst hf5 HFO.out); clear hf5 hb5)
                  | ((with_reducible show wpList _ _ _ (⟨some 71, _, _, _, _, _⟩ :: _) _ _); refine wpList_loadAd (op := ⟨some 71, _, _, _, _, _⟩) _ rfl (by rfl) w4.heap.size 6 (by rfl) n.s NS.out.s HA0.out ?_)
                  | ((with_reducible show wpList _ _ _ (⟨some 73, _, _, _, _, _⟩ :: _) _ _); refine wpList_loadAd (op := ⟨some 73, _, _, _, _, _⟩) _ rfl (by rfl) w4.heap.size 23 (by rfl) n.d NS.out.d HA1.out ?_)
                  | ((with_reducible show wpList _ _ _ (⟨some 76, _, _, _, _, _⟩ :: _) _ _); refine wpList_buildw (op := ⟨some 76, _, _, _, _, _⟩) 35 _ rfl (by rfl) _ (by kernel_rfl) (tuL ⟨n.s, n.d, (n.proto : Int), 0, 0⟩).toArray (built_tu3 _ _ _ NS.out.s NS.out.d) ?_)
                  | ((with_reducible show wpList _ _ _ (⟨none, .store 35 (.tmp 9) _, _, _, _, _⟩ :: _) _ _); refine wpList_storeR_10 (op := ⟨none, .store 35 (.tmp 9) _, _, _, _, _⟩) rfl 35 _ _ rfl w2.heap.size (by rfl) (tuL ⟨n.s, n.d, (n.proto : Int), 0, 0⟩) (by rfl) _ HT5.out (by rw [tuL_len (t := ⟨n.s, n.d, (n.proto : Int), 0, 0⟩) ⟨NS.out.s, NS.out.d⟩, tuL_len Tu.ok_zero]) (sizeTuL ⟨NS.out.s, NS.out.d⟩) (tuL_one _) ?_; generalize hX : w5.setRow w2.heap.size (tuL ⟨n.s, n.d, (n.proto : Int), 0, 0⟩).toArray = w6; have HT6 : Hid (Blk w6 35 w2.heap.size (tuL ⟨n.s, n.d, (n.proto : Int), 0, 0⟩)) := Lib.hid (by rw [← hX]; exact Blk_10.setRow_ HT5.out _); have HP6 : Hid (Blk w6 37 w.heap.size (pkL (kindK 0))) := Lib.hid (by rw [← hX]; exact Blk_10.setRow_far HP5.out (by have := HB2.out.size; have := HG2.out; omega) _); have HK6 : Hid (Blk w6 46 w1.heap.size (lkL L (.slice At mt ct))) := Lib.hid (by rw [← hX]; exact Blk_10.setRow_far HK5.out (by have := HG3.out; omega) _); have HB6 : Hid (Below w.heap.size w w6) := Lib.hid (by rw [← hX]; exact below_setRow HB5.out (Nat.le_trans HB2.out.size (Nat.le_refl _)) _); clear hX; have q34 := (tu_num HT6.out ⟨NS.out.s, NS.out.d⟩).1))
                have HT34 := Lib.hid (fun W (hW : Below w6.heap.size w6 W) => (tu_num (HT6.out.below HT6.out.lt hW) ⟨NS.out.s, NS.out.d⟩).1)
                have h1 := NS.out.h1
                have h2 := NS.out.h2
                obtain ⟨sl, hsl⟩ : ∃ k, n.total - n.head = k := ⟨_, rfl⟩
                have HSEG := Lib.hid (fun W (hW : Below w6.heap.size w6 W) => ((HRR.out.below (HB6.out.trans (hW.mono HB6.out.size))).cut (l := n.head) (n := sl) (by omega) rc hrcl).more (Nat.le_trans HB6.out.size hW.size))
                have hseg : (rest.drop n.head).take sl = segN rest n := by unfold segN; rw [hsl]
                rw [hseg] at HSEG
                have HC8 := Lib.hid (fun W => run_cut8 RA rl rc n.head sl (n.head : Int) (n.total : Int) rfl (by omega) (by omega) W)
                have R10 := Lib.hid (fun W (hW : Below w6.heap.size w6 W) => rread_any_10 (A := cutA RA rc n.head) (cap := rc - n.head) (xs := segN rest n) (n.proto : Int) W (HSEG.out W hW))
                obtain ⟨q, hq⟩ : ∃ q, rdP (n.proto : Nat) (segN rest n) = q := ⟨_, rfl⟩
                obtain ⟨F3, hF3⟩ : ∃ F, faultP (n.proto : Nat) (segN rest n) = F := ⟨_, rfl⟩
                have KB6 := Lib.hid (fun (h : F3 ≠ 0) => HKE.out.trans (behind_6 hne hfg hp5 (by rw [hF3]; exact h)))
                have KB0 := Lib.hid (fun (h : F3 = 0) => hq ▸ HKE.out.trans (behind_0 hne hfg hp5 (by rw [hF3]; exact h)))
                rw [hq, hF3] at R10
                have HSL := Lib.hid hsl
                clear hq hF3 hsl hseg c14 hp5 hne hfg
                apply cut_world (H := fun W G => w6.heap.size ≤ G ∧ Blk W 72 G (poL q) ∧ Below w6.heap.size w6 W)
                case h1 =>
                  intro hc
                  refine wp_region_held_drew (S := fun W => Below w6.heap.size w6 W) (by kernel_rfl) ((Below.refl _ _).drew) (fun hHeld => ?_)
                  obtain ⟨Y, hY⟩ : ∃ Y, w6.drew = Y := ⟨_, rfl⟩
                  rw [hY] at hHeld ⊢
                  clear hY
                  refine tk 0 90 (.pointer (some ⟨w2.heap.size, 34, none⟩)) rfl hHeld ?_
                  simp only [Act.put, sA, sZ, sS]
                  refine tkY 1 91 (.int .i64 (n.proto : Int)) rfl (Or.inl ⟨by rfl, fun W hW => by have hc := HT34.out W hW; go_simp⟩) hHeld ?_
                  simp only [Act.put, sA, sZ, sS]
                  refine tk 2 92 (.slice RA rl rc) rfl hHeld ?_
                  simp only [Act.put, sA, sZ, sS]
                  refine tk 3 93 (.int .i64 (n.head : Int)) rfl hHeld ?_
                  simp only [Act.put, sA, sZ, sS]
                  refine tk 4 94 (.int .i64 (n.total : Int)) rfl hHeld ?_
                  simp only [Act.put, sA, sZ, sS]
                  refine tkY 5 95 (.slice (cutA RA rc n.head) sl (rc - n.head)) rfl (Or.inl ⟨by rfl, fun W _ => by have hs := HC8.out W; go_simp⟩) hHeld ?_
                  simp only [Act.put, sA, sZ, sS]
                  refine wpAnyH_ready (rs := [6, 10]) (by kernel_rfl) (by simp) (AllReadyH.cons (o := ⟨some 96, _, _, _, _, _⟩) rfl (fun K hK => ?_) (AllReadyH.cons (o := ⟨some 14, _, _, _, _, _⟩) rfl (fun K hK => ?_) AllReadyH.nil))
                  · go_simp
                    refine (R10.out _ hHeld).mono ?_
                    rintro e w7 ⟨rfl, hb7⟩
                    refine hK.out _ _ (hHeld.trans (hb7.mono hHeld.size)) (fun hHeld => ?_)
                    clear hK K hb7
                    refine tk 7 89 (.tuple #[poC q, .int .i64 (F3 : Int)]) rfl hHeld ?_
                    simp only [Act.put, sA, sZ, sS]
                    refine tk 8 97 (poC q) rfl hHeld ?_
                    simp only [Act.put, sA, sZ, sS]
                    refine tk 9 98 (.int .i64 (F3 : Int)) rfl hHeld ?_
                    simp only [Act.put, sA, sZ, sS]
                    refine wpAnyH_ready (rs := [10]) (by kernel_rfl) (by simp) (AllReadyH.cons (o := ⟨some 14, _, _, _, _, _⟩) rfl (fun K hK => ?_) AllReadyH.nil)
                    go_simp
                    rw [zeroP_10]
                    have hg8 := Blk_10.new w7 72 (poL Po.zero)
                    have HG8 := Lib.hid hg8
                    have HGE := Lib.hid hHeld.size
                    have hh8 := hHeld.alloc hHeld.size (.cells (poL Po.zero).toArray 72)
                    have HH8 := Lib.hid hh8
                    clear hg8 hh8
                    generalize w7.heap.size = G at HG8 HGE ⊢
                    generalize w7.alloc (.cells (poL Po.zero).toArray 72) = w8 at HG8 HH8 ⊢
                    refine hK.out _ _ (HH8.out) (fun hHeld => ?_)
                    clear hK K 
                    refine wpAnyH_ready (rs := [11]) (by kernel_rfl) (by simp) (AllReadyH.cons (o := ⟨none, _, _, _, _, _⟩) rfl (fun K hK => ?_) AllReadyH.nil)
                    refine step_storeR_10 rfl 72 _ _ rfl G (by rfl) (poL q) (by rfl) _ HG8.out rfl (sizePoL _) (poL_one _) ?_
                    have hr9 := Blk_10.setRow_ HG8.out (poL q)
                    have hh9 := below_setRow hHeld (HGE.out) (poL q).toArray
                    have HR9 := Lib.hid hr9
                    have HH9 := Lib.hid hh9
                    clear hr9 hh9
                    generalize World.setRow _ G (poL q).toArray = wz at HR9 HH9 ⊢
                    refine hK.out _ _ (HH9.out) (fun hHeld => ?_)
                    clear hK K 
                    refine tk 12 15 (.int .i64 (F3 : Int)) rfl hHeld ?_
                    simp only [Act.put, sA, sZ, sS]
                    refine wpAnyH_done (by kernel_rfl) ?_ _
                    exact hc wz G ⟨HGE.out, HR9.out, HH9.out⟩
                  · go_simp
                    rw [zeroP_10]
                    have hg7 := Blk_10.new Y 72 (poL Po.zero)
                    have HG7 := Lib.hid hg7
                    have HGE := Lib.hid hHeld.size
                    have hh7 := hHeld.alloc hHeld.size (.cells (poL Po.zero).toArray 72)
                    have HH7 := Lib.hid hh7
                    clear hg7 hh7
                    generalize Y.heap.size = G at HG7 HGE ⊢
                    generalize Y.alloc (.cells (poL Po.zero).toArray 72) = w7 at HG7 HH7 ⊢
                    refine hK.out _ _ (HH7.out) (fun hHeld => ?_)
                    clear hK K 
                    refine wpAnyH_ready (rs := [6]) (by kernel_rfl) (by simp) (AllReadyH.cons (o := ⟨some 96, _, _, _, _, _⟩) rfl (fun K hK => ?_) AllReadyH.nil)
                    go_simp
                    refine (R10.out _ hHeld).mono ?_
                    rintro e w8 ⟨rfl, hb8⟩
                    have HG8 := Lib.hid (HG7.out.below HG7.out.lt hb8)
                    refine hK.out _ _ (hHeld.trans (hb8.mono hHeld.size)) (fun hHeld => ?_)
                    clear hK K hb8
                    refine tk 7 89 (.tuple #[poC q, .int .i64 (F3 : Int)]) rfl hHeld ?_
                    simp only [Act.put, sA, sZ, sS]
                    refine tk 8 97 (poC q) rfl hHeld ?_
                    simp only [Act.put, sA, sZ, sS]
                    refine tk 9 98 (.int .i64 (F3 : Int)) rfl hHeld ?_
                    simp only [Act.put, sA, sZ, sS]
                    refine wpAnyH_ready (rs := [11]) (by kernel_rfl) (by simp) (AllReadyH.cons (o := ⟨none, _, _, _, _, _⟩) rfl (fun K hK => ?_) AllReadyH.nil)
                    refine step_storeR_10 rfl 72 _ _ rfl G (by rfl) (poL q) (by rfl) _ HG8.out rfl (sizePoL _) (poL_one _) ?_
                    have hr9 := Blk_10.setRow_ HG8.out (poL q)
                    have hh9 := below_setRow hHeld (HGE.out) (poL q).toArray
                    have HR9 := Lib.hid hr9
                    have HH9 := Lib.hid hh9
                    clear hr9 hh9
                    generalize World.setRow _ G (poL q).toArray = wz at HR9 HH9 ⊢
                    refine hK.out _ _ (HH9.out) (fun hHeld => ?_)
                    clear hK K 
                    refine tk 12 15 (.int .i64 (F3 : Int)) rfl hHeld ?_
                    simp only [Act.put, sA, sZ, sS]
                    refine wpAnyH_done (by kernel_rfl) ?_ _
                    exact hc wz G ⟨HGE.out, HR9.out, HH9.out⟩
                case h2 =>
                  intro wz G hcc
                  obtain ⟨hge, hq, hbz⟩ := hcc
                  have HQ := Lib.hid hq
                  have HPz := Lib.hid (HP6.out.below HP6.out.lt hbz)
                  have HTz := Lib.hid (HT6.out.below HT6.out.lt hbz)
                  have HKz := Lib.hid (HK6.out.below HK6.out.lt hbz)
                  have HBz := Lib.hid (HB6.out.trans (hbz.mono HB6.out.size))
                  have HTL := Lib.hid HT6.out.lt
                  have HKL := Lib.hid HK6.out.lt
                  have HPL := Lib.hid HP6.out.lt
                  have HGE := Lib.hid hge
                  have o0 := Blk_10.cell HQ.out (i := 0) (v := .int .i64 (q.s : Int)) rfl
                  have o1 := Blk_10.cell HQ.out (i := 1) (v := .int .i64 (q.d : Int)) rfl
                  have o2 := Blk_10.cell HQ.out (i := 2) (v := .int .i64 (q.f : Int)) rfl
                  clear hge hq hbz
                  by_cases hF : F3 = 0
                  · subst hF
                    have e := KB0.out rfl
                    simp only [Int.natCast_add] at e
                    subst e
                    have hwh : IntKind.i64.wrap ((p : Int) + (n.head : Int)) = (p : Int) + (n.head : Int) := by rw [IntKind.wrap_i64]; omega
                    have hwt : IntKind.i64.wrap ((p : Int) + (n.total : Int)) = (p : Int) + (n.total : Int) := by rw [IntKind.wrap_i64]; omega
                    go_wp2_with (first
                      | ((with_reducible show wpList _ _ _ (⟨none, .store 3 (.tmp 104) _, _, _, _, _⟩ :: _) _ _); refine wpList_storeI_10 (op := ⟨none, .store 3 (.tmp 104) _, _, _, _, _⟩) rfl (.tmp 104) _ rfl w2.heap.size 35 (by rfl) (q.s : Int) (by rfl) 35 _ HTz.out 0 (tuL_num ⟨NS.out.s, NS.out.d⟩ 1) ?_; intro wa hta hna hba; rw [tu_set35 NS.out.s NS.out.d] at hta; have HTa := Lib.hid hta; have HPa := Lib.hid (show Blk wa 37 w.heap.size (pkL (kindK 0)) from (hna _ (Nat.ne_of_lt (Nat.lt_of_lt_of_le HG2.out (Nat.le_refl _)))).trans HPz.out); have HKa := Lib.hid (show Blk wa 46 w1.heap.size (lkL L (.slice At mt ct)) from (hna _ (Nat.ne_of_lt HG3.out)).trans HKz.out); have HBa := Lib.hid (HBz.out.trans (hba.mono (Nat.le_of_lt HG2.out))); have oa1 := (show Blk wa 72 G (poL q) from (hna _ (by have := HTL.out; have := HGE.out; omega)).trans HQ.out); have p1 := Blk_10.cell oa1 (i := 1) (v := .int .i64 (q.d : Int)) rfl; have HQa := Lib.hid oa1; clear hta hna hba oa1)
                      | ((with_reducible show wpList _ _ _ (⟨none, .store 3 (.tmp 107) _, _, _, _, _⟩ :: _) _ _); refine wpList_storeI_10 (op := ⟨none, .store 3 (.tmp 107) _, _, _, _, _⟩) rfl (.tmp 107) _ rfl w2.heap.size 36 (by rfl) (q.d : Int) (by rfl) 35 _ HTa.out 0 (tuL_num ⟨NS.out.s, NS.out.d⟩ 2) ?_; intro wb htb hnb hbb; rw [tu_set36 NS.out.s NS.out.d] at htb; have HTb := Lib.hid htb; have HPb := Lib.hid (show Blk wb 37 w.heap.size (pkL (kindK 0)) from (hnb _ (Nat.ne_of_lt (Nat.lt_of_lt_of_le HG2.out (Nat.le_refl _)))).trans HPa.out); have kb := (show Blk wb 46 w1.heap.size (lkL L (.slice At mt ct)) from (hnb _ (Nat.ne_of_lt HG3.out)).trans HKa.out); have k14 := Blk_10.cell kb Hat.out; have HBb := Lib.hid (HBa.out.trans (hbb.mono (Nat.le_of_lt HG2.out))); have ob := (show Blk wb 72 G (poL q) from (hnb _ (by have := HTL.out; have := HGE.out; omega)).trans HQa.out); have r2 := Blk_10.cell ob (i := 2) (v := .int .i64 (q.f : Int)) rfl; clear htb hnb hbb ob kb)
                      | ((with_reducible show wpList _ _ _ (⟨some 108, _, _, _, _, _⟩ :: _) _ _); refine wpList_loadTu (op := ⟨some 108, _, _, _, _, _⟩) _ rfl (by rfl) w2.heap.size 0 (by rfl) ⟨n.s, n.d, (n.proto : Int), (q.s : Int), (q.d : Int)⟩ ⟨NS.out.s, NS.out.d⟩ (Blk_10.range HTb.out) ?_)
                      | ((with_reducible show wpList _ _ _ (⟨some 121, _, _, _, _, _⟩ :: _) _ _); refine wpList_buildw (op := ⟨some 121, _, _, _, _, _⟩) 37 _ rfl (by rfl) _ (by kernel_rfl) (pkL ⟨0, ⟨n.s, n.d, (n.proto : Int), (q.s : Int), (q.d : Int)⟩, (q.f : Int), (p : Int), (p : Int) + (n.head : Int), (p : Int) + (n.total : Int)⟩).toArray (built_pk _ _ _ _ _ ⟨NS.out.s, NS.out.d⟩) ?_)
                      | ((with_reducible show wpList _ _ _ (⟨none, .store 37 (.tmp 2) _, _, _, _, _⟩ :: _) _ _); refine wpList_storeR_10 (op := ⟨none, .store 37 (.tmp 2) _, _, _, _, _⟩) rfl 37 _ _ rfl w.heap.size (by rfl) (pkL ⟨0, ⟨n.s, n.d, (n.proto : Int), (q.s : Int), (q.d : Int)⟩, (q.f : Int), (p : Int), (p : Int) + (n.head : Int), (p : Int) + (n.total : Int)⟩) (by rfl) _ HPb.out (by rw [pkL_len (p := ⟨0, ⟨n.s, n.d, (n.proto : Int), (q.s : Int), (q.d : Int)⟩, (q.f : Int), (p : Int), (p : Int) + (n.head : Int), (p : Int) + (n.total : Int)⟩) ⟨NS.out.s, NS.out.d⟩, pkL_len (p := kindK 0) Tu.ok_zero]) (sizePkL ⟨NS.out.s, NS.out.d⟩) (pkL_one _) ?_))
                    refine bodyPost_ret (v := pkC ⟨0, ⟨n.s, n.d, (n.proto : Int), (q.s : Int), (q.d : Int)⟩, (q.f : Int), (p : Int), (p : Int) + (n.head : Int), (p : Int) + (n.total : Int)⟩) (results_pk rfl _ _ w.heap.size (by rfl) _ ⟨NS.out.s, NS.out.d⟩ (Blk_10.setRow_ HPb.out _)) rfl ?_
                    exact ⟨rfl, below_setRow HBb.out (Nat.le_refl _) _⟩
                  · have e := KB6.out hF
                    subst e
                    have bE : ((F3 : Int) != 0) = true := by simp; omega
                    have bE2 : (F3 != 0) = true := by simp [hF]
                    go_wp2_with (first
                      | ((with_reducible show wpList _ _ _ (⟨some 101, _, _, _, _, _⟩ :: _) _ _); refine wpList_buildw (op := ⟨some 101, _, _, _, _, _⟩) 37 _ rfl (by rfl) _ (by kernel_rfl) (pkL (kindK 6)).toArray (built_pk1 6) ?_)
                      | ((with_reducible show wpList _ _ _ (⟨none, .store 37 (.tmp 2) _, _, _, _, _⟩ :: _) _ _); refine wpList_storeR_10 (op := ⟨none, .store 37 (.tmp 2) _, _, _, _, _⟩) rfl 37 _ _ rfl w.heap.size (by rfl) (pkL (kindK 6)) (by rfl) _ HPz.out (kind_len _ _) (sizePkL Tu.ok_zero) (pkL_one _) ?_))
                    refine bodyPost_ret (v := pkC (kindK 6)) (results_pk rfl _ _ w.heap.size (by rfl) _ Tu.ok_zero (Blk_10.setRow_ HPz.out _)) rfl ?_
                    exact ⟨rfl, below_setRow HBz.out (Nat.le_refl _) _⟩
        · have e := HKE.out.trans (behind_3 (by rw [NE.out]; exact h0))
          subst e
          have bE : ((E2 : Int) != 0) = true := by simp; omega
          have bE2 : (E2 != 0) = true := by simp [h0]
          go_wp2_with (first
            | ((with_reducible show wpList _ _ _ (⟨none, .store 68 (.tmp 12) (.tmp 59), _, _, _, _⟩ :: _) _ _); refine wpList_storeNewG (op := ⟨none, .store 68 (.tmp 12) (.tmp 59), _, _, _, _⟩) rfl 68 _ _ rfl (by rfl) (frL_9 f) (by rfl) (by rw [frL_len_9 HFO.out]; rfl) (sizeFrL_9 HFO.out) (frL_one_9 _) ?_; intro w5 hf5 hb5 hz5; clear hz5; have HB5 := Lib.hid (HB4.out.trans (hb5.mono HB4.out.size)); have HP5 := Lib.hid (HP4.out.below HP4.out.lt hb5); have HK5 := Lib.hid (HK4.out.below HK4.out.lt hb5); have HT5 := Lib.hid (HT4.out.below HT4.out.lt hb5); clear hf5 hb5)
            | ((with_reducible show wpList _ _ _ (⟨some 63, _, _, _, _, _⟩ :: _) _ _); refine wpList_buildw (op := ⟨some 63, _, _, _, _, _⟩) 37 _ rfl (by rfl) _ (by kernel_rfl) (pkL (kindK 3)).toArray (built_pk1 3) ?_)
            | ((with_reducible show wpList _ _ _ (⟨none, .store 37 (.tmp 2) _, _, _, _, _⟩ :: _) _ _); refine wpList_storeR_10 (op := ⟨none, .store 37 (.tmp 2) _, _, _, _, _⟩) rfl 37 _ _ rfl w.heap.size (by rfl) (pkL (kindK 3)) (by rfl) _ HP5.out (kind_len _ _) (sizePkL Tu.ok_zero) (pkL_one _) ?_))
          refine bodyPost_ret (v := pkC (kindK 3)) (results_pk rfl _ _ w.heap.size (by rfl) _ Tu.ok_zero (Blk_10.setRow_ HP5.out _)) rfl ?_
          exact ⟨rfl, below_setRow HB5.out (Nat.le_refl _) _⟩
      · have e2 := K2.out rfl h4 h6
        subst e2
        have b4 : (L.ty == 2048) = false := beq_eq_false_iff_ne.2 h4
        have b6 : (L.ty == 34525) = false := beq_eq_false_iff_ne.2 h6
        clear h4 h6 K1 K2 K4 K6
        go_wp2_with (first
          | ((with_reducible show wpList _ _ _ (⟨none, .store 46 (.tmp 3) (.tmp 19), _, _, _, _⟩ :: _) _ _); refine wpList_storeNewG (op := ⟨none, .store 46 (.tmp 3) (.tmp 19), _, _, _, _⟩) rfl 46 _ _ rfl (by rfl) (lkL L (.slice At mt ct)) (by rfl) (by rw [lkL_len H6.out]; rfl) (sizeLkL H6.out _) (lkL_one L _ rfl) ?_; intro w2 hl2 hb2 hz2; clear hz2; have HB2 := Lib.hid (HB1.out.trans (hb2.mono HB1.out.size)); have HP2 := Lib.hid (HP1.out.below HP1.out.lt hb2); have HK2 := Lib.hid hl2; have HG2 := Lib.hid (show w.heap.size < w2.heap.size from Nat.lt_of_lt_of_le HP1.out.lt hb2.size); have HG3 := Lib.hid (show w1.heap.size < w2.heap.size from hl2.lt); have c14 := Blk_10.cell hl2 Hat.out; have hcut := HCUT.out; clear hl2 hb2)
          | ((with_reducible show wpList _ _ _ (⟨some 28, _, _, _, _, _⟩ :: _) _ _); refine wpList_buildw (op := ⟨some 28, _, _, _, _, _⟩) 35 _ rfl (by rfl) _ (by kernel_rfl) (tuL Tu.zero).toArray built_tu0 ?_)
          | ((with_reducible show wpList _ _ _ (⟨none, .store 35 (.tmp 9) (.tmp 28), _, _, _, _⟩ :: _) _ _); refine wpList_storeNewG (op := ⟨none, .store 35 (.tmp 9) (.tmp 28), _, _, _, _⟩) rfl 35 _ _ rfl (by rfl) (tuL Tu.zero) (by rfl) (by rw [tuL_len Tu.ok_zero]; rfl) (sizeTuL Tu.ok_zero) (tuL_one _) ?_; intro w3 ht3 hb3 hz3; clear hz3; have HB3 := Lib.hid (HB2.out.trans (hb3.mono HB2.out.size)); have HP3 := Lib.hid (HP2.out.below HP2.out.lt hb3); have HK3 := Lib.hid (HK2.out.below HK2.out.lt hb3); have HT3 := Lib.hid ht3; have c13 := Blk_10.cell HK3.out Hty.out; clear ht3 hb3)
          | ((with_reducible show wpList _ _ _ (⟨some 77, _, _, _, _, _⟩ :: _) _ _); refine wpList_buildw (op := ⟨some 77, _, _, _, _, _⟩) 37 _ rfl (by rfl) _ (by kernel_rfl) (pkL (kindK 2)).toArray (built_pk1 2) ?_)
          | ((with_reducible show wpList _ _ _ (⟨none, .store 37 (.tmp 2) _, _, _, _, _⟩ :: _) _ _); refine wpList_storeR_10 (op := ⟨none, .store 37 (.tmp 2) _, _, _, _, _⟩) rfl 37 _ _ rfl w.heap.size (by rfl) (pkL (kindK 2)) (by rfl) _ HP3.out (kind_len _ _) (sizePkL Tu.ok_zero) (pkL_one _) ?_))
        refine bodyPost_ret (v := pkC (kindK 2)) (results_pk rfl _ _ w.heap.size (by rfl) _ Tu.ok_zero (Blk_10.setRow_ HP3.out _)) rfl ?_
        exact ⟨rfl, below_setRow HB3.out (Nat.le_refl _) _⟩
  · have e1 := K1.out hE0
    subst e1
    have bE : ((E : Int) != 0) = true := by simp; omega
    have bE2 : (E != 0) = true := by simp [hE0]
    go_wp2_with (first
      | ((with_reducible show wpList _ _ _ (⟨none, .store 46 (.tmp 3) (.tmp 19), _, _, _, _⟩ :: _) _ _); refine wpList_storeNewG (op := ⟨none, .store 46 (.tmp 3) (.tmp 19), _, _, _, _⟩) rfl 46 _ _ rfl (by rfl) (lkL L (.slice At mt ct)) (by rfl) (by rw [lkL_len H6.out]; rfl) (sizeLkL H6.out _) (lkL_one L _ rfl) ?_; intro w2 hl2 hb2 hz2; clear hz2; have HB2 := Lib.hid (HB1.out.trans (hb2.mono HB1.out.size)); have HP2 := Lib.hid (HP1.out.below HP1.out.lt hb2); have HK2 := Lib.hid hl2; have HG2 := Lib.hid (show w.heap.size < w2.heap.size from Nat.lt_of_lt_of_le HP1.out.lt hb2.size); have HG3 := Lib.hid (show w1.heap.size < w2.heap.size from hl2.lt); clear hl2 hb2)
      | ((with_reducible show wpList _ _ _ (⟨some 23, _, _, _, _, _⟩ :: _) _ _); refine wpList_buildw (op := ⟨some 23, _, _, _, _, _⟩) 37 _ rfl (by rfl) _ (by kernel_rfl) (pkL (kindK 1)).toArray (built_pk1 1) ?_)
      | ((with_reducible show wpList _ _ _ (⟨none, .store 37 (.tmp 2) _, _, _, _, _⟩ :: _) _ _); refine wpList_storeR_10 (op := ⟨none, .store 37 (.tmp 2) _, _, _, _, _⟩) rfl 37 _ _ rfl w.heap.size (by rfl) (pkL (kindK 1)) (by rfl) _ HP2.out (kind_len _ _) (sizePkL Tu.ok_zero) (pkL_one _) ?_))
    refine bodyPost_ret (v := pkC (kindK 1)) (results_pk rfl _ _ w.heap.size (by rfl) _ Tu.ok_zero (Blk_10.setRow_ HP2.out _)) rfl ?_
    exact ⟨rfl, below_setRow HB2.out (Nat.le_refl _) _⟩
end Go.Proofs.Ytkmcopenflakkaa
