/-
  PROVED HERE: 'NatMadeSaid': whatever header l, tuple t, flags f, bytes load, address addr and number port are, the Go function NatMade of package wayleavelaw12 returns true, and its arguments read behind the call as they read before. No condition.
-/
import Derived.Test.YtkmcopenflakkaaNLaw
import Derived.Test.YtkmcopenflakkaaKWhy
namespace Go.Proofs.Ytkmcopenflakkaa
set_option maxRecDepth 100000
open Go.RowKit Go.Lib Go.ChangeShapes Go.WideShapes Go.ChangeAt

theorem why_zero {L : Lk} {t : Tu} {f : Int} {n : Nat} (h : whyN L t f n = 0) : MakeOk L t f ∧ ihN t + (shN_ t + n) ≤ 65535 := by
  unfold whyN at h
  split at h
  · cases h
  · rename_i h1
    split at h
    · cases h
    · exact ⟨okB_yes (by simpa using h1), by omega⟩
theorem made_ok {L : Lk} {t : Tu} {f : Int} (h : MakeOk L t f) {a : Ad} (haf : ofB t.s.six a = true) {m : Int} (m0 : 0 ≤ m) (m1 : m ≤ 65535) (dst : Bool) : MakeOk L (tuN t a m dst) f := by
  have hs := of_six haf
  have hf := h.fam
  unfold famB at hf
  have hs2 : (t.s.six || shortB a) = true := by
    unfold ofB at haf
    simp only [Bool.and_eq_true] at haf
    exact haf.2
  simp only [Bool.and_eq_true, beq_iff_eq] at hf
  obtain ⟨f1, f2⟩ := hf
  have hl := h.link
  rw [← typed_turn L haf m dst] at hl
  cases dst with
  | true =>
    refine ⟨hl, ?_, h.pr, h.s0, h.s1, m0, m1, h.f0, h.f1, h.fu⟩
    show famB t.s a = true
    unfold famB
    rw [hs]
    cases h6 : t.s.six with
    | true => rfl
    | false =>
      rw [h6] at hs2 f2
      simp only [Bool.false_or, Bool.and_eq_true] at hs2 f2
      rw [hs2, f2.1]
      rfl
  | false =>
    refine ⟨hl, ?_, h.pr, m0, m1, h.d0, h.d1, h.f0, h.f1, h.fu⟩
    show famB a t.d = true
    unfold famB
    rw [hs, ← f1]
    cases h6 : t.s.six with
    | true => rfl
    | false =>
      rw [h6] at hs2 f2
      simp only [Bool.false_or, Bool.and_eq_true] at hs2 f2
      rw [hs2, f2.2]
      rfl
theorem made_size {t : Tu} {a : Ad} (haf : ofB t.s.six a = true) (m : Int) (dst : Bool) : ihN (tuN t a m dst) = ihN t ∧ shN_ (tuN t a m dst) = shN_ t := by
  cases dst with
  | true => exact ⟨rfl, rfl⟩
  | false =>
    refine ⟨?_, rfl⟩
    unfold ihN
    rw [show (tuN t a m false).s.six = t.s.six from of_six haf]
set_option maxHeartbeats 20000000 in
theorem natMade_walk (L : Lk) (h6 : L.Six) (A : Option Addr) (n cap : Nat) (_hc : n ≤ cap) (hm : cap ≤ maxLen) (t : Tu) (ho : t.Ok) (f : Int) (_ : -9223372036854775808 ≤ f) (_ : f ≤ 9223372036854775807) (B : Option Addr) (len cb : Nat) (xs : List UInt8) (hcb : len ≤ cb) (hmb : cb ≤ maxLen) (a : Ad) (ha : a.b.length = 16) (m : Int) (_ : -9223372036854775808 ≤ m) (_ : m ≤ 9223372036854775807) (w : World) (hT : TagsAt w w.heap.size A n L.ts) (hI : Rd w w.heap.size B len xs) :
    Calls Try.prog 6 #[lkC L (.slice A n cap), tuC t, .int .i64 f, .slice B len cb, adC a, .int .i64 m] w fun e w' => e = .returned (.bool true) ∧ Below w.heap.size w w' := by
  have hml : len ≤ 9223372036854775807 := by unfold maxLen at hmb; omega
  have hmn : n ≤ 9223372036854775807 := by unfold maxLen at hm; omega
  obtain ⟨Y, hY, hbl, hbt, hba, hb⟩ := box3 w (lkL L (.slice A n cap)) (tuL t) (adL a) 46 35 25
  have HL := Lib.hid hbl
  have HT := Lib.hid hbt
  have HA := Lib.hid hba
  have HB := Lib.hid hb
  have HTV := Lib.hid (lk_tv L h6 (.slice A n cap))
  have HO := Lib.hid ho
  have H6 := Lib.hid h6
  have HAL := Lib.hid ha
  have HLEN := Lib.hid hI.len
  have HTG := Lib.hid (fun W (hB : Below w.heap.size w W) => (hT.below hB).more hB.size)
  have HRB := Lib.hid (fun W (hB : Below w.heap.size w W) => (hI.below hB).more hB.size)
  have E0 := Lib.hid (show lkC L (.slice A n cap) = .agg (lkL L (.slice A n cap)).toArray from rfl)
  have E1 := Lib.hid (show tuC t = .agg (tuL t).toArray from rfl)
  have E2 := Lib.hid (show adC a = .agg (adL a).toArray from rfl)
  obtain ⟨C0, hC0⟩ : ∃ C, (lkL L (.slice A n cap)).toArray = C := ⟨_, rfl⟩
  obtain ⟨C1, hC1⟩ : ∃ C, (tuL t).toArray = C := ⟨_, rfl⟩
  obtain ⟨C2, hC2⟩ : ∃ C, (adL a).toArray = C := ⟨_, rfl⟩
  rw [E0.out, E1.out, E2.out]
  rw [hC0, hC1, hC2] at hY
  rw [hC0, hC1, hC2]
  rw [hC0] at E0
  rw [hC1] at E1
  rw [hC2] at E2
  have HC0 := Lib.hid hC0
  have HC1 := Lib.hid hC1
  have HC2 := Lib.hid hC2
  have EQ := Lib.hid hY
  clear hbl hbt hba hb h6 ho ha hT hI hY hC0 hC1 hC2
  go_enter Try.func6, Try.ntmps6
  go_wp2_with fail
  rw [EQ.out]
  refine (awake_any _).mono ?_
  rintro e w1 ⟨rfl, hb1⟩
  have HB1 := Lib.hid (HB.out.trans (hb1.mono HB.out.size))
  have HL1 := Lib.hid (HL.out.below HL.out.lt hb1)
  have HT1 := Lib.hid (HT.out.below HT.out.lt hb1)
  have HA1 := Lib.hid (HA.out.below HA.out.lt hb1)
  have c12 := Blk_10.cell HL1.out HTV.out
  clear hb1
  by_cases hbig : 100 < n ∨ 500 < len
  · by_cases hn : 100 < n
    · have hn' : (100 : Int) < (n : Int) := by omega
      have hnb : decide ((100 : Int) < (n : Int)) = true := decide_eq_true hn'
      clear hbig hn
      go_wp2_with fail
      refine (awake_any _).mono ?_
      rintro e w2 ⟨rfl, hb2⟩
      go_wp2_with fail
      go_ret
      exact ⟨rfl, HB1.out.trans (hb2.mono HB1.out.size)⟩
    · have hn' : ¬ (100 : Int) < (n : Int) := by omega
      have hnb : decide ((100 : Int) < (n : Int)) = false := decide_eq_false hn'
      have hl' : (500 : Int) < (len : Int) := by omega
      have hlb : decide ((500 : Int) < (len : Int)) = true := decide_eq_true hl'
      clear hbig hn
      go_wp2_with fail
      refine (awake_any _).mono ?_
      rintro e w2 ⟨rfl, hb2⟩
      go_wp2_with fail
      go_ret
      exact ⟨rfl, HB1.out.trans (hb2.mono HB1.out.size)⟩
  · have hn' : ¬ (100 : Int) < (n : Int) := by omega
    have hnb : decide ((100 : Int) < (n : Int)) = false := decide_eq_false hn'
    have hl' : ¬ (500 : Int) < (len : Int) := by omega
    have hlb : decide ((500 : Int) < (len : Int)) = false := decide_eq_false hl'
    have hn1 : n ≤ 1000 := by omega
    have hl1 : len ≤ 100000 := by omega
    have hl2 : len ≤ 500 := by omega
    have hn2 : n ≤ 100 := by omega
    have HWY := Lib.hid (rwhy_any H6.out (A := A) (n := n) (cap := cap) hn1 HO.out f (len := len) hl1 w1 (HTG.out w1 HB1.out))
    rw [E0.out, E1.out] at HWY
    clear hbig
    go_wp2_with (first
      | ((with_reducible show wpList _ _ _ (⟨some 34, _, _, _, _, _⟩ :: _) _ _); refine wpList_loadM (op := ⟨some 34, _, _, _, _, _⟩) 46 _ rfl (by rfl) w.heap.size 0 (by rfl) (lkL L (.slice A n cap)) (Blk_10.range (HL1.out)) _ Try.underlying46 rfl (sizeLkL H6.out _) ?_; rw [HC0.out])
      | ((with_reducible show wpList _ _ _ (⟨some 35, _, _, _, _, _⟩ :: _) _ _); refine wpList_loadM (op := ⟨some 35, _, _, _, _, _⟩) 35 _ rfl (by rfl) (w.heap.size + 1) 0 (by rfl) (tuL t) (Blk_10.range (HT1.out)) _ Try.underlying35 rfl (sizeTuL HO.out) ?_; rw [HC1.out]))
    refine HWY.out.mono ?_
    rintro e w2 ⟨rfl, hb2⟩
    have HB2 := Lib.hid (HB1.out.trans (hb2.mono HB1.out.size))
    have HL2 := Lib.hid (HL1.out.below HL1.out.lt hb2)
    have HT2 := Lib.hid (HT1.out.below HT1.out.lt hb2)
    have HA2 := Lib.hid (HA1.out.below HA1.out.lt hb2)
    clear hb2 c12 hn' hnb hl' hlb
    by_cases h0 : whyN L t f len = 0
    rotate_left
    · have q1 : ((whyN L t f len : Int) != 0) = true := by simp; omega
      have q2 : (whyN L t f len != 0) = true := by simp [h0]
      clear h0
      go_wp2_with fail
      refine (awake_any _).mono ?_
      rintro e w3 ⟨rfl, hb3⟩
      go_wp2_with fail
      go_ret
      exact ⟨rfl, HB2.out.trans (hb3.mono HB2.out.size)⟩
    obtain ⟨hok, hsz⟩ := why_zero h0
    rw [h0]
    have hmkl := makeK_len H6.out HO.out f xs
    have hts : L.ts.length = n := (HTG.out w2 HB2.out).size
    obtain ⟨M, hM⟩ : ∃ M, makeK L t f xs = M := ⟨_, rfl⟩
    rw [hM] at hmkl
    have hMLs : M.length ≤ 3000 := by
      rw [hmkl, HLEN.out, hts]
      have i1 : ihN t ≤ 40 := by unfold ihN; split <;> omega
      have i2 : shN_ t ≤ 20 := by unfold shN_; split <;> omega
      omega
    obtain ⟨ML, hML⟩ : ∃ k, M.length = k := ⟨_, rfl⟩
    rw [hML] at hMLs
    have HRM := Lib.hid (rmake_any H6.out (A := A) (n := n) (cap := cap) hn1 HO.out hok (B := B) (len := len) (cb := cb) (load := xs) hsz w2 (HTG.out w2 HB2.out) (HRB.out w2 HB2.out))
    rw [E0.out, E1.out, hM] at HRM
    have hrd := make_read (L := L) (t := t) (f := f) (load := xs) H6.out HO.out hok (by rw [HLEN.out]; exact hsz) []
    rw [List.append_nil, hM] at hrd
    have hmay : mayN (readK M) a m = (ofB t.s.six a && decide (0 ≤ m ∧ m ≤ 65535)) := by rw [hrd]; rfl
    have HM := Lib.hid hM
    have HMLL := Lib.hid hML
    have HMS := Lib.hid hMLs
    have HMAY := Lib.hid hmay
    have HOKM := Lib.hid hok
    have HSZ := Lib.hid hsz
    have HN1 := Lib.hid hn1
    clear h0 hmkl hts hM hML hMLs hrd hmay hok hsz hn1 hl1 hl2 hn2
    go_wp2_with (first
      | ((with_reducible show wpList _ _ _ (⟨some 43, _, _, _, _, _⟩ :: _) _ _); refine wpList_loadM (op := ⟨some 43, _, _, _, _, _⟩) 46 _ rfl (by rfl) w.heap.size 0 (by rfl) (lkL L (.slice A n cap)) (Blk_10.range (HL2.out)) _ Try.underlying46 rfl (sizeLkL H6.out _) ?_; rw [HC0.out])
      | ((with_reducible show wpList _ _ _ (⟨some 44, _, _, _, _, _⟩ :: _) _ _); refine wpList_loadM (op := ⟨some 44, _, _, _, _, _⟩) 35 _ rfl (by rfl) (w.heap.size + 1) 0 (by rfl) (tuL t) (Blk_10.range (HT2.out)) _ Try.underlying35 rfl (sizeTuL HO.out) ?_; rw [HC1.out]))
    refine HRM.out.mono ?_
    rintro e w4 ⟨v4, rfl, ho4, hb4⟩
    obtain ⟨A3, c3, rfl, h3, h3m, hr4⟩ := ho4.formN HMLL.out
    have HB4 := Lib.hid (HB2.out.trans (hb4.mono HB2.out.size))
    have HL4 := Lib.hid (fun W (h : Below w4.heap.size w4 W) => (HL2.out.below HL2.out.lt hb4).below (HL2.out.below HL2.out.lt hb4).lt h)
    have HT4 := Lib.hid (fun W (h : Below w4.heap.size w4 W) => (HT2.out.below HT2.out.lt hb4).below (HT2.out.below HT2.out.lt hb4).lt h)
    have HA4 := Lib.hid (fun W (h : Below w4.heap.size w4 W) => (HA2.out.below HA2.out.lt hb4).below (HA2.out.below HA2.out.lt hb4).lt h)
    have HZ4 := Lib.hid (Below.refl w4.heap.size w4)
    have HBW := Lib.hid (fun W (h : Below w4.heap.size w4 W) => HB4.out.trans (h.mono HB4.out.size))
    have TO := Lib.hid (fun W (h : Below w4.heap.size w4 W) => E2.out ▸ nto_any HAL.out (m := m) (by have := HMS.out; omega) h3 h3m W ((hr4.below h).more h.size))
    have FR := Lib.hid (fun W (h : Below w4.heap.size w4 W) => E2.out ▸ nfrom_any HAL.out (m := m) (by have := HMS.out; omega) h3 h3m W ((hr4.below h).more h.size))
    have HOF := Lib.hid (fun W => E2.out ▸ rof_any HAL.out t.s.six W)
    clear hb4 ho4 h3 h3m hr4 HRM HWY HB1 HL1 HT1 HA1
    go_wp2_with (first
      | ((with_reducible show wpList _ _ _ (⟨some 48, _, _, _, _, _⟩ :: _) _ _); refine wpList_loadM (op := ⟨some 48, _, _, _, _, _⟩) 35 _ rfl (by rfl) (w.heap.size + 1) 0 (by rfl) (tuL t) (Blk_10.range (HT4.out _ HZ4.out)) _ Try.underlying35 rfl (sizeTuL HO.out) ?_; rw [HC1.out])
      | ((with_reducible show wpList _ _ _ (⟨none, .store 35 (.tmp 14) _, _, _, _, _⟩ :: _) _ _); refine wpList_storeNewG (op := ⟨none, .store 35 (.tmp 14) _, _, _, _, _⟩) rfl 35 _ _ rfl (by rfl) (tuL t) (by rw [HC1.out]; rfl) (by rw [tuL_len HO.out]; rfl) (sizeTuL HO.out) (tuL_one _) ?_; intro w5 hp_ hb_ hz_; clear hz_; have H14 := Lib.hid hp_; have HZ5 := Lib.hid hb_; clear hp_ hb_)
      | ((with_reducible show wpList _ _ _ (⟨some 49, _, _, _, _, _⟩ :: _) _ _); refine wpList_loadM (op := ⟨some 49, _, _, _, _, _⟩) 25 _ rfl (by rfl) (w.heap.size + 1 + 1) 0 (by rfl) (adL a) (Blk_10.range (HA4.out _ HZ5.out)) _ Try.underlying25 rfl (sizeAdL HAL.out) ?_; rw [HC2.out])
      | ((with_reducible show wpList _ _ _ (⟨none, .store 25 (.tmp 50) _, _, _, _, _⟩ :: _) _ _); refine wpList_storeAd rfl (.tmp 50) _ rfl w4.heap.size 17 (by rfl) a HAL.out (by rw [HC2.out]; rfl) 35 (tuL t) (adL t.s) (adL t.d) (tuE t) (adL_len HO.out.s) (adL_len HO.out.d) H14.out rfl ?_; intro w6 hq_ hn_ hb_; have H14b := Lib.hid (show Blk w6 35 w4.heap.size (tuL ⟨t.s, a, t.pr, t.sp, t.dp⟩) from hq_); have HZ6 := Lib.hid (HZ5.out.trans hb_); clear hq_ hn_ hb_)
      | ((with_reducible show wpList _ _ _ (⟨none, .store 3 (.tmp 52) _, _, _, _, _⟩ :: _) _ _); refine wpList_storeI_10 rfl (.tmp 52) _ rfl w4.heap.size 36 (by rfl) m (by rfl) 35 _ H14b.out _ (tu_i36 (t := ⟨t.s, a, t.pr, t.sp, t.dp⟩) ⟨HO.out.s, HAL.out⟩) ?_; intro w7 hq_ hn_ hb_; have H14c := Lib.hid (show Blk w7 35 w4.heap.size (tuL (tuN t a m true)) from (tu_s36 (t := ⟨t.s, a, t.pr, t.sp, t.dp⟩) ⟨HO.out.s, HAL.out⟩ m) ▸ hq_); have HZ7 := Lib.hid (HZ6.out.trans hb_); clear hq_ hn_ hb_)
      | ((with_reducible show wpList _ _ _ (⟨some 53, _, _, _, _, _⟩ :: _) _ _); refine wpList_loadM (op := ⟨some 53, _, _, _, _, _⟩) 35 _ rfl (by rfl) (w.heap.size + 1) 0 (by rfl) (tuL t) (Blk_10.range (HT4.out _ HZ7.out)) _ Try.underlying35 rfl (sizeTuL HO.out) ?_; rw [HC1.out])
      | ((with_reducible show wpList _ _ _ (⟨none, .store 35 (.tmp 15) _, _, _, _, _⟩ :: _) _ _); refine wpList_storeNewG (op := ⟨none, .store 35 (.tmp 15) _, _, _, _, _⟩) rfl 35 _ _ rfl (by rfl) (tuL t) (by rw [HC1.out]; rfl) (by rw [tuL_len HO.out]; rfl) (sizeTuL HO.out) (tuL_one _) ?_; intro w8 hp_ hb_ hz_; clear hz_; have H15 := Lib.hid hp_; have H14d := Lib.hid (H14c.out.below H14c.out.lt hb_); have HZ8 := Lib.hid (HZ7.out.trans (hb_.mono HZ7.out.size)); have NG := Lib.hid H14c.out.lt; clear hp_ hb_; generalize w7.heap.size = G15 at H15 NG ⊢)
      | ((with_reducible show wpList _ _ _ (⟨some 54, _, _, _, _, _⟩ :: _) _ _); refine wpList_loadM (op := ⟨some 54, _, _, _, _, _⟩) 25 _ rfl (by rfl) (w.heap.size + 1 + 1) 0 (by rfl) (adL a) (Blk_10.range (HA4.out _ HZ8.out)) _ Try.underlying25 rfl (sizeAdL HAL.out) ?_; rw [HC2.out])
      | ((with_reducible show wpList _ _ _ (⟨none, .store 25 (.tmp 55) _, _, _, _, _⟩ :: _) _ _); refine wpList_storeAd rfl (.tmp 55) _ rfl G15 0 (by rfl) a HAL.out (by rw [HC2.out]; rfl) 35 (tuL t) [] (adL t.s) (adL t.d ++ tuE t) rfl (adL_len HO.out.s) H15.out rfl ?_; intro w9 hq_ hn_ hb_; have H15b := Lib.hid (show Blk w9 35 G15 (tuL ⟨a, t.d, t.pr, t.sp, t.dp⟩) from hq_); have H14e := Lib.hid (show Blk w9 35 w4.heap.size (tuL (tuN t a m true)) from (hn_ _ (Nat.ne_of_lt NG.out)).trans H14d.out); have HZ9 := Lib.hid (HZ8.out.trans (hb_.mono (Nat.le_of_lt NG.out))); clear hq_ hn_ hb_)
      | ((with_reducible show wpList _ _ _ (⟨none, .store 3 (.tmp 57) _, _, _, _, _⟩ :: _) _ _); refine wpList_storeI_10 rfl (.tmp 57) _ rfl G15 35 (by rfl) m (by rfl) 35 _ H15b.out _ (tu_i35 (t := ⟨a, t.d, t.pr, t.sp, t.dp⟩) ⟨HAL.out, HO.out.d⟩) ?_; intro w10 hq_ hn_ hb_; have H15c := Lib.hid (show Blk w10 35 G15 (tuL (tuN t a m false)) from (tu_s35 (t := ⟨a, t.d, t.pr, t.sp, t.dp⟩) ⟨HAL.out, HO.out.d⟩ m) ▸ hq_); have H14f := Lib.hid (show Blk w10 35 w4.heap.size (tuL (tuN t a m true)) from (hn_ _ (Nat.ne_of_lt NG.out)).trans H14e.out); have HZa := Lib.hid (HZ9.out.trans (hb_.mono (Nat.le_of_lt NG.out))); clear hq_ hn_ hb_)
      | ((with_reducible show wpList _ _ _ (⟨some 60, _, _, _, _, _⟩ :: _) _ _); refine wpList_loadM (op := ⟨some 60, _, _, _, _, _⟩) 25 _ rfl (by rfl) (w.heap.size + 1 + 1) 0 (by rfl) (adL a) (Blk_10.range (HA4.out _ HZa.out)) _ Try.underlying25 rfl (sizeAdL HAL.out) ?_; rw [HC2.out]))
    refine (TO.out _ HZa.out).mono ?_
    rintro e w11 ⟨hn, hy, hb11⟩
    have HZb := Lib.hid (HZa.out.trans (hb11.mono HZa.out.size))
    have H14g := Lib.hid (H14f.out.below H14f.out.lt hb11)
    have H15d := Lib.hid (H15c.out.below H15c.out.lt hb11)
    clear hb11
    cases hc : mayN (readK M) a m with
    | false =>
      obtain rfl := hn hc
      clear hn hy
      go_wp2_with (((with_reducible show wpList _ _ _ (⟨some 67, _, _, _, _, _⟩ :: _) _ _); refine wpList_loadM (op := ⟨some 67, _, _, _, _, _⟩) 25 _ rfl (by rfl) (w.heap.size + 1 + 1) 0 (by rfl) (adL a) (Blk_10.range (HA4.out _ HZb.out)) _ Try.underlying25 rfl (sizeAdL HAL.out) ?_; rw [HC2.out]))
      refine (FR.out _ HZb.out).mono ?_
      rintro e w12 ⟨hn, _, hb12⟩
      obtain rfl := hn hc
      have HZc := Lib.hid (HZb.out.trans (hb12.mono HZb.out.size))
      have hmn : (ofB t.s.six a && decide (0 ≤ m ∧ m ≤ 65535)) = false := by rw [← HMAY.out]; exact hc
      have c0 := tu_six (HT4.out _ HZc.out)
      obtain ⟨b, hb⟩ : ∃ b, ofB t.s.six a = b := ⟨_, rfl⟩
      rw [hb] at HOF hmn
      have HMN := Lib.hid hmn
      obtain ⟨sx, hsx⟩ : ∃ s, t.s.six = s := ⟨_, rfl⟩
      rw [hsx] at HOF c0
      clear hn hc hb12 hb hmn hsx
      go_wp2_with (((with_reducible show wpList _ _ _ (⟨some 75, _, _, _, _, _⟩ :: _) _ _); refine wpList_loadM (op := ⟨some 75, _, _, _, _, _⟩) 25 _ rfl (by rfl) (w.heap.size + 1 + 1) 0 (by rfl) (adL a) (Blk_10.range (HA4.out _ HZc.out)) _ Try.underlying25 rfl (sizeAdL HAL.out) ?_; rw [HC2.out]))
      refine (HOF.out _).mono ?_
      rintro e w13 ⟨rfl, hb13⟩
      have HBd := Lib.hid (HBW.out _ (HZc.out.trans (hb13.mono HZc.out.size)))
      clear hb13 c0
      cases b with
      | false =>
        go_wp2_with fail
        go_ret
        exact ⟨rfl, HBd.out⟩
      | true =>
        have hm' : ¬ (0 ≤ m ∧ m ≤ 65535) := by
          have := HMN.out
          simpa using this
        by_cases h1 : m < 0
        · have b1 : decide (m < 0) = true := decide_eq_true h1
          clear hm'
          go_wp2_with fail
          go_ret
          exact ⟨rfl, HBd.out⟩
        · have b1 : decide (m < 0) = false := decide_eq_false h1
          have h2 : 65535 < m := by omega
          have b2 : decide (65535 < m) = true := decide_eq_true h2
          clear hm'
          go_wp2_with fail
          go_ret
          exact ⟨rfl, HBd.out⟩
    | true =>
      obtain ⟨vx, rfl, hox⟩ := hy hc
      obtain ⟨_, hof, m0, m1⟩ := mayN_yes hc
      have hof : ofB t.s.six a = true := by
        have := HMAY.out
        rw [hc] at this
        cases hh : ofB t.s.six a
        · rw [hh] at this; cases this
        · rfl
      have hsz' : ihN t + (shN_ t + xs.length) ≤ 65535 := by rw [HLEN.out]; exact HSZ.out
      have md := made_turn H6.out HO.out HOKM.out hsz' HAL.out hof m0 m1 true
      have ms := made_turn H6.out HO.out HOKM.out hsz' HAL.out hof m0 m1 false
      rw [HM.out] at md ms
      rw [md] at hox
      obtain ⟨s1, s2⟩ := made_size hof m true
      obtain ⟨s3, s4⟩ := made_size hof m false
      obtain ⟨EX, hEX⟩ : ∃ k, (makeK L (tuN t a m true) f xs).length = k := ⟨_, rfl⟩
      obtain ⟨EY, hEY⟩ : ∃ k, (makeK L (tuN t a m false) f xs).length = k := ⟨_, rfl⟩
      obtain ⟨Ax, cx, rfl, _, _, _⟩ := hox.formN hEX
      have HOX := Lib.hid hox
      have HEX := Lib.hid hEX
      have HEY := Lib.hid hEY
      have HMS2 := Lib.hid ms
      have HOD := Lib.hid (tuN_ok HO.out HAL.out m true)
      have HOS := Lib.hid (tuN_ok HO.out HAL.out m false)
      have MD := Lib.hid (fun W (h : Below w.heap.size w W) => E0.out ▸ rmake_any H6.out (A := A) (n := n) (cap := cap) HN1.out HOD.out (made_ok HOKM.out hof m0 m1 true) (B := B) (len := len) (cb := cb) (load := xs) (by rw [s1, s2]; exact HSZ.out) W (HTG.out W h) (HRB.out W h))
      have MS := Lib.hid (fun W (h : Below w.heap.size w W) => E0.out ▸ rmake_any H6.out (A := A) (n := n) (cap := cap) HN1.out HOS.out (made_ok HOKM.out hof m0 m1 false) (B := B) (len := len) (cb := cb) (load := xs) (by rw [s3, s4]; exact HSZ.out) W (HTG.out W h) (HRB.out W h))
      rw [hof] at HOF
      have HCC := Lib.hid hc
      have b1 : decide (m < 0) = false := decide_eq_false (by omega)
      have b2 : decide (65535 < m) = false := decide_eq_false (by omega)
      have b3 : ¬ m < 0 := by omega
      have b4 : ¬ 65535 < m := by omega
      clear hn hy hc hof m0 m1 hsz' md ms hox s1 s2 s3 s4 hEX hEY
      go_wp2_with (((with_reducible show wpList _ _ _ (⟨some 67, _, _, _, _, _⟩ :: _) _ _); refine wpList_loadM (op := ⟨some 67, _, _, _, _, _⟩) 25 _ rfl (by rfl) (w.heap.size + 1 + 1) 0 (by rfl) (adL a) (Blk_10.range (HA4.out _ HZb.out)) _ Try.underlying25 rfl (sizeAdL HAL.out) ?_; rw [HC2.out]))
      refine (FR.out _ HZb.out).mono ?_
      rintro e w12 ⟨_, hy, hb12⟩
      obtain ⟨vy, rfl, hoy⟩ := hy HCC.out
      rw [HMS2.out] at hoy
      obtain ⟨Ay, cy, rfl, _, _, _⟩ := hoy.formN HEY.out
      have HZc := Lib.hid (HZb.out.trans (hb12.mono HZb.out.size))
      have HOX2 := Lib.hid (HOX.out.below hb12)
      have HOY := Lib.hid hoy
      have H14h := Lib.hid (H14g.out.below H14g.out.lt hb12)
      have H15e := Lib.hid (H15d.out.below H15d.out.lt hb12)
      have c0 := tu_six (HT4.out _ HZc.out)
      clear hy hoy hb12
      go_wp2_with (((with_reducible show wpList _ _ _ (⟨some 75, _, _, _, _, _⟩ :: _) _ _); refine wpList_loadM (op := ⟨some 75, _, _, _, _, _⟩) 25 _ rfl (by rfl) (w.heap.size + 1 + 1) 0 (by rfl) (adL a) (Blk_10.range (HA4.out _ HZc.out)) _ Try.underlying25 rfl (sizeAdL HAL.out) ?_; rw [HC2.out]))
      refine (HOF.out _).mono ?_
      rintro e w13 ⟨rfl, hb13⟩
      have HZd := Lib.hid (HZc.out.trans (hb13.mono HZc.out.size))
      have HOX3 := Lib.hid (HOX2.out.below hb13)
      have HOY3 := Lib.hid (HOY.out.below hb13)
      have H14i := Lib.hid (H14h.out.below H14h.out.lt hb13)
      have H15f := Lib.hid (H15e.out.below H15e.out.lt hb13)
      clear hb13 c0
      go_wp2_with (first
        | ((with_reducible show wpList _ _ _ (⟨some 100, _, _, _, _, _⟩ :: _) _ _); refine wpList_loadM (op := ⟨some 100, _, _, _, _, _⟩) 46 _ rfl (by rfl) w.heap.size 0 (by rfl) (lkL L (.slice A n cap)) (Blk_10.range (HL4.out _ HZd.out)) _ Try.underlying46 rfl (sizeLkL H6.out _) ?_; rw [HC0.out])
        | ((with_reducible show wpList _ _ _ (⟨some 101, _, _, _, _, _⟩ :: _) _ _); refine wpList_loadTu (op := ⟨some 101, _, _, _, _, _⟩) _ rfl (by rfl) w4.heap.size 0 (by rfl) (tuN t a m true) HOD.out (Blk_10.range H14i.out) ?_))
      refine (MD.out _ (HBW.out _ HZd.out)).mono ?_
      rintro e w14 ⟨v, rfl, ho, hb14⟩
      obtain ⟨Az, cz, rfl, _, _, hzr⟩ := ho.formN HEX.out
      have HZe := Lib.hid (HZd.out.trans (hb14.mono HZd.out.size))
      have HOY4 := Lib.hid (HOY3.out.below hb14)
      have H15g := Lib.hid (H15f.out.below H15f.out.lt hb14)
      have S1 := Lib.hid (same_any w14 cx cz ((HOX3.out.below hb14).rdN HEX.out).2.2 hzr)
      clear ho hb14 hzr
      go_wp2_with fail
      refine S1.out.mono ?_
      rintro e w' ⟨rfl, rfl⟩
      go_wp2_with (first
        | ((with_reducible show wpList _ _ _ (⟨some 109, _, _, _, _, _⟩ :: _) _ _); refine wpList_loadM (op := ⟨some 109, _, _, _, _, _⟩) 46 _ rfl (by rfl) w.heap.size 0 (by rfl) (lkL L (.slice A n cap)) (Blk_10.range (HL4.out _ HZe.out)) _ Try.underlying46 rfl (sizeLkL H6.out _) ?_; rw [HC0.out])
        | ((with_reducible show wpList _ _ _ (⟨some 110, _, _, _, _, _⟩ :: _) _ _); refine wpList_loadTu (op := ⟨some 110, _, _, _, _, _⟩) _ rfl (by rfl) G15 0 (by rfl) (tuN t a m false) HOS.out (Blk_10.range H15g.out) ?_))
      refine (MS.out _ (HBW.out _ HZe.out)).mono ?_
      rintro e w15 ⟨v, rfl, ho, hb15⟩
      obtain ⟨Av, cv, rfl, _, _, hvr⟩ := ho.formN HEY.out
      have HZf := Lib.hid (HZe.out.trans (hb15.mono HZe.out.size))
      have S2 := Lib.hid (same_any w15 cy cv ((HOY4.out.below hb15).rdN HEY.out).2.2 hvr)
      clear ho hb15 hvr
      go_wp2_with fail
      refine S2.out.mono ?_
      rintro e w' ⟨rfl, rfl⟩
      go_wp2_with fail
      go_ret
      exact ⟨rfl, HBW.out _ HZf.out⟩

theorem natMade_walks : WalksTrue 6 Try.f6 := by
  intro H enc W base args ds p hval hA
  rw [Try.params6] at hA hval
  obtain ⟨v0, vs0, d0, ds0, p0, q0, hargs, rfl, rfl, h0, r0⟩ := trodAll_cons hA
  obtain ⟨v1, vs1, d1, ds1, p1, q1, rfl, rfl, rfl, h1, r1⟩ := trodAll_cons r0
  obtain ⟨v2, vs2, d2, ds2, p2, q2, rfl, rfl, rfl, h2, r2⟩ := trodAll_cons r1
  obtain ⟨v3, vs3, d3, ds3, p3, q3, rfl, rfl, rfl, h3, r3⟩ := trodAll_cons r2
  obtain ⟨v4, vs4, d4, ds4, p4, q4, rfl, rfl, rfl, h4, r4⟩ := trodAll_cons r3
  obtain ⟨v5, vs5, d5, ds5, p5, q5, rfl, rfl, rfl, h5, r5⟩ := trodAll_cons r4
  obtain ⟨rfl, rfl, rfl⟩ := trodAll_nil r5
  obtain rfl : args = #[v0, v1, v2, v3, v4, v5] := by cases args; simp_all
  obtain ⟨L0, A0, len0, cap0, rfl, s0, hc0, hm0, hI0⟩ := open_link (hval 0 46 v0 rfl rfl) h0
  obtain ⟨t1, rfl, o1⟩ := open_tuple (hval 1 35 v1 rfl rfl) h1
  obtain ⟨a2, rfl, rfl, rfl, w2⟩ := open_int Try.underlying3 (hval 2 3 v2 rfl rfl) h2
  obtain ⟨g2a, g2b⟩ := range_i64 w2
  obtain ⟨A3, len3, cap3, xs3, rfl, hc3, hm3, hI3⟩ := open_bytes (hval 3 22 v3 rfl rfl) h3
  obtain ⟨d4_, rfl, l4⟩ := open_ad (hval 4 25 v4 rfl rfl) h4
  obtain ⟨a5, rfl, rfl, rfl, w5⟩ := open_int Try.underlying3 (hval 5 3 v5 rfl rfl) h5
  obtain ⟨g5a, g5b⟩ := range_i64 w5
  exact natMade_walk L0 s0 A0 len0 cap0 hc0 hm0 t1 o1 a2 g2a g2b A3 len3 cap3 xs3 hc3 hm3 d4_ l4 a5 g5a g5b W hI0 hI3

theorem natMade_said : Rows.NatMadeSaid :=
  OpenClaim.holds_of_wide 6 Try.f6 rfl rfl rfl rfl rfl rfl rfl ⟨rfl, rfl, rfl, rfl, rfl⟩ rfl rfl rfl rfl rfl (by kernel_rfl) Try.func6 (by kernel_rfl)
    (of_decide_eq_true (by kernel_rfl)) (by unfold Func.isWrapper; first | (rw [if_pos (by decide +kernel)]; kernel_rfl) | (rw [if_neg (by decide +kernel)]; exact ⟨rfl, rfl⟩))
    (fun os started H enc _ => law_lift (s := Rows.natMadeSpec) Try.func6 (by kernel_rfl) rfl rfl (by intro H ds hd; match ds, hd with | [_, _, _, _, _, _], _ => exact ⟨rfl, rfl, rfl⟩) (by kernel_rfl) natMade_walks os started H enc
      (ChangeSpec.witness6 (enc := enc) (C := Try.checked) false ⟨#[], #[.agg #[.int .u8 0, .int .u8 0, .int .u8 0, .int .u8 0, .int .u8 0, .int .u8 0, .int .u8 0, .int .u8 0, .int .u8 0, .int .u8 0, .int .u8 0, .int .u8 0, .slice none 0 0, .int .i64 0, .int .i64 0], .agg #[.bool false, .int .u8 0, .int .u8 0, .int .u8 0, .int .u8 0, .int .u8 0, .int .u8 0, .int .u8 0, .int .u8 0, .int .u8 0, .int .u8 0, .int .u8 0, .int .u8 0, .int .u8 0, .int .u8 0, .int .u8 0, .int .u8 0, .bool false, .int .u8 0, .int .u8 0, .int .u8 0, .int .u8 0, .int .u8 0, .int .u8 0, .int .u8 0, .int .u8 0, .int .u8 0, .int .u8 0, .int .u8 0, .int .u8 0, .int .u8 0, .int .u8 0, .int .u8 0, .int .u8 0, .int .i64 0, .int .i64 0, .int .i64 0], .int .i64 0, .slice none 0 0, .agg #[.bool false, .int .u8 0, .int .u8 0, .int .u8 0, .int .u8 0, .int .u8 0, .int .u8 0, .int .u8 0, .int .u8 0, .int .u8 0, .int .u8 0, .int .u8 0, .int .u8 0, .int .u8 0, .int .u8 0, .int .u8 0, .int .u8 0], .int .i64 0], []⟩ 8 (by kernel_rfl) (by kernel_rfl) (by kernel_rfl) (by kernel_rfl)))

end Go.Proofs.Ytkmcopenflakkaa
