/-
  PROVED HERE: 'PacketBackSaid': whatever header l, tuple t, flags f and bytes load and more are, the Go function PacketBack of package wayleavelaw11 returns true, and its arguments read behind the call as they read before. No condition.
-/
import Derived.Test.YtdkaaffghendiaaKLaw2
namespace Go.Proofs.Ytdkaaffghendiaa
set_option maxRecDepth 100000
open Go.RowKit Go.Lib Go.ChangeShapes Go.WideShapes Go.ChangeAt

theorem lk_tv5 (L : Lk) (h : L.Six) (tv : Value) : (lkL L tv)[12]? = some tv := by
  obtain ⟨d, s, ts, ty, at_⟩ := L
  obtain ⟨h1, h2⟩ := h
  match d, s, h1, h2 with
  | [d0, d1, d2, d3, d4, d5], [s0, s1, s2, s3, s4, s5], _, _ => rfl
/-- The load stands at the end of the segment, and of the frame. -/
theorem fillK_load {L : Lk} {t : Tu} {f : Int} {load : List UInt8} (h : MakeOk L t f) : (fillK t f load).drop (shN_ t) = load := by
  apply List.ext_getElem?
  intro i
  rw [List.getElem?_drop]
  unfold fillK
  have hs : (segK t f load).drop (shN_ t) = load := by
    rcases h.pr with e | e
    · have h1 : shN_ t = 20 := if_neg (by rw [e]; decide)
      rw [h1]
      unfold segK
      rw [if_neg (by rw [e]; decide)]
      rfl
    · have h1 : shN_ t = 8 := if_pos e
      rw [h1]
      unfold segK
      rw [if_pos e]
      rfl
  rcases h.pr with e | e
  · have h1 : shN_ t = 20 := if_neg (by rw [e]; decide)
    have hu : udpT t = false := decide_eq_false (by rw [e]; decide)
    rw [fillS_get (by rw [hu, h1]; show 20 + i ≠ 16; omega) (by rw [hu, h1]; show 20 + i ≠ 17; omega), ← List.getElem?_drop, hs]
  · have h1 : shN_ t = 8 := if_pos e
    have hu : udpT t = true := decide_eq_true e
    rw [fillS_get (by rw [hu, h1]; show 8 + i ≠ 6; omega) (by rw [hu, h1]; show 8 + i ≠ 7; omega), ← List.getElem?_drop, hs]
theorem makeK_seg {L : Lk} {t : Tu} (h6 : L.Six) (ho : t.Ok) (f : Int) (load : List UInt8) : (makeK L t f load).drop (14 + 4 * L.ts.length + ihN t) = fillK t f load := by
  have hl : (lkB (typedL L t) ++ headK t (segK t f load).length).length = 14 + 4 * L.ts.length + ihN t := by rw [List.length_append, lkB_len (typed_six h6 t), headK_len ho]; rfl
  unfold makeK ipK
  rw [← List.append_assoc, ← hl, List.drop_append_of_le_length (Nat.le_refl _), List.drop_length, List.nil_append]
theorem fillK_right {L : Lk} {t : Tu} (ho : t.Ok) {f : Int} (h : MakeOk L t f) {load : List UInt8} (hl : 8 + load.length < 65536) : rightS t.s.six t.s.b t.d.b (udpT t) (fillK t f load) = true ∧ faultB (udpT t) (fillK t f load) = 0 := ⟨fill_right ho.s ho.d (seg_fault h hl), fill_fault.1.trans (seg_fault h hl)⟩
theorem fam_six5 {a b : Ad} (h : famB a b = true) : b.six = a.six := by
  unfold famB at h
  cases h1 : a.six <;> cases h2 : b.six <;> rw [h1, h2] at h <;> first | rfl | cases h
set_option maxHeartbeats 8000000 in
theorem packetBack_walk (L : Lk) (h6 : L.Six) (A : Option Addr) (n cap : Nat) (_hc : n ≤ cap) (hm : cap ≤ maxLen) (t : Tu) (ho : t.Ok) (f : Int) (_hf1 : -9223372036854775808 ≤ f) (_hf2 : f ≤ 9223372036854775807) (B : Option Addr) (len cb : Nat) (xs : List UInt8) (hcb : len ≤ cb) (hmb : cb ≤ maxLen) (D : Option Addr) (mm cd : Nat) (zs : List UInt8) (hcd : mm ≤ cd) (hmd : cd ≤ maxLen) (w : World) (hT : TagsAt w w.heap.size A n L.ts) (hI : Rd w w.heap.size B len xs) (hJ : Rd w w.heap.size D mm zs) :
    Calls Try.prog 5 #[lkC L (.slice A n cap), tuC t, .int .i64 f, .slice B len cb, .slice D mm cd] w fun e w' => e = .returned (.bool true) ∧ Below w.heap.size w w' := by
  have hml : len ≤ 9223372036854775807 := by unfold maxLen at hmb; omega
  have hmn : n ≤ 9223372036854775807 := by unfold maxLen at hm; omega
  have hmm : mm ≤ 9223372036854775807 := by unfold maxLen at hmd; omega
  have hmcd := hmd
  obtain ⟨Y, hY, hbl, hbt, hb⟩ : ∃ Y : World, (w.alloc (.cells (lkL L (.slice A n cap)).toArray 36)).alloc (.cells (tuL t).toArray 28) = Y ∧ Blk Y 36 w.heap.size (lkL L (.slice A n cap)) ∧ Blk Y 28 (w.heap.size + 1) (tuL t) ∧ Below w.heap.size w Y := by
    refine ⟨_, rfl, (Blk_10.new w 36 _).alloc _, ?_, ((Below.refl w.heap.size w).alloc (Nat.le_refl _) _).alloc (by simp) _⟩
    have := Blk_10.new (w.alloc (.cells (lkL L (.slice A n cap)).toArray 36)) 28 (tuL t)
    rwa [World.size_alloc] at this
  have HL := Lib.hid hbl
  have HT := Lib.hid hbt
  have HB := Lib.hid hb
  have HTV := Lib.hid (lk_tv5 L h6 (.slice A n cap))
  have HO := Lib.hid ho
  have H6 := Lib.hid h6
  have HLEN := Lib.hid hI.len
  have HZL := Lib.hid hJ.len
  have HTS := Lib.hid hT.size
  have HTG := Lib.hid (fun W (hB : Below w.heap.size w W) => (hT.below hB).more hB.size)
  have HRB := Lib.hid (fun W (hB : Below w.heap.size w W) => (hI.below hB))
  have HRD := Lib.hid (fun W (hB : Below w.heap.size w W) => (hJ.below hB))
  have E0 := Lib.hid (show lkC L (.slice A n cap) = .agg (lkL L (.slice A n cap)).toArray from rfl)
  have E1 := Lib.hid (show tuC t = .agg (tuL t).toArray from rfl)
  obtain ⟨C0, hC0⟩ : ∃ C, (lkL L (.slice A n cap)).toArray = C := ⟨_, rfl⟩
  obtain ⟨C1, hC1⟩ : ∃ C, (tuL t).toArray = C := ⟨_, rfl⟩
  rw [E0.out, E1.out]
  rw [hC0, hC1] at hY
  rw [hC0, hC1]
  rw [hC0] at E0
  rw [hC1] at E1
  have HC0 := Lib.hid hC0
  have HC1 := Lib.hid hC1
  have EQ := Lib.hid hY
  have hYs : w.heap.size + 1 < Y.heap.size := HT.out.lt
  clear hbl hbt hb h6 ho hT hI hJ hY hC0 hC1
  go_enter Try.func5, Try.ntmps5
  go_wp2_with fail
  rw [EQ.out]
  refine (awake_any _).mono ?_
  rintro e w1 ⟨rfl, hb1⟩
  have HB1 := Lib.hid (HB.out.trans (hb1.mono HB.out.size))
  have HL1 := Lib.hid (HL.out.below HL.out.lt hb1)
  have HT1 := Lib.hid (HT.out.below HT.out.lt hb1)
  have hs1 : w.heap.size + 1 < w1.heap.size := Nat.lt_of_lt_of_le hYs hb1.size
  have c12 := Blk_10.cell HL1.out HTV.out
  clear hb1
  by_cases hbig : 100 < n ∨ 500 < len ∨ 300 < mm
  · by_cases hn : 100 < n
    · have hnb : decide ((100 : Int) < (n : Int)) = true := decide_eq_true (by omega)
      have hn' : (100 : Int) < (n : Int) := by omega
      clear hbig hn
      go_wp2_with fail
      refine (awake_any _).mono ?_
      rintro e w2 ⟨rfl, hb2⟩
      go_wp2_with fail
      go_ret
      exact ⟨rfl, HB1.out.trans (hb2.mono HB1.out.size)⟩
    · have hnb : decide ((100 : Int) < (n : Int)) = false := decide_eq_false (by omega)
      have hn' : ¬ (100 : Int) < (n : Int) := by omega
      by_cases hl : 500 < len
      · have hlb : decide ((500 : Int) < (len : Int)) = true := decide_eq_true (by omega)
        have hl' : (500 : Int) < (len : Int) := by omega
        clear hbig hn hl
        go_wp2_with fail
        refine (awake_any _).mono ?_
        rintro e w2 ⟨rfl, hb2⟩
        go_wp2_with fail
        go_ret
        exact ⟨rfl, HB1.out.trans (hb2.mono HB1.out.size)⟩
      · have hlb : decide ((500 : Int) < (len : Int)) = false := decide_eq_false (by omega)
        have hl' : ¬ (500 : Int) < (len : Int) := by omega
        have hzb : decide ((300 : Int) < (mm : Int)) = true := decide_eq_true (by omega)
        have hz' : (300 : Int) < (mm : Int) := by omega
        clear hbig hn hl
        go_wp2_with fail
        refine (awake_any _).mono ?_
        rintro e w2 ⟨rfl, hb2⟩
        go_wp2_with fail
        go_ret
        exact ⟨rfl, HB1.out.trans (hb2.mono HB1.out.size)⟩
  · have hnb : decide ((100 : Int) < (n : Int)) = false := decide_eq_false (by omega)
    have hn' : ¬ (100 : Int) < (n : Int) := by omega
    have hlb : decide ((500 : Int) < (len : Int)) = false := decide_eq_false (by omega)
    have hl' : ¬ (500 : Int) < (len : Int) := by omega
    have hzb : decide ((300 : Int) < (mm : Int)) = false := decide_eq_false (by omega)
    have hz' : ¬ (300 : Int) < (mm : Int) := by omega
    have hn1 : n ≤ 100 := by omega
    have hl1 : len ≤ 500 := by omega
    have hz1 : mm ≤ 300 := by omega
    have HMK := Lib.hid (fun W (hB : Below w.heap.size w W) => pmake_any H6.out (A := A) (n := n) (cap := cap) (by omega) HO.out f (B := B) (len := len) (cb := cb) (load := xs) (by omega) W (HTG.out W hB) ((HRB.out W hB).more hB.size))
    rw [E0.out, E1.out] at HMK
    unfold MakeGave at HMK
    rw [HLEN.out] at HMK
    clear hbig
    go_wp2_with (first
      | ((with_reducible show wpList _ _ _ (⟨some 34, _, _, _, _, _⟩ :: _) _ _); refine wpList_loadM 36 _ rfl (by rfl) w.heap.size 0 (by rfl) (lkL L (.slice A n cap)) (Blk_10.range HL1.out) _ Try.underlying36 rfl (sizeLkL H6.out _) ?_; rw [HC0.out])
      | ((with_reducible show wpList _ _ _ (⟨some 35, _, _, _, _, _⟩ :: _) _ _); refine wpList_loadM 28 _ rfl (by rfl) (w.heap.size + 1) 0 (by rfl) (tuL t) (Blk_10.range HT1.out) _ Try.underlying28 rfl (sizeTuL HO.out) ?_; rw [HC1.out]))
    clear hnb hn' hlb hl' hzb hz' c12
    refine (HMK.out _ HB1.out).mono ?_
    rintro e w2 ⟨hno, hyes, hb2⟩
    have HB2 := Lib.hid (HB1.out.trans (hb2.mono HB1.out.size))
    have HL2 := Lib.hid (HL1.out.below HL1.out.lt hb2)
    have HT2 := Lib.hid (HT1.out.below HT1.out.lt hb2)
    have hs2 : w.heap.size + 1 < w2.heap.size := Nat.lt_of_lt_of_le hs1 hb2.size
    by_cases h0 : whyN L t f len = 0
    · obtain ⟨hok, hsz⟩ := why_zero h0
      obtain ⟨v, rfl, hov⟩ := hyes h0
      have hmkl := makeK_len H6.out HO.out f xs
      have hrd := make_read H6.out HO.out hok (load := xs) (by rw [HLEN.out]; exact hsz) zs
      have hseg := makeK_seg H6.out HO.out f xs
      rw [HTS.out] at hmkl hrd hseg
      rw [HLEN.out] at hmkl hrd
      obtain ⟨ih, hih⟩ : ∃ k, ihN t = k := ⟨_, rfl⟩
      obtain ⟨sh, hsh⟩ : ∃ k, shN_ t = k := ⟨_, rfl⟩
      rw [hih] at hsz hmkl hrd hseg
      rw [hsh] at hsz hmkl hrd
      obtain ⟨SEG, hSEG⟩ : ∃ k, 14 + 4 * n + ih = k := ⟨_, rfl⟩
      obtain ⟨ML, hML⟩ : ∃ k, 14 + 4 * n + (ih + (sh + len)) = k := ⟨_, rfl⟩
      rw [hML] at hmkl hrd
      rw [hSEG] at hrd hseg
      have hn4 : ((14 + 4 * n : Nat) : Int) = 14 + 4 * (n : Int) := by omega
      rw [hn4] at hrd
      have hMLs : ML ≤ 2000 + 65535 := by omega
      have hSM : SEG + (sh + len) = ML := by omega
      have hfl : (fillK t f xs).length = sh + len := by rw [fillK_len, hsh, HLEN.out]
      obtain ⟨hri, hfa⟩ := fillK_right HO.out hok (load := xs) (by rw [HLEN.out]; omega)
      have hld := fillK_load hok (load := xs)
      rw [hsh] at hld
      have hpu : t.pr = (prN (udpT t) : Int) := pr_prN hok
      have hd6 := fam_six5 hok.fam
      obtain ⟨A2, c2, rfl, hc2, hm2, hr2⟩ := hov.formN hmkl
      have HR2 := Lib.hid hr2
      have HSEGB := Lib.hid (show ((makeK L t f xs).drop SEG).take (sh + len) = fillK t f xs by rw [hseg, ← hfl, List.take_length])
      have HLOAD := Lib.hid (show (makeK L t f xs).drop (ML - len) = xs by
        have e : ML - len = SEG + sh := by omega
        rw [e, ← List.drop_drop, hseg, hld])
      have RI := Lib.hid (fun (W : World) (A' : Option Addr) (c' : Nat) (h1 : sh + len ≤ c') (hR : Rd W W.heap.size A' (sh + len) (fillK t f xs)) => show Calls Try.prog 17 #[adC t.s, adC t.d, .int .i64 t.pr, .slice A' (sh + len) c'] W fun e w' => e = .returned (.bool true) ∧ Below W.heap.size W w' by
        have := rright_any t.s.six t.s.b t.d.b HO.out.s HO.out.d (by omega) h1 W hR (udpT t) hfa
        rw [hri, ← hpu] at this
        have e : t.d = ⟨t.s.six, t.d.b⟩ := by rw [← hd6]
        rw [e]
        exact this)
      have HMKL := Lib.hid hmkl
      have HE2 := Lib.hid (empty8 (base := w2.heap.size) w2 (Nat.le_refl _))
      have LA := Lib.hid (show ([] : List UInt8).length + ML ≤ 2000000000 by simp; omega)
      have LB := Lib.hid (show (makeK L t f xs).length + mm ≤ 2000000000 by rw [hmkl]; omega)
      have HLL := Lib.hid (show (makeK L t f xs ++ zs).length = ML + mm by rw [List.length_append, hmkl, HZL.out])
      obtain ⟨P, hP⟩ : ∃ P : Pk, P = ⟨0, t, f, 14 + 4 * (n : Int), (SEG : Int), (ML : Int)⟩ := ⟨_, rfl⟩
      rw [← hP] at hrd
      have hPo : P.t.Ok := by rw [hP]; exact HO.out
      have HPO := Lib.hid hPo
      have HRDK := Lib.hid (fun (A' : Option Addr) (c' : Nat) (h1 : ML + mm ≤ c') (h2 : c' ≤ maxLen) (W : World) (hR : Rd W W.heap.size A' (ML + mm) (makeK L t f xs ++ zs)) => pread_as hrd (by omega) h1 h2 hR)
      have HPE := Lib.hid hP
      have hMLb : ML ≤ 9223372036854775807 := by omega
      clear hno hyes hov hr2 h0 hok hsz hmkl hrd hseg hih hsh hfl hri hfa hld hpu hd6 hP hPo hML hn4 hb2
      go_wp2_with (first
        | ((with_reducible show wpList _ _ _ (⟨some 48, _, _, _, _, _⟩ :: _) _ _); refine wpList_append8 (o := ⟨some 48, _, _, _, _, _⟩) rfl _ _ rfl w2.heap.size _ [] (by rfl) HE2.out _ A2 ML c2 (makeK L t f xs) (by rfl) (HR2.out.alloc (Nat.le_refl _) _) LA.out (by simp) ?_; intro v3 w3 ho3 hg3 hq3; clear hq3; rw [List.nil_append] at ho3; have e3 : Below w2.heap.size w2 w3 := ((Below.refl _ w2).alloc (Nat.le_refl _) (.cells #[] 5)).grown hg3 (by simp) HE2.out.lt; obtain ⟨A3, c3, rfl, _, _, _⟩ := ho3.formN HMKL.out; have HO3 := Lib.hid ho3; have E3 := Lib.hid e3; have HB3 := Lib.hid (HB2.out.trans (e3.mono HB2.out.size)); clear ho3 hg3 e3)
        | ((with_reducible show wpList _ _ _ (⟨some 50, _, _, _, _, _⟩ :: _) _ _); refine wpList_append8 (o := ⟨some 50, _, _, _, _, _⟩) rfl _ _ rfl w2.heap.size _ (makeK L t f xs) (by rfl) HO3.out _ D mm cd zs (by rfl) (HRD.out w3 HB3.out) LB.out E3.out.size ?_; intro v4 w4 ho4 hg4 hq4; clear hq4; have e4 : Below w2.heap.size w2 w4 := E3.out.grown hg4 E3.out.size HO3.out.lt; obtain ⟨A4, c4, rfl, hc4, hm4, hr4⟩ := ho4.formN HLL.out; have HR4 := Lib.hid hr4; have E4 := Lib.hid e4; have HB4 := Lib.hid (HB2.out.trans (e4.mono HB2.out.size)); clear ho4 hg4 e4 hr4))
      refine (HRDK.out A4 c4 hc4 hm4 _ HR4.out).mono ?_
      rintro e w5 ⟨rfl, hb5⟩
      have HB5 := Lib.hid (HB4.out.trans (hb5.mono HB4.out.size))
      have E5 := Lib.hid (E4.out.trans (hb5.mono E4.out.size))
      clear hb5
      go_wp2_with (first
        | ((with_reducible show wpList _ _ _ (⟨none, .store 30 (.tmp 13) _, _, _, _, _⟩ :: _) _ _); refine wpList_storePk rfl (.tmp 13) _ rfl (by rfl) P HPO.out (by rfl) (by rfl) ?_; intro w6 hp6 hb6; have HB6 := Lib.hid (HB5.out.trans (hb6.mono HB5.out.size)); have E6 := Lib.hid (E5.out.trans (hb6.mono E5.out.size)); have HP6 := Lib.hid hp6; have HL6 := Lib.hid (HL2.out.below (Nat.lt_of_succ_lt hs2) E6.out); have HT6 := Lib.hid (HT2.out.below hs2 E6.out); have HR6 := Lib.hid ((HR2.out.below E6.out).more E6.out.size); obtain ⟨k0, k1, k2, k3, k4⟩ := pk_cells hp6 HPO.out; have HPT := Lib.hid (show P.t = t by rw [HPE.out]); have hk := Lib.hid (pk_tu hp6); rw [HPE.out] at k0 k1 k2 k3 k4; dsimp only at k0 k1 k2 k3 k4; generalize w5.heap.size = G at HP6 k0 k1 k2 k3 k4 hk ⊢; have c12 := Blk_10.cell HL6.out HTV.out; have NQ := Lib.hid (fun W => E1.out ▸ run_neq_tu W HO.out); have q1 : (f != f) = false := (by simp); have q2 : IntKind.i64.wrap (4 * (n : Int)) = 4 * (n : Int) := (by rw [IntKind.wrap_i64]; omega); have q3 : IntKind.i64.wrap (14 + 4 * (n : Int)) = 14 + 4 * (n : Int) := (by rw [IntKind.wrap_i64]; omega); have q4 : (14 + 4 * (n : Int) != 14 + 4 * (n : Int)) = false := (by simp); have q5 : ((ML : Int) != (ML : Int)) = false := (by simp); have q5b : (ML != ML) = false := (by simp); have q6 : decide ((SEG : Int) < 14 + 4 * (n : Int)) = false := decide_eq_false (by omega); have q7 : decide ((ML : Int) < (SEG : Int)) = false := decide_eq_false (by omega); have q8 : ¬ (SEG : Int) < 14 + 4 * (n : Int) := (by omega); have q9 : ¬ (ML : Int) < (SEG : Int) := (by omega); have qa : decide (ML < SEG) = false := decide_eq_false (by omega); have qb : ¬ ML < SEG := (by omega); clear hp6 hb6)
        | ((with_reducible show wpList _ _ _ (⟨some 57, _, _, _, _, _⟩ :: _) _ _); refine wpList_loadTu (op := ⟨some 57, _, _, _, _, _⟩) _ rfl (by rfl) G 1 (by rfl) t HO.out (HPT.out ▸ hk.out) ?_; rw [E1.out])
        | ((with_reducible show wpList _ _ _ (⟨some 58, _, _, _, _, _⟩ :: _) _ _); refine wpList_loadM 28 _ rfl (by rfl) (w.heap.size + 1) 0 (by rfl) (tuL t) (Blk_10.range HT6.out) _ Try.underlying28 rfl (sizeTuL HO.out) ?_; rw [HC1.out])
        | ((with_reducible show wpList _ _ _ (⟨some 59, _, _, _, _, _⟩ :: _) _ _); refine wpList_neqw (op := ⟨some 59, _, _, _, _, _⟩) 28 _ _ _ rfl (by rfl) C1 C1 (by rfl) (by rfl) guard_tu false NQ.out ?_))
      clear q1 q2 q3 q4 q5 q5b q6 q7 q8 q9 qa qb k0 k1 k2 c12
      have HK34 := Lib.hid (fun W (hW : Below w6.heap.size w6 W) => show W.cell? ⟨G, 40, none⟩ = some (.int .i64 (SEG : Int)) ∧ W.cell? ⟨G, 41, none⟩ = some (.int .i64 (ML : Int)) by
        have := (pk_cells (HP6.out.below HP6.out.lt hW) HPO.out).2.2.2
        rw [HPE.out] at this
        exact this)
      have HPR := Lib.hid (fun W (hW : Below w6.heap.size w6 W) => (tu_num (HT6.out.below HT6.out.lt hW) HO.out).1)
      have HCUT := Lib.hid (fun W => run_cut8 A2 ML c2 SEG (sh + len) (SEG : Int) (ML : Int) rfl (by omega) (by omega) W)
      have HFRM := Lib.hid (fun W => run_from8 A2 ML c2 (ML - len) (by omega) W)
      have HQL := Lib.hid (show ML - (ML - len) = len by omega)
      have qs : IntKind.i64.wrap ((ML : Int) - (len : Int)) = ((ML - len : Nat) : Int) := by rw [IntKind.wrap_i64]; omega
      rw [HQL.out] at HFRM
      have HSG := Lib.hid (fun W (hW : Below w6.heap.size w6 W) => HSEGB.out ▸ ((HR6.out.below hW).cut (l := SEG) (n := sh + len) (by omega) c2 hc2).more hW.size)
      have HLD := Lib.hid (fun W (hW : Below w6.heap.size w6 W) => HQL.out ▸ HLOAD.out ▸ ((HR6.out.below hW).from (l := ML - len) (by omega) c2 hc2))
      have SM := Lib.hid (fun W (hW : Below w6.heap.size w6 W) => same_any W (c2 - (ML - len)) cb (HLD.out W hW) (HRB.out W (HB6.out.trans (hW.mono HB6.out.size))))
      generalize ML - len = QQ at *
      refine wp_region_held_drew (S := fun W => Below w6.heap.size w6 W) (by kernel_rfl) ((Below.refl _ _).drew) (fun hHeld => ?_)
      obtain ⟨X, hX⟩ : ∃ X, w6.drew = X := ⟨_, rfl⟩
      rw [hX] at hHeld ⊢
      clear hX
      refine wpAnyH_take (i := 0) (oi := ⟨some 98, _, _, _, _, _⟩) (v := .pointer (some ⟨w.heap.size + 1, 0, none⟩)) rfl (by kernel_rfl) (by kernel_rfl) (by kernel_rfl) (fun _ _ _ h => h) (Or.inl ⟨by rfl, fun _ _ => by go_simp⟩) hHeld ?_
      simp only [Act.put, List.setIfInBounds_toArray, List.set_cons_zero, List.set_cons_succ]
      refine wpAnyH_take (i := 1) (oi := ⟨some 99, _, _, _, _, _⟩) (v := adC t.s) rfl (by kernel_rfl) (by kernel_rfl) (by kernel_rfl) (fun _ _ _ h => h) (yieldsIf_load_mid (by rfl) 26 _ rfl (w.heap.size + 1) 0 rfl (adL t.s) _ (fun W hW => tu_src (HT6.out.below HT6.out.lt hW)) Try.underlying26 rfl (sizeAdL HO.out.s)) hHeld ?_
      simp only [Act.put, List.setIfInBounds_toArray, List.set_cons_zero, List.set_cons_succ]
      refine wpAnyH_take (i := 2) (oi := ⟨some 100, _, _, _, _, _⟩) (v := .pointer (some ⟨w.heap.size + 1, 17, none⟩)) rfl (by kernel_rfl) (by kernel_rfl) (by kernel_rfl) (fun _ _ _ h => h) (Or.inl ⟨by rfl, fun _ _ => by go_simp⟩) hHeld ?_
      simp only [Act.put, List.setIfInBounds_toArray, List.set_cons_zero, List.set_cons_succ]
      refine wpAnyH_take (i := 3) (oi := ⟨some 101, _, _, _, _, _⟩) (v := adC t.d) rfl (by kernel_rfl) (by kernel_rfl) (by kernel_rfl) (fun _ _ _ h => h) (yieldsIf_load_mid (by rfl) 26 _ rfl (w.heap.size + 1) 17 rfl (adL t.d) _ (fun W hW => tu_dst (HT6.out.below HT6.out.lt hW) HO.out) Try.underlying26 rfl (sizeAdL HO.out.d)) hHeld ?_
      simp only [Act.put, List.setIfInBounds_toArray, List.set_cons_zero, List.set_cons_succ]
      refine wpAnyH_take (i := 4) (oi := ⟨some 102, _, _, _, _, _⟩) (v := .pointer (some ⟨w.heap.size + 1, 34, none⟩)) rfl (by kernel_rfl) (by kernel_rfl) (by kernel_rfl) (fun _ _ _ h => h) (Or.inl ⟨by rfl, fun _ _ => by go_simp⟩) hHeld ?_
      simp only [Act.put, List.setIfInBounds_toArray, List.set_cons_zero, List.set_cons_succ]
      refine wpAnyH_take (i := 5) (oi := ⟨some 103, _, _, _, _, _⟩) (v := .int .i64 t.pr) rfl (by kernel_rfl) (by kernel_rfl) (by kernel_rfl) (fun _ _ _ h => h) (Or.inl ⟨by rfl, fun W hW => by have hc := HPR.out W hW; go_simp⟩) hHeld ?_
      simp only [Act.put, List.setIfInBounds_toArray, List.set_cons_zero, List.set_cons_succ]
      refine wpAnyH_take (i := 6) (oi := ⟨some 104, _, _, _, _, _⟩) (v := .slice A2 ML c2) rfl (by kernel_rfl) (by kernel_rfl) (by kernel_rfl) (fun _ _ _ h => h) (Or.inl ⟨by rfl, fun _ _ => by go_simp⟩) hHeld ?_
      simp only [Act.put, List.setIfInBounds_toArray, List.set_cons_zero, List.set_cons_succ]
      refine wpAnyH_take (i := 7) (oi := ⟨some 105, _, _, _, _, _⟩) (v := .pointer (some ⟨G, 40, none⟩)) rfl (by kernel_rfl) (by kernel_rfl) (by kernel_rfl) (fun _ _ _ h => h) (Or.inl ⟨by rfl, fun _ _ => by go_simp⟩) hHeld ?_
      simp only [Act.put, List.setIfInBounds_toArray, List.set_cons_zero, List.set_cons_succ]
      refine wpAnyH_take (i := 8) (oi := ⟨some 106, _, _, _, _, _⟩) (v := .int .i64 (SEG : Int)) rfl (by kernel_rfl) (by kernel_rfl) (by kernel_rfl) (fun _ _ _ h => h) (Or.inl ⟨by rfl, fun W hW => by have hc := (HK34.out W hW).1; go_simp⟩) hHeld ?_
      simp only [Act.put, List.setIfInBounds_toArray, List.set_cons_zero, List.set_cons_succ]
      refine wpAnyH_take (i := 9) (oi := ⟨some 107, _, _, _, _, _⟩) (v := .pointer (some ⟨G, 41, none⟩)) rfl (by kernel_rfl) (by kernel_rfl) (by kernel_rfl) (fun _ _ _ h => h) (Or.inl ⟨by rfl, fun _ _ => by go_simp⟩) hHeld ?_
      simp only [Act.put, List.setIfInBounds_toArray, List.set_cons_zero, List.set_cons_succ]
      refine wpAnyH_take (i := 10) (oi := ⟨some 108, _, _, _, _, _⟩) (v := .int .i64 (ML : Int)) rfl (by kernel_rfl) (by kernel_rfl) (by kernel_rfl) (fun _ _ _ h => h) (Or.inl ⟨by rfl, fun W hW => by have hc := (HK34.out W hW).2; go_simp⟩) hHeld ?_
      simp only [Act.put, List.setIfInBounds_toArray, List.set_cons_zero, List.set_cons_succ]
      refine wpAnyH_take (i := 11) (oi := ⟨some 109, _, _, _, _, _⟩) (v := .slice (cutA A2 c2 SEG) (sh + len) (c2 - SEG)) rfl (by kernel_rfl) (by kernel_rfl) (by kernel_rfl) (fun _ _ _ h => h) (Or.inl ⟨by rfl, fun W _ => by have hs := HCUT.out W; go_simp⟩) hHeld ?_
      simp only [Act.put, List.setIfInBounds_toArray, List.set_cons_zero, List.set_cons_succ]
      refine wpAnyH_ready (rs := [12]) (by kernel_rfl) (by simp) (AllReadyH.cons (o := ⟨some 110, _, _, _, _, _⟩) rfl (fun K hK => ?_) AllReadyH.nil)
      go_simp
      refine (RI.out _ _ _ (by omega) (HSG.out _ hHeld)).mono ?_
      rintro e w8 ⟨rfl, hb8⟩
      refine hK.out _ _ (hHeld.trans (hb8.mono hHeld.size)) (fun hHeld => ?_)
      clear hK K hb8
      refine wpAnyH_take (i := 13) (oi := ⟨some 111, _, _, _, _, _⟩) (v := .bool true) rfl (by kernel_rfl) (by kernel_rfl) (by kernel_rfl) (fun _ _ _ h => h) (Or.inl ⟨by rfl, fun _ _ => by go_simp⟩) hHeld ?_
      simp only [Act.put, List.setIfInBounds_toArray, List.set_cons_zero, List.set_cons_succ]
      refine wpAnyH_take (i := 14) (oi := ⟨some 112, _, _, _, _, _⟩) (v := .slice A2 ML c2) rfl (by kernel_rfl) (by kernel_rfl) (by kernel_rfl) (fun _ _ _ h => h) (Or.inl ⟨by rfl, fun _ _ => by go_simp⟩) hHeld ?_
      simp only [Act.put, List.setIfInBounds_toArray, List.set_cons_zero, List.set_cons_succ]
      refine wpAnyH_take (i := 15) (oi := ⟨some 113, _, _, _, _, _⟩) (v := .slice A2 ML c2) rfl (by kernel_rfl) (by kernel_rfl) (by kernel_rfl) (fun _ _ _ h => h) (Or.inl ⟨by rfl, fun _ _ => by go_simp⟩) hHeld ?_
      simp only [Act.put, List.setIfInBounds_toArray, List.set_cons_zero, List.set_cons_succ]
      refine wpAnyH_take (i := 16) (oi := ⟨some 114, _, _, _, _, _⟩) (v := .int .i64 (ML : Int)) rfl (by kernel_rfl) (by kernel_rfl) (by kernel_rfl) (fun _ _ _ h => h) (Or.inl ⟨by rfl, fun _ _ => by go_simp⟩) hHeld ?_
      simp only [Act.put, List.setIfInBounds_toArray, List.set_cons_zero, List.set_cons_succ]
      refine wpAnyH_take (i := 17) (oi := ⟨some 115, _, _, _, _, _⟩) (v := .slice B len cb) rfl (by kernel_rfl) (by kernel_rfl) (by kernel_rfl) (fun _ _ _ h => h) (Or.inl ⟨by rfl, fun _ _ => by go_simp⟩) hHeld ?_
      simp only [Act.put, List.setIfInBounds_toArray, List.set_cons_zero, List.set_cons_succ]
      refine wpAnyH_take (i := 18) (oi := ⟨some 116, _, _, _, _, _⟩) (v := .int .i64 (len : Int)) rfl (by kernel_rfl) (by kernel_rfl) (by kernel_rfl) (fun _ _ _ h => h) (Or.inl ⟨by rfl, fun _ _ => by go_simp⟩) hHeld ?_
      simp only [Act.put, List.setIfInBounds_toArray, List.set_cons_zero, List.set_cons_succ]
      refine wpAnyH_take (i := 19) (oi := ⟨some 117, _, _, _, _, _⟩) (v := .int .i64 (QQ : Int)) rfl (by kernel_rfl) (by kernel_rfl) (by kernel_rfl) (fun _ _ _ h => h) (Or.inl ⟨by rfl, fun _ _ => by go_simp⟩) hHeld ?_
      simp only [Act.put, List.setIfInBounds_toArray, List.set_cons_zero, List.set_cons_succ]
      refine wpAnyH_take (i := 20) (oi := ⟨some 118, _, _, _, _, _⟩) (v := .slice (cutA A2 c2 QQ) len (c2 - QQ)) rfl (by kernel_rfl) (by kernel_rfl) (by kernel_rfl) (fun _ _ _ h => h) (Or.inl ⟨by rfl, fun W _ => by have hs := HFRM.out W; go_simp⟩) hHeld ?_
      simp only [Act.put, List.setIfInBounds_toArray, List.set_cons_zero, List.set_cons_succ]
      refine wpAnyH_take (i := 21) (oi := ⟨some 119, _, _, _, _, _⟩) (v := .slice B len cb) rfl (by kernel_rfl) (by kernel_rfl) (by kernel_rfl) (fun _ _ _ h => h) (Or.inl ⟨by rfl, fun _ _ => by go_simp⟩) hHeld ?_
      simp only [Act.put, List.setIfInBounds_toArray, List.set_cons_zero, List.set_cons_succ]
      refine wpAnyH_ready (rs := [22]) (by kernel_rfl) (by simp) (AllReadyH.cons (o := ⟨some 120, _, _, _, _, _⟩) rfl (fun K hK => ?_) AllReadyH.nil)
      rw [if_pos (by rfl)]
      go_simp
      refine (SM.out _ hHeld).mono ?_
      rintro e w9 ⟨rfl, rfl⟩
      refine hK.out _ _ (hHeld) (fun hHeld => ?_)
      clear hK K 
      refine wpAnyH_take (i := 23) (oi := ⟨some 121, _, _, _, _, _⟩) (v := .bool true) rfl (by kernel_rfl) (by kernel_rfl) (by kernel_rfl) (fun _ _ _ h => h) (Or.inl ⟨by rfl, fun _ _ => by go_simp⟩) hHeld ?_
      simp only [Act.put, List.setIfInBounds_toArray, List.set_cons_zero, List.set_cons_succ]
      refine wpAnyH_take (i := 24) (oi := ⟨some 10, _, _, _, _, _⟩) (v := .bool true) rfl (by kernel_rfl) (by kernel_rfl) (by kernel_rfl) (fun _ _ _ h => h) (Or.inl ⟨by rfl, fun _ _ => by go_simp⟩) hHeld ?_
      simp only [Act.put, List.setIfInBounds_toArray, List.set_cons_zero, List.set_cons_succ]
      refine wpAnyH_done (by kernel_rfl) ?_ _
      go_wp2_with fail
      go_ret
      exact ⟨rfl, HB6.out.trans (hHeld.mono HB6.out.size)⟩
    · have e1 := hno h0
      subst e1
      obtain ⟨K, hK⟩ : ∃ K, whyN L t f len = K := ⟨_, rfl⟩
      rw [hK] at h0 ⊢
      have q1 : ((K : Int) != 0) = true := by simp; omega
      have q2 : (K != 0) = true := by simp [h0]
      clear hno hyes hK h0 hb2
      go_wp2_with fail
      go_ret
      exact ⟨rfl, HB2.out⟩

theorem packetBack_walks : WalksTrue 5 Try.f5 := by
  intro H enc W base args ds p hval hA
  rw [Try.params5] at hA hval
  obtain ⟨v0, vs0, d0, ds0, p0, q0, hargs, rfl, rfl, h0, r0⟩ := trodAll_cons hA
  obtain ⟨v1, vs1, d1, ds1, p1, q1, rfl, rfl, rfl, h1, r1⟩ := trodAll_cons r0
  obtain ⟨v2, vs2, d2, ds2, p2, q2, rfl, rfl, rfl, h2, r2⟩ := trodAll_cons r1
  obtain ⟨v3, vs3, d3, ds3, p3, q3, rfl, rfl, rfl, h3, r3⟩ := trodAll_cons r2
  obtain ⟨v4, vs4, d4, ds4, p4, q4, rfl, rfl, rfl, h4, r4⟩ := trodAll_cons r3
  obtain ⟨rfl, rfl, rfl⟩ := trodAll_nil r4
  obtain rfl : args = #[v0, v1, v2, v3, v4] := by cases args; simp_all
  obtain ⟨L0, A0, len0, cap0, rfl, s0, hc0, hm0, hI0⟩ := open_link (hval 0 36 v0 rfl rfl) h0
  obtain ⟨t1, rfl, o1⟩ := open_tuple (hval 1 28 v1 rfl rfl) h1
  obtain ⟨a2, rfl, rfl, rfl, w2⟩ := open_int Try.underlying3 (hval 2 3 v2 rfl rfl) h2
  obtain ⟨g2a, g2b⟩ := range_i64 w2
  obtain ⟨A3, len3, cap3, xs3, rfl, hc3, hm3, hI3⟩ := open_bytes (hval 3 22 v3 rfl rfl) h3
  obtain ⟨A4, len4, cap4, xs4, rfl, hc4, hm4, hI4⟩ := open_bytes (hval 4 22 v4 rfl rfl) h4
  exact packetBack_walk L0 s0 A0 len0 cap0 hc0 hm0 t1 o1 a2 g2a g2b A3 len3 cap3 xs3 hc3 hm3 A4 len4 cap4 xs4 hc4 hm4 W hI0 hI3 hI4

theorem packetBack_said : Rows.PacketBackSaid :=
  OpenClaim.holds_of_wide 5 Try.f5 rfl rfl rfl rfl rfl rfl rfl ⟨rfl, rfl, rfl, rfl, rfl⟩ rfl rfl rfl rfl rfl (by kernel_rfl) Try.func5 (by kernel_rfl)
    (of_decide_eq_true (by kernel_rfl)) (by unfold Func.isWrapper; first | (rw [if_pos (by decide +kernel)]; kernel_rfl) | (rw [if_neg (by decide +kernel)]; exact ⟨rfl, rfl⟩))
    (fun os started H enc _ => law_lift (s := Rows.packetBackSpec) Try.func5 (by kernel_rfl) rfl rfl (by intro H ds hd; match ds, hd with | [_, _, _, _, _], _ => exact ⟨rfl, rfl, rfl⟩) (by kernel_rfl) packetBack_walks os started H enc
      (ChangeSpec.witness6 (enc := enc) (C := Try.checked) false ⟨#[], #[.agg #[.int .u8 0, .int .u8 0, .int .u8 0, .int .u8 0, .int .u8 0, .int .u8 0, .int .u8 0, .int .u8 0, .int .u8 0, .int .u8 0, .int .u8 0, .int .u8 0, .slice none 0 0, .int .i64 0, .int .i64 0], .agg #[.bool false, .int .u8 0, .int .u8 0, .int .u8 0, .int .u8 0, .int .u8 0, .int .u8 0, .int .u8 0, .int .u8 0, .int .u8 0, .int .u8 0, .int .u8 0, .int .u8 0, .int .u8 0, .int .u8 0, .int .u8 0, .int .u8 0, .bool false, .int .u8 0, .int .u8 0, .int .u8 0, .int .u8 0, .int .u8 0, .int .u8 0, .int .u8 0, .int .u8 0, .int .u8 0, .int .u8 0, .int .u8 0, .int .u8 0, .int .u8 0, .int .u8 0, .int .u8 0, .int .u8 0, .int .i64 0, .int .i64 0, .int .i64 0], .int .i64 0, .slice none 0 0, .slice none 0 0], []⟩ 8 (by kernel_rfl) (by kernel_rfl) (by kernel_rfl) (by kernel_rfl)))

end Go.Proofs.Ytdkaaffghendiaa
