/-
  PROVED HERE: 'PacketTurnsSaid': whatever tuple t and bytes load are, the Go function PacketTurns of package wayleavelaw11 returns true, and its arguments read behind the call as they read before. No condition.
-/
import Derived.Test.YtdkaaffghendiaaKLaw
namespace Go.Proofs.Ytdkaaffghendiaa
set_option maxRecDepth 100000
open Go.RowKit Go.Lib Go.ChangeShapes Go.WideShapes Go.ChangeAt

theorem zero_right (t : Tu) : rightB_7 (typedL Lk.zero t) = true := by
  unfold typedL tyOf
  split <;> rfl
theorem fam_turn (a b : Ad) : famB b a = famB a b := by
  unfold famB
  cases a.six <;> cases b.six <;> simp [Bool.and_comm]
theorem fam_six {a b : Ad} (h : famB a b = true) : b.six = a.six := by
  unfold famB at h
  cases h1 : a.six <;> cases h2 : b.six <;> rw [h1, h2] at h <;> first | rfl | cases h
theorem why_turn (t : Tu) (f : Int) (n : Nat) : whyN Lk.zero (turnT t) f n = whyN Lk.zero t f n := by
  have e : okB Lk.zero (turnT t) f = okB Lk.zero t f := by
    unfold okB
    rw [zero_right, zero_right]
    show (true && (famB t.d t.s && (decide (t.pr = 6 ∨ t.pr = 17) && (decide (0 ≤ t.dp ∧ t.dp ≤ 65535) && (decide (0 ≤ t.sp ∧ t.sp ≤ 65535) && (decide (0 ≤ f ∧ f ≤ 63) && decide (t.pr = 17 → f = 0))))))) = _
    rw [fam_turn]
    cases decide (0 ≤ t.dp ∧ t.dp ≤ 65535) <;> cases decide (0 ≤ t.sp ∧ t.sp ≤ 65535) <;> rfl
  unfold whyN
  rw [e]
  split
  · rfl
  · rename_i h
    have hm := okB_yes (L := Lk.zero) (t := t) (f := f) (by simpa using h)
    have hs := fam_six hm.fam
    have e1 : ihN (turnT t) = ihN t := by unfold ihN; show (if t.d.six = true then 40 else 20) = _; rw [hs]
    rw [e1]
    rfl
theorem turn_ok {t : Tu} {f : Int} (h : MakeOk Lk.zero t f) : MakeOk Lk.zero (turnT t) f := ⟨zero_right _, (fam_turn _ _).trans h.fam, h.pr, h.d0, h.d1, h.s0, h.s1, h.f0, h.f1, h.fu⟩
set_option maxHeartbeats 8000000 in
theorem packetTurns_walk (t : Tu) (ho : t.Ok) (B : Option Addr) (len cb : Nat) (xs : List UInt8) (hcb : len ≤ cb) (hmb : cb ≤ maxLen) (w : World) (hI : Rd w w.heap.size B len xs) :
    Calls Try.prog 8 #[tuC t, .slice B len cb] w fun e w' => e = .returned (.bool true) ∧ Below w.heap.size w w' := by
  have hml : len ≤ 9223372036854775807 := by unfold maxLen at hmb; omega
  obtain ⟨Y, hY⟩ : ∃ Y : World, w.alloc (.cells (tuL t).toArray 28) = Y := ⟨_, rfl⟩
  have HT := Lib.hid (show Blk Y 28 w.heap.size (tuL t) by rw [← hY]; exact Blk_10.new w _ _)
  have HB := Lib.hid (show Below w.heap.size w Y by rw [← hY]; exact (Below.refl w.heap.size w).alloc (Nat.le_refl _) _)
  have HO := Lib.hid ho
  have HRB := Lib.hid (fun W (hB : Below w.heap.size w W) => (hI.below hB).more hB.size)
  have HLEN := Lib.hid hI.len
  have E1 := Lib.hid (show tuC t = .agg (tuL t).toArray from rfl)
  obtain ⟨C1, hC1⟩ : ∃ C, (tuL t).toArray = C := ⟨_, rfl⟩
  rw [E1.out]
  rw [hC1] at hY ⊢
  rw [hC1] at E1
  have HC1 := Lib.hid hC1
  have EQ := Lib.hid hY
  clear hI ho hY hC1
  go_enter Try.func8, Try.ntmps8
  go_wp2_with fail
  rw [EQ.out]
  refine (awake_any _).mono ?_
  rintro e w1 ⟨rfl, hb1⟩
  have HB1 := Lib.hid (HB.out.trans (hb1.mono HB.out.size))
  have HT1 := Lib.hid (HT.out.below HT.out.lt hb1)
  clear hb1
  by_cases hbig : 300 < len
  · have hl' : (300 : Int) < (len : Int) := by omega
    have hlb : decide ((300 : Int) < (len : Int)) = true := decide_eq_true hl'
    clear hbig
    go_wp2_with fail
    refine (awake_any _).mono ?_
    rintro e w2 ⟨rfl, hb2⟩
    go_wp2_with fail
    go_ret
    exact ⟨rfl, HB1.out.trans (hb2.mono HB1.out.size)⟩
  · have hl' : ¬ (300 : Int) < (len : Int) := by omega
    have hlb : decide ((300 : Int) < (len : Int)) = false := decide_eq_false hl'
    have hl1 : len ≤ 100000 := by omega
    have HOU := Lib.hid (turnT_ok HO.out)
    have PT := Lib.hid (fun W => pturn_any HO.out W)
    have RT := Lib.hid (fun W => rturn_any HO.out W)
    have PT2 := Lib.hid (fun W => show Calls Try.prog 19 #[tuC (turnT t)] W fun e w' => e = .returned (tuC t) ∧ Below W.heap.size W w' from pturn_any HOU.out W)
    have MK1 := Lib.hid (fun W (hB : Below w.heap.size w W) => pmake_any zero_six (A := none) (n := 0) (cap := 0) (by omega) HO.out 0 (B := B) (len := len) (cb := cb) (load := xs) hl1 W (TagsAt.nil_ none) (HRB.out W hB))
    have MK2 := Lib.hid (fun W (hB : Below w.heap.size w W) => pmake_any zero_six (A := none) (n := 0) (cap := 0) (by omega) HOU.out 0 (B := B) (len := len) (cb := cb) (load := xs) hl1 W (TagsAt.nil_ none) (HRB.out W hB))
    rw [E1.out] at PT RT MK1
    have E2 := Lib.hid (show tuC (turnT t) = .agg (tuL (turnT t)).toArray from rfl)
    obtain ⟨C2, hC2⟩ : ∃ C, (tuL (turnT t)).toArray = C := ⟨_, rfl⟩
    rw [hC2] at E2
    have HC2 := Lib.hid hC2
    rw [E2.out] at PT RT PT2 MK2
    rw [E1.out] at PT2
    unfold MakeGave at MK1 MK2
    rw [why_turn, HLEN.out] at MK2
    rw [HLEN.out] at MK1
    have NQ1 := Lib.hid (fun W => E2.out ▸ run_neq_tu W HOU.out)
    have NQ2 := Lib.hid (fun W => E1.out ▸ run_neq_tu W HO.out)
    clear hbig hC2
    go_wp2_with (((with_reducible show wpList _ _ _ (⟨some 18, _, _, _, _, _⟩ :: _) _ _); refine wpList_loadM 28 _ rfl (by rfl) w.heap.size 0 (by rfl) (tuL t) (Blk_10.range HT1.out) _ Try.underlying28 rfl (sizeTuL HO.out) ?_; rw [HC1.out]))
    refine (PT.out _).mono ?_
    rintro e w2 ⟨rfl, hb2⟩
    have HB2 := Lib.hid (HB1.out.trans (hb2.mono HB1.out.size))
    have HT2 := Lib.hid (HT1.out.below HT1.out.lt hb2)
    clear hb2
    go_wp2_with (((with_reducible show wpList _ _ _ (⟨none, .store 28 (.tmp 5) _, _, _, _, _⟩ :: _) _ _); refine wpList_storeNewG rfl 28 _ _ rfl (by rfl) (tuL (turnT t)) (by rw [HC2.out]; rfl) (by rw [tuL_len HOU.out]; rfl) (sizeTuL HOU.out) (tuL_one _) ?_; intro w3 hq3 hb3 hz3; clear hz3))
    clear hl' hlb
    have HU3 := Lib.hid hq3
    have HB3 := Lib.hid (HB2.out.trans (hb3.mono HB2.out.size))
    have HT3 := Lib.hid (HT2.out.below HT2.out.lt hb3)
    clear hq3 hb3
    generalize w2.heap.size = U at HU3 ⊢
    refine wp_region_held_drew (S := fun W => Below w3.heap.size w3 W) (by kernel_rfl) ((Below.refl _ _).drew) (fun hHeld => ?_)
    obtain ⟨X, hX⟩ : ∃ X, w3.drew = X := ⟨_, rfl⟩
    rw [hX] at hHeld ⊢
    clear hX
    refine wpAnyH_take (i := 0) (oi := ⟨some 20, _, _, _, _, _⟩) (v := .agg (tuL (turnT t)).toArray) rfl (by kernel_rfl) (by kernel_rfl) (by kernel_rfl) (fun _ _ _ h => h) (yieldsIf_load_mid (by rfl) 28 _ rfl U 0 rfl (tuL (turnT t)) _ (fun W hW => Blk_10.range (HU3.out.below HU3.out.lt hW)) Try.underlying28 rfl (sizeTuL HOU.out)) hHeld ?_
    rw [HC2.out]
    simp only [Act.put, List.setIfInBounds_toArray, List.set_cons_zero, List.set_cons_succ]
    refine wpAnyH_take (i := 1) (oi := ⟨some 21, _, _, _, _, _⟩) (v := .agg (tuL t).toArray) rfl (by kernel_rfl) (by kernel_rfl) (by kernel_rfl) (fun _ _ _ h => h) (yieldsIf_load_mid (by rfl) 28 _ rfl w.heap.size 0 rfl (tuL t) _ (fun W hW => Blk_10.range (HT3.out.below HT3.out.lt hW)) Try.underlying28 rfl (sizeTuL HO.out)) hHeld ?_
    rw [HC1.out]
    simp only [Act.put, List.setIfInBounds_toArray, List.set_cons_zero, List.set_cons_succ]
    refine wpAnyH_ready (rs := [2]) (by kernel_rfl) (by simp) (AllReadyH.cons (o := ⟨some 22, _, _, _, _, _⟩) rfl (fun K hK => ?_) AllReadyH.nil)
    go_simp
    refine (RT.out _).mono ?_
    rintro e w4 ⟨rfl, hb4⟩
    refine hK.out _ _ (hHeld.trans (hb4.mono hHeld.size)) (fun hHeld => ?_)
    clear hK K hb4
    refine wpAnyH_take (i := 3) (oi := ⟨some 23, _, _, _, _, _⟩) (v := .bool false) rfl (by kernel_rfl) (by kernel_rfl) (by kernel_rfl) (fun _ _ _ h => h) (yields_neq (by rfl) 28 _ _ _ rfl C2 C2 (by rfl) (by rfl) guard_tu false NQ1.out) hHeld ?_
    simp only [Act.put, List.setIfInBounds_toArray, List.set_cons_zero, List.set_cons_succ]
    refine wpAnyH_take (i := 4) (oi := ⟨some 24, _, _, _, _, _⟩) (v := .bool false) rfl (by kernel_rfl) (by kernel_rfl) (by kernel_rfl) (fun _ _ _ h => h) (Or.inl ⟨by rfl, fun _ _ => by go_simp⟩) hHeld ?_
    simp only [Act.put, List.setIfInBounds_toArray, List.set_cons_zero, List.set_cons_succ]
    refine wpAnyH_take (i := 5) (oi := ⟨some 25, _, _, _, _, _⟩) (v := .agg (tuL (turnT t)).toArray) rfl (by kernel_rfl) (by kernel_rfl) (by kernel_rfl) (fun _ _ _ h => h) (yieldsIf_load_mid (by rfl) 28 _ rfl U 0 rfl (tuL (turnT t)) _ (fun W hW => Blk_10.range (HU3.out.below HU3.out.lt hW)) Try.underlying28 rfl (sizeTuL HOU.out)) hHeld ?_
    rw [HC2.out]
    simp only [Act.put, List.setIfInBounds_toArray, List.set_cons_zero, List.set_cons_succ]
    refine wpAnyH_take (i := 7) (oi := ⟨some 27, _, _, _, _, _⟩) (v := .agg (tuL t).toArray) rfl (by kernel_rfl) (by kernel_rfl) (by kernel_rfl) (fun _ _ _ h => h) (yieldsIf_load_mid (by rfl) 28 _ rfl w.heap.size 0 rfl (tuL t) _ (fun W hW => Blk_10.range (HT3.out.below HT3.out.lt hW)) Try.underlying28 rfl (sizeTuL HO.out)) hHeld ?_
    rw [HC1.out]
    simp only [Act.put, List.setIfInBounds_toArray, List.set_cons_zero, List.set_cons_succ]
    refine wpAnyH_ready (rs := [6]) (by kernel_rfl) (by simp) (AllReadyH.cons (o := ⟨some 26, _, _, _, _, _⟩) rfl (fun K hK => ?_) AllReadyH.nil)
    rw [if_pos (by rfl)]
    go_simp
    refine (PT2.out _).mono ?_
    rintro e w4 ⟨rfl, hb4⟩
    refine hK.out _ _ (hHeld.trans (hb4.mono hHeld.size)) (fun hHeld => ?_)
    clear hK K hb4
    refine wpAnyH_take (i := 8) (oi := ⟨some 28, _, _, _, _, _⟩) (v := .bool false) rfl (by kernel_rfl) (by kernel_rfl) (by kernel_rfl) (fun _ _ _ h => h) (yields_neq (by rfl) 28 _ _ _ rfl C1 C1 (by rfl) (by rfl) guard_tu false NQ2.out) hHeld ?_
    simp only [Act.put, List.setIfInBounds_toArray, List.set_cons_zero, List.set_cons_succ]
    refine wpAnyH_take (i := 9) (oi := ⟨some 29, _, _, _, _, _⟩) (v := .bool false) rfl (by kernel_rfl) (by kernel_rfl) (by kernel_rfl) (fun _ _ _ h => h) (Or.inl ⟨by rfl, fun _ _ => by go_simp⟩) hHeld ?_
    simp only [Act.put, List.setIfInBounds_toArray, List.set_cons_zero, List.set_cons_succ]
    refine wpAnyH_done (by kernel_rfl) ?_ _
    have HB5 := Lib.hid (HB3.out.trans (hHeld.mono HB3.out.size))
    have HT5 := Lib.hid (HT3.out.below HT3.out.lt hHeld)
    have HU5 := Lib.hid (HU3.out.below HU3.out.lt hHeld)
    clear hHeld
    by_cases h0 : whyN Lk.zero t 0 len = 0
    · obtain ⟨hok, hsz⟩ := why_zero h0
      have hlen1 := makeK_len zero_six HO.out 0 xs
      have hlen2 := makeK_len zero_six HOU.out 0 xs
      have hih : ihN (turnT t) = ihN t := by unfold ihN; show (if t.d.six = true then 40 else 20) = _; rw [fam_six hok.fam]
      have hsh : shN_ (turnT t) = shN_ t := rfl
      rw [hih, hsh] at hlen2
      obtain ⟨ML, hML⟩ : ∃ k, 14 + 4 * Lk.zero.ts.length + (ihN t + (shN_ t + xs.length)) = k := ⟨_, rfl⟩
      rw [hML] at hlen1 hlen2
      have hMLs : ML ≤ 100000 := by rw [← hML, HLEN.out]; show 14 + 4 * 0 + _ ≤ _; omega
      have HL1 := Lib.hid hlen1
      have HL2 := Lib.hid hlen2
      have HMK := Lib.hid (make_read zero_six HOU.out (turn_ok hok) (load := xs) (by rw [hih, hsh, HLEN.out]; exact hsz) [])
      rw [List.append_nil] at HMK
      rw [h0] at MK1 MK2
      clear h0 hok hsz hlen1 hlen2 hih hsh hML
      go_wp2_with (first
        | ((with_reducible show wpList _ _ _ (⟨some 31, _, _, _, _, _⟩ :: _) _ _); refine wpList_buildw (op := ⟨some 31, _, _, _, _, _⟩) 36 _ rfl (by rfl) _ (by kernel_rfl) (lkL Lk.zero (.slice none 0 0)).toArray built_lk0 ?_)
        | ((with_reducible show wpList _ _ _ (⟨some 32, _, _, _, _, _⟩ :: _) _ _); refine wpList_loadM 28 _ rfl (by rfl) w.heap.size 0 (by rfl) (tuL t) (Blk_10.range HT5.out) _ Try.underlying28 rfl (sizeTuL HO.out) ?_; rw [HC1.out]))
      refine (MK1.out _ HB5.out).mono ?_
      rintro e w6 ⟨_, hyes, hb6⟩
      obtain ⟨v6, rfl, hov6⟩ := hyes trivial
      obtain ⟨A6, c6, rfl, _, _, _⟩ := hov6.formN HL1.out
      have HB6 := Lib.hid (HB5.out.trans (hb6.mono HB5.out.size))
      have HU6 := Lib.hid (HU5.out.below HU5.out.lt hb6)
      clear hyes hov6 hb6
      go_wp2_with (first
        | ((with_reducible show wpList _ _ _ (⟨some 38, _, _, _, _, _⟩ :: _) _ _); refine wpList_buildw (op := ⟨some 38, _, _, _, _, _⟩) 36 _ rfl (by rfl) _ (by kernel_rfl) (lkL Lk.zero (.slice none 0 0)).toArray built_lk0 ?_)
        | ((with_reducible show wpList _ _ _ (⟨some 39, _, _, _, _, _⟩ :: _) _ _); refine wpList_loadM 28 _ rfl (by rfl) U 0 (by rfl) (tuL (turnT t)) (Blk_10.range HU6.out) _ Try.underlying28 rfl (sizeTuL HOU.out) ?_; rw [HC2.out]))
      refine (MK2.out _ HB6.out).mono ?_
      rintro e w7 ⟨_, hyes, hb7⟩
      obtain ⟨v7, rfl, hov7⟩ := hyes trivial
      obtain ⟨A7, c7, rfl, hc7, hm7, hr7⟩ := hov7.formN HL2.out
      have HB7 := Lib.hid (HB6.out.trans (hb7.mono HB6.out.size))
      have HU7 := Lib.hid (HU6.out.below HU6.out.lt hb7)
      obtain ⟨P, hP⟩ : ∃ P, readK (makeK Lk.zero (turnT t) 0 xs) = P := ⟨_, rfl⟩
      have hPt : P.t = turnT t := by rw [← hP, HMK.out]
      have hPo : P.t.Ok := by rw [hPt]; exact HOU.out
      have RD := Lib.hid (fun W (hB : Below w7.heap.size w7 W) => pread_as hP hMLs hc7 hm7 ((hr7.below hB).more hB.size))
      have FP := Lib.hid (fun W => show (Instr.field 30 (pkC P) 1).run Try.prog W = .ok (.agg C2) W by rw [field_pk W hPo, hPt, E2.out])
      have EQ2 := Lib.hid (fun W => E2.out ▸ run_eql_tu W HOU.out)
      clear hyes hov7 hr7 hb7 hP hPt hPo
      go_wp2_with fail
      refine wp_region_held_drew (S := fun W => Below w7.heap.size w7 W) (by kernel_rfl) ((Below.refl _ _).drew) (fun hHeld => ?_)
      obtain ⟨X, hX⟩ : ∃ X, w7.drew = X := ⟨_, rfl⟩
      rw [hX] at hHeld ⊢
      clear hX
      refine wpAnyH_take (i := 0) (oi := ⟨some 44, _, _, _, _, _⟩) (v := .int .i64 0) rfl (by kernel_rfl) (by kernel_rfl) (by kernel_rfl) (fun _ _ _ h => h) (Or.inl ⟨by rfl, fun _ _ => by go_simp⟩) hHeld ?_
      simp only [Act.put, List.setIfInBounds_toArray, List.set_cons_zero, List.set_cons_succ]
      refine wpAnyH_take (i := 1) (oi := ⟨some 45, _, _, _, _, _⟩) (v := .int .i64 0) rfl (by kernel_rfl) (by kernel_rfl) (by kernel_rfl) (fun _ _ _ h => h) (Or.inl ⟨by rfl, fun _ _ => by go_simp⟩) hHeld ?_
      simp only [Act.put, List.setIfInBounds_toArray, List.set_cons_zero, List.set_cons_succ]
      refine wpAnyH_take (i := 2) (oi := ⟨some 46, _, _, _, _, _⟩) (v := .bool true) rfl (by kernel_rfl) (by kernel_rfl) (by kernel_rfl) (fun _ _ _ h => h) (Or.inl ⟨by rfl, fun _ _ => by go_simp⟩) hHeld ?_
      simp only [Act.put, List.setIfInBounds_toArray, List.set_cons_zero, List.set_cons_succ]
      refine wpAnyH_take (i := 3) (oi := ⟨some 47, _, _, _, _, _⟩) (v := .bool true) rfl (by kernel_rfl) (by kernel_rfl) (by kernel_rfl) (fun _ _ _ h => h) (Or.inl ⟨by rfl, fun _ _ => by go_simp⟩) hHeld ?_
      simp only [Act.put, List.setIfInBounds_toArray, List.set_cons_zero, List.set_cons_succ]
      refine wpAnyH_take (i := 4) (oi := ⟨some 48, _, _, _, _, _⟩) (v := .slice A6 ML c6) rfl (by kernel_rfl) (by kernel_rfl) (by kernel_rfl) (fun _ _ _ h => h) (Or.inl ⟨by rfl, fun _ _ => by go_simp⟩) hHeld ?_
      simp only [Act.put, List.setIfInBounds_toArray, List.set_cons_zero, List.set_cons_succ]
      refine wpAnyH_take (i := 5) (oi := ⟨some 49, _, _, _, _, _⟩) (v := .int .i64 (ML : Int)) rfl (by kernel_rfl) (by kernel_rfl) (by kernel_rfl) (fun _ _ _ h => h) (Or.inl ⟨by rfl, fun _ _ => by go_simp⟩) hHeld ?_
      simp only [Act.put, List.setIfInBounds_toArray, List.set_cons_zero, List.set_cons_succ]
      refine wpAnyH_take (i := 6) (oi := ⟨some 50, _, _, _, _, _⟩) (v := .slice A7 ML c7) rfl (by kernel_rfl) (by kernel_rfl) (by kernel_rfl) (fun _ _ _ h => h) (Or.inl ⟨by rfl, fun _ _ => by go_simp⟩) hHeld ?_
      simp only [Act.put, List.setIfInBounds_toArray, List.set_cons_zero, List.set_cons_succ]
      refine wpAnyH_take (i := 7) (oi := ⟨some 51, _, _, _, _, _⟩) (v := .int .i64 (ML : Int)) rfl (by kernel_rfl) (by kernel_rfl) (by kernel_rfl) (fun _ _ _ h => h) (Or.inl ⟨by rfl, fun _ _ => by go_simp⟩) hHeld ?_
      simp only [Act.put, List.setIfInBounds_toArray, List.set_cons_zero, List.set_cons_succ]
      refine wpAnyH_take (i := 8) (oi := ⟨some 52, _, _, _, _, _⟩) (v := .bool true) rfl (by kernel_rfl) (by kernel_rfl) (by kernel_rfl) (fun _ _ _ h => h) (Or.inl ⟨by rfl, fun _ _ => by go_simp⟩) hHeld ?_
      simp only [Act.put, List.setIfInBounds_toArray, List.set_cons_zero, List.set_cons_succ]
      refine wpAnyH_take (i := 9) (oi := ⟨some 53, _, _, _, _, _⟩) (v := .bool true) rfl (by kernel_rfl) (by kernel_rfl) (by kernel_rfl) (fun _ _ _ h => h) (Or.inl ⟨by rfl, fun _ _ => by go_simp⟩) hHeld ?_
      simp only [Act.put, List.setIfInBounds_toArray, List.set_cons_zero, List.set_cons_succ]
      refine wpAnyH_take (i := 10) (oi := ⟨some 54, _, _, _, _, _⟩) (v := .bool true) rfl (by kernel_rfl) (by kernel_rfl) (by kernel_rfl) (fun _ _ _ h => h) (Or.inl ⟨by rfl, fun _ _ => by go_simp⟩) hHeld ?_
      simp only [Act.put, List.setIfInBounds_toArray, List.set_cons_zero, List.set_cons_succ]
      refine wpAnyH_take (i := 11) (oi := ⟨some 55, _, _, _, _, _⟩) (v := .int .i64 0) rfl (by kernel_rfl) (by kernel_rfl) (by kernel_rfl) (fun _ _ _ h => h) (Or.inl ⟨by rfl, fun _ _ => by go_simp⟩) hHeld ?_
      simp only [Act.put, List.setIfInBounds_toArray, List.set_cons_zero, List.set_cons_succ]
      refine wpAnyH_take (i := 12) (oi := ⟨some 56, _, _, _, _, _⟩) (v := .bool false) rfl (by kernel_rfl) (by kernel_rfl) (by kernel_rfl) (fun _ _ _ h => h) (Or.inl ⟨by rfl, fun _ _ => by go_simp⟩) hHeld ?_
      simp only [Act.put, List.setIfInBounds_toArray, List.set_cons_zero, List.set_cons_succ]
      refine wpAnyH_take (i := 13) (oi := ⟨some 57, _, _, _, _, _⟩) (v := .bool false) rfl (by kernel_rfl) (by kernel_rfl) (by kernel_rfl) (fun _ _ _ h => h) (Or.inl ⟨by rfl, fun _ _ => by go_simp⟩) hHeld ?_
      simp only [Act.put, List.setIfInBounds_toArray, List.set_cons_zero, List.set_cons_succ]
      refine wpAnyH_take (i := 14) (oi := ⟨some 58, _, _, _, _, _⟩) (v := .slice A7 ML c7) rfl (by kernel_rfl) (by kernel_rfl) (by kernel_rfl) (fun _ _ _ h => h) (Or.inl ⟨by rfl, fun _ _ => by go_simp⟩) hHeld ?_
      simp only [Act.put, List.setIfInBounds_toArray, List.set_cons_zero, List.set_cons_succ]
      refine wpAnyH_take (i := 17) (oi := ⟨some 61, _, _, _, _, _⟩) (v := .agg (tuL (turnT t)).toArray) rfl (by kernel_rfl) (by kernel_rfl) (by kernel_rfl) (fun _ _ _ h => h) (yieldsIf_load_mid (by rfl) 28 _ rfl U 0 rfl (tuL (turnT t)) _ (fun W hW => Blk_10.range (HU7.out.below HU7.out.lt hW)) Try.underlying28 rfl (sizeTuL HOU.out)) hHeld ?_
      rw [HC2.out]
      simp only [Act.put, List.setIfInBounds_toArray, List.set_cons_zero, List.set_cons_succ]
      refine wpAnyH_ready (rs := [15]) (by kernel_rfl) (by simp) (AllReadyH.cons (o := ⟨some 59, _, _, _, _, _⟩) rfl (fun K hK => ?_) AllReadyH.nil)
      rw [if_pos (by rfl)]
      go_simp
      refine (RD.out _ hHeld).mono ?_
      rintro e w8 ⟨rfl, hb8⟩
      refine hK.out _ _ (hHeld.trans (hb8.mono hHeld.size)) (fun hHeld => ?_)
      clear hK K hb8
      refine wpAnyH_take (i := 16) (oi := ⟨some 60, _, _, _, _, _⟩) (v := .agg C2) rfl (by kernel_rfl) (by kernel_rfl) (by kernel_rfl) (fun _ _ _ h => h) (Or.inl ⟨by rfl, fun W _ => by have hf := FP.out W; go_simp⟩) hHeld ?_
      simp only [Act.put, List.setIfInBounds_toArray, List.set_cons_zero, List.set_cons_succ]
      refine wpAnyH_take (i := 18) (oi := ⟨some 62, _, _, _, _, _⟩) (v := .bool true) rfl (by kernel_rfl) (by kernel_rfl) (by kernel_rfl) (fun _ _ _ h => h) (yields_eql (by rfl) 28 _ _ _ rfl C2 C2 (by rfl) (by rfl) guard_tu true EQ2.out) hHeld ?_
      simp only [Act.put, List.setIfInBounds_toArray, List.set_cons_zero, List.set_cons_succ]
      refine wpAnyH_take (i := 19) (oi := ⟨some 63, _, _, _, _, _⟩) (v := .bool true) rfl (by kernel_rfl) (by kernel_rfl) (by kernel_rfl) (fun _ _ _ h => h) (Or.inl ⟨by rfl, fun _ _ => by go_simp⟩) hHeld ?_
      simp only [Act.put, List.setIfInBounds_toArray, List.set_cons_zero, List.set_cons_succ]
      refine wpAnyH_take (i := 20) (oi := ⟨some 64, _, _, _, _, _⟩) (v := .bool true) rfl (by kernel_rfl) (by kernel_rfl) (by kernel_rfl) (fun _ _ _ h => h) (Or.inl ⟨by rfl, fun _ _ => by go_simp⟩) hHeld ?_
      simp only [Act.put, List.setIfInBounds_toArray, List.set_cons_zero, List.set_cons_succ]
      refine wpAnyH_take (i := 21) (oi := ⟨some 4, _, _, _, _, _⟩) (v := .bool true) rfl (by kernel_rfl) (by kernel_rfl) (by kernel_rfl) (fun _ _ _ h => h) (Or.inl ⟨by rfl, fun _ _ => by go_simp⟩) hHeld ?_
      simp only [Act.put, List.setIfInBounds_toArray, List.set_cons_zero, List.set_cons_succ]
      refine wpAnyH_done (by kernel_rfl) ?_ _
      go_wp2_with fail
      go_ret
      exact ⟨rfl, HB7.out.trans (hHeld.mono HB7.out.size)⟩
    · obtain ⟨KK, hKK⟩ : ∃ K, whyN Lk.zero t 0 len = K := ⟨_, rfl⟩
      rw [hKK] at MK1 MK2 h0
      have q1 : ((KK : Int) == (KK : Int)) = true := by simp
      have q2 : ((KK : Int) != 0) = true := by simp; omega
      have q3 : (KK != 0) = true := by simp [h0]
      have HK0 := Lib.hid h0
      clear hKK h0
      go_wp2_with (first
        | ((with_reducible show wpList _ _ _ (⟨some 31, _, _, _, _, _⟩ :: _) _ _); refine wpList_buildw (op := ⟨some 31, _, _, _, _, _⟩) 36 _ rfl (by rfl) _ (by kernel_rfl) (lkL Lk.zero (.slice none 0 0)).toArray built_lk0 ?_)
        | ((with_reducible show wpList _ _ _ (⟨some 32, _, _, _, _, _⟩ :: _) _ _); refine wpList_loadM 28 _ rfl (by rfl) w.heap.size 0 (by rfl) (tuL t) (Blk_10.range HT5.out) _ Try.underlying28 rfl (sizeTuL HO.out) ?_; rw [HC1.out]))
      refine (MK1.out _ HB5.out).mono ?_
      rintro e w6 ⟨hno, _, hb6⟩
      have e6 := hno HK0.out
      subst e6
      have HB6 := Lib.hid (HB5.out.trans (hb6.mono HB5.out.size))
      have HU6 := Lib.hid (HU5.out.below HU5.out.lt hb6)
      clear hno hb6
      go_wp2_with (first
        | ((with_reducible show wpList _ _ _ (⟨some 38, _, _, _, _, _⟩ :: _) _ _); refine wpList_buildw (op := ⟨some 38, _, _, _, _, _⟩) 36 _ rfl (by rfl) _ (by kernel_rfl) (lkL Lk.zero (.slice none 0 0)).toArray built_lk0 ?_)
        | ((with_reducible show wpList _ _ _ (⟨some 39, _, _, _, _, _⟩ :: _) _ _); refine wpList_loadM 28 _ rfl (by rfl) U 0 (by rfl) (tuL (turnT t)) (Blk_10.range HU6.out) _ Try.underlying28 rfl (sizeTuL HOU.out) ?_; rw [HC2.out]))
      refine (MK2.out _ HB6.out).mono ?_
      rintro e w7 ⟨hno, _, hb7⟩
      have e7 := hno HK0.out
      subst e7
      have HB7 := Lib.hid (HB6.out.trans (hb7.mono HB6.out.size))
      clear hno hb7
      go_wp2_with fail
      refine wp_region_held_drew (S := fun W => Below w7.heap.size w7 W) (by kernel_rfl) ((Below.refl _ _).drew) (fun hHeld => ?_)
      obtain ⟨X, hX⟩ : ∃ X, w7.drew = X := ⟨_, rfl⟩
      rw [hX] at hHeld ⊢
      clear hX
      refine wpAnyH_take (i := 0) (oi := ⟨some 44, _, _, _, _, _⟩) (v := .int .i64 (KK : Int)) rfl (by kernel_rfl) (by kernel_rfl) (by kernel_rfl) (fun _ _ _ h => h) (Or.inl ⟨by rfl, fun _ _ => by go_simp⟩) hHeld ?_
      simp only [Act.put, List.setIfInBounds_toArray, List.set_cons_zero, List.set_cons_succ]
      refine wpAnyH_take (i := 1) (oi := ⟨some 45, _, _, _, _, _⟩) (v := .int .i64 (KK : Int)) rfl (by kernel_rfl) (by kernel_rfl) (by kernel_rfl) (fun _ _ _ h => h) (Or.inl ⟨by rfl, fun _ _ => by go_simp⟩) hHeld ?_
      simp only [Act.put, List.setIfInBounds_toArray, List.set_cons_zero, List.set_cons_succ]
      refine wpAnyH_take (i := 2) (oi := ⟨some 46, _, _, _, _, _⟩) (v := .bool true) rfl (by kernel_rfl) (by kernel_rfl) (by kernel_rfl) (fun _ _ _ h => h) (Or.inl ⟨by rfl, fun _ _ => by go_simp⟩) hHeld ?_
      simp only [Act.put, List.setIfInBounds_toArray, List.set_cons_zero, List.set_cons_succ]
      refine wpAnyH_take (i := 3) (oi := ⟨some 47, _, _, _, _, _⟩) (v := .bool true) rfl (by kernel_rfl) (by kernel_rfl) (by kernel_rfl) (fun _ _ _ h => h) (Or.inl ⟨by rfl, fun _ _ => by go_simp⟩) hHeld ?_
      simp only [Act.put, List.setIfInBounds_toArray, List.set_cons_zero, List.set_cons_succ]
      refine wpAnyH_take (i := 4) (oi := ⟨some 48, _, _, _, _, _⟩) (v := .slice none 0 0) rfl (by kernel_rfl) (by kernel_rfl) (by kernel_rfl) (fun _ _ _ h => h) (Or.inl ⟨by rfl, fun _ _ => by go_simp⟩) hHeld ?_
      simp only [Act.put, List.setIfInBounds_toArray, List.set_cons_zero, List.set_cons_succ]
      refine wpAnyH_take (i := 5) (oi := ⟨some 49, _, _, _, _, _⟩) (v := .int .i64 0) rfl (by kernel_rfl) (by kernel_rfl) (by kernel_rfl) (fun _ _ _ h => h) (Or.inl ⟨by rfl, fun _ _ => by go_simp⟩) hHeld ?_
      simp only [Act.put, List.setIfInBounds_toArray, List.set_cons_zero, List.set_cons_succ]
      refine wpAnyH_take (i := 6) (oi := ⟨some 50, _, _, _, _, _⟩) (v := .slice none 0 0) rfl (by kernel_rfl) (by kernel_rfl) (by kernel_rfl) (fun _ _ _ h => h) (Or.inl ⟨by rfl, fun _ _ => by go_simp⟩) hHeld ?_
      simp only [Act.put, List.setIfInBounds_toArray, List.set_cons_zero, List.set_cons_succ]
      refine wpAnyH_take (i := 7) (oi := ⟨some 51, _, _, _, _, _⟩) (v := .int .i64 0) rfl (by kernel_rfl) (by kernel_rfl) (by kernel_rfl) (fun _ _ _ h => h) (Or.inl ⟨by rfl, fun _ _ => by go_simp⟩) hHeld ?_
      simp only [Act.put, List.setIfInBounds_toArray, List.set_cons_zero, List.set_cons_succ]
      refine wpAnyH_take (i := 8) (oi := ⟨some 52, _, _, _, _, _⟩) (v := .bool true) rfl (by kernel_rfl) (by kernel_rfl) (by kernel_rfl) (fun _ _ _ h => h) (Or.inl ⟨by rfl, fun _ _ => by go_simp⟩) hHeld ?_
      simp only [Act.put, List.setIfInBounds_toArray, List.set_cons_zero, List.set_cons_succ]
      refine wpAnyH_take (i := 9) (oi := ⟨some 53, _, _, _, _, _⟩) (v := .bool true) rfl (by kernel_rfl) (by kernel_rfl) (by kernel_rfl) (fun _ _ _ h => h) (Or.inl ⟨by rfl, fun _ _ => by go_simp⟩) hHeld ?_
      simp only [Act.put, List.setIfInBounds_toArray, List.set_cons_zero, List.set_cons_succ]
      refine wpAnyH_take (i := 10) (oi := ⟨some 54, _, _, _, _, _⟩) (v := .bool true) rfl (by kernel_rfl) (by kernel_rfl) (by kernel_rfl) (fun _ _ _ h => h) (Or.inl ⟨by rfl, fun _ _ => by go_simp⟩) hHeld ?_
      simp only [Act.put, List.setIfInBounds_toArray, List.set_cons_zero, List.set_cons_succ]
      refine wpAnyH_take (i := 11) (oi := ⟨some 55, _, _, _, _, _⟩) (v := .int .i64 (KK : Int)) rfl (by kernel_rfl) (by kernel_rfl) (by kernel_rfl) (fun _ _ _ h => h) (Or.inl ⟨by rfl, fun _ _ => by go_simp⟩) hHeld ?_
      simp only [Act.put, List.setIfInBounds_toArray, List.set_cons_zero, List.set_cons_succ]
      refine wpAnyH_take (i := 12) (oi := ⟨some 56, _, _, _, _, _⟩) (v := .bool true) rfl (by kernel_rfl) (by kernel_rfl) (by kernel_rfl) (fun _ _ _ h => h) (Or.inl ⟨by rfl, fun _ _ => by go_simp⟩) hHeld ?_
      simp only [Act.put, List.setIfInBounds_toArray, List.set_cons_zero, List.set_cons_succ]
      refine wpAnyH_take (i := 13) (oi := ⟨some 57, _, _, _, _, _⟩) (v := .bool true) rfl (by kernel_rfl) (by kernel_rfl) (by kernel_rfl) (fun _ _ _ h => h) (Or.inl ⟨by rfl, fun _ _ => by go_simp⟩) hHeld ?_
      simp only [Act.put, List.setIfInBounds_toArray, List.set_cons_zero, List.set_cons_succ]
      refine wpAnyH_take (i := 14) (oi := ⟨some 58, _, _, _, _, _⟩) (v := undef) rfl (by kernel_rfl) (by kernel_rfl) (by kernel_rfl) (fun _ _ _ h => h) (Or.inr ⟨by rfl, rfl⟩) hHeld ?_
      simp only [Act.put, List.setIfInBounds_toArray, List.set_cons_zero, List.set_cons_succ]
      refine wpAnyH_take (i := 15) (oi := ⟨some 59, _, _, _, _, _⟩) (v := undef) rfl (by kernel_rfl) (by kernel_rfl) (by kernel_rfl) (fun _ _ _ h => h) (Or.inr ⟨by rfl, rfl⟩) hHeld ?_
      simp only [Act.put, List.setIfInBounds_toArray, List.set_cons_zero, List.set_cons_succ]
      refine wpAnyH_take (i := 16) (oi := ⟨some 60, _, _, _, _, _⟩) (v := undef) rfl (by kernel_rfl) (by kernel_rfl) (by kernel_rfl) (fun _ _ _ h => h) (Or.inr ⟨by rfl, rfl⟩) hHeld ?_
      simp only [Act.put, List.setIfInBounds_toArray, List.set_cons_zero, List.set_cons_succ]
      refine wpAnyH_take (i := 17) (oi := ⟨some 61, _, _, _, _, _⟩) (v := undef) rfl (by kernel_rfl) (by kernel_rfl) (by kernel_rfl) (fun _ _ _ h => h) (Or.inr ⟨by rfl, rfl⟩) hHeld ?_
      simp only [Act.put, List.setIfInBounds_toArray, List.set_cons_zero, List.set_cons_succ]
      refine wpAnyH_take (i := 18) (oi := ⟨some 62, _, _, _, _, _⟩) (v := undef) rfl (by kernel_rfl) (by kernel_rfl) (by kernel_rfl) (fun _ _ _ h => h) (Or.inr ⟨by rfl, rfl⟩) hHeld ?_
      simp only [Act.put, List.setIfInBounds_toArray, List.set_cons_zero, List.set_cons_succ]
      refine wpAnyH_take (i := 19) (oi := ⟨some 63, _, _, _, _, _⟩) (v := .bool true) rfl (by kernel_rfl) (by kernel_rfl) (by kernel_rfl) (fun _ _ _ h => h) (Or.inl ⟨by rfl, fun _ _ => by go_simp⟩) hHeld ?_
      simp only [Act.put, List.setIfInBounds_toArray, List.set_cons_zero, List.set_cons_succ]
      refine wpAnyH_take (i := 20) (oi := ⟨some 64, _, _, _, _, _⟩) (v := .bool true) rfl (by kernel_rfl) (by kernel_rfl) (by kernel_rfl) (fun _ _ _ h => h) (Or.inl ⟨by rfl, fun _ _ => by go_simp⟩) hHeld ?_
      simp only [Act.put, List.setIfInBounds_toArray, List.set_cons_zero, List.set_cons_succ]
      refine wpAnyH_take (i := 21) (oi := ⟨some 4, _, _, _, _, _⟩) (v := .bool true) rfl (by kernel_rfl) (by kernel_rfl) (by kernel_rfl) (fun _ _ _ h => h) (Or.inl ⟨by rfl, fun _ _ => by go_simp⟩) hHeld ?_
      simp only [Act.put, List.setIfInBounds_toArray, List.set_cons_zero, List.set_cons_succ]
      refine wpAnyH_done (by kernel_rfl) ?_ _
      go_wp2_with fail
      go_ret
      exact ⟨rfl, HB7.out.trans (hHeld.mono HB7.out.size)⟩

theorem packetTurns_walks : WalksTrue 8 Try.f8 := by
  intro H enc W base args ds p hval hA
  rw [Try.params8] at hA hval
  obtain ⟨v0, vs0, d0, ds0, p0, q0, hargs, rfl, rfl, h0, r0⟩ := trodAll_cons hA
  obtain ⟨v1, vs1, d1, ds1, p1, q1, rfl, rfl, rfl, h1, r1⟩ := trodAll_cons r0
  obtain ⟨rfl, rfl, rfl⟩ := trodAll_nil r1
  obtain rfl : args = #[v0, v1] := by cases args; simp_all
  obtain ⟨t0, rfl, o0⟩ := open_tuple (hval 0 28 v0 rfl rfl) h0
  obtain ⟨A1, len1, cap1, xs1, rfl, hc1, hm1, hI1⟩ := open_bytes (hval 1 22 v1 rfl rfl) h1
  exact packetTurns_walk t0 o0 A1 len1 cap1 xs1 hc1 hm1 W hI1

theorem packetTurns_said : Rows.PacketTurnsSaid :=
  OpenClaim.holds_of_wide 8 Try.f8 rfl rfl rfl rfl rfl rfl rfl ⟨rfl, rfl, rfl, rfl, rfl⟩ rfl rfl rfl rfl rfl (by kernel_rfl) Try.func8 (by kernel_rfl)
    (of_decide_eq_true (by kernel_rfl)) (by unfold Func.isWrapper; first | (rw [if_pos (by decide +kernel)]; kernel_rfl) | (rw [if_neg (by decide +kernel)]; exact ⟨rfl, rfl⟩))
    (fun os started H enc _ => law_lift (s := Rows.packetTurnsSpec) Try.func8 (by kernel_rfl) rfl rfl (by intro H ds hd; match ds, hd with | [_, _], _ => exact ⟨rfl, rfl, rfl⟩) (by kernel_rfl) packetTurns_walks os started H enc
      (ChangeSpec.witness6 (enc := enc) (C := Try.checked) false ⟨#[], #[.agg #[.bool false, .int .u8 0, .int .u8 0, .int .u8 0, .int .u8 0, .int .u8 0, .int .u8 0, .int .u8 0, .int .u8 0, .int .u8 0, .int .u8 0, .int .u8 0, .int .u8 0, .int .u8 0, .int .u8 0, .int .u8 0, .int .u8 0, .bool false, .int .u8 0, .int .u8 0, .int .u8 0, .int .u8 0, .int .u8 0, .int .u8 0, .int .u8 0, .int .u8 0, .int .u8 0, .int .u8 0, .int .u8 0, .int .u8 0, .int .u8 0, .int .u8 0, .int .u8 0, .int .u8 0, .int .i64 0, .int .i64 0, .int .i64 0], .slice none 0 0], []⟩ 8 (by kernel_rfl) (by kernel_rfl) (by kernel_rfl) (by kernel_rfl)))

end Go.Proofs.Ytdkaaffghendiaa
