/-
  packet.Make.
-/
import Derived.Test.YtdkaaffghendiaaKPSeg
namespace Go.Proofs.Ytdkaaffghendiaa
set_option maxRecDepth 100000
open Go.RowKit Go.Lib

theorem headK_len {t : Tu} (h : t.Ok) (n : Nat) : (headK t n).length = ihN t := by
  unfold headK ihN
  split
  · exact putF_len_9 (f := six6 t n) ⟨h.s, h.d⟩
  · exact putF_len (f := four4 t n) ⟨h.s, h.d⟩
theorem may_ok (L : Lk) (t : Tu) (f : Int) : (rightB_7 (typedL L t) && mayB t f) = okB L t f := by
  have e1 : (t.s.six == t.d.six && (famO t.s && famO t.d)) = famB t.s t.d := by
    unfold famO famB
    cases t.s.six <;> cases t.d.six <;> simp
  have e3 : isPt t.pr = decide (t.pr = 6 ∨ t.pr = 17) := rfl
  unfold okB mayB
  rw [← e1, e3]
  by_cases h6 : t.pr = 6
  · have e2 : inB f 0 (flI t.pr) = (decide (0 ≤ f ∧ f ≤ 63) && decide (t.pr = 17 → f = 0)) := by
      rw [h6]
      unfold inB flI
      simp
    rw [e2]
    unfold inB
    simp only [Bool.and_assoc]
  · by_cases h17 : t.pr = 17
    · have e2 : inB f 0 (flI t.pr) = (decide (0 ≤ f ∧ f ≤ 63) && decide (t.pr = 17 → f = 0)) := by
        rw [h17]
        unfold inB flI
        apply Bool.eq_iff_iff.2
        simp
        omega
      rw [e2]
      unfold inB
      simp only [Bool.and_assoc]
    · have e2 : decide (t.pr = 6 ∨ t.pr = 17) = false := decide_eq_false (by omega)
      rw [e2]
      simp
theorem sh_ok {L : Lk} {t : Tu} {f : Int} (h : MakeOk L t f) : shI t.pr = shN_ t := by
  unfold shI shN_
  rcases h.pr with e | e <;> rw [e] <;> rfl
/-- What packet.Make answers. -/
def MakeGave (w : World) (L : Lk) (t : Tu) (f : Int) (load : List UInt8) (e : Ending) (w' : World) : Prop :=
  (whyN L t f load.length ≠ 0 → e = .returned (.tuple #[.slice none 0 0, .int .i64 (whyN L t f load.length : Nat)])) ∧
  (whyN L t f load.length = 0 → ∃ v, e = .returned (.tuple #[v, .int .i64 0]) ∧ Own8 w' w.heap.size v (makeK L t f load)) ∧ Below w.heap.size w w'
theorem gave_no {w w' : World} {L : Lk} {t : Tu} {f : Int} {load : List UInt8} {k : Nat} (h : whyN L t f load.length = k) (h0 : k ≠ 0) (hb : Below w.heap.size w w') : MakeGave w L t f load (.returned (.tuple #[.slice none 0 0, .int .i64 (k : Nat)])) w' :=
  ⟨fun _ => by rw [h], fun h1 => absurd (h.symm.trans h1) h0, hb⟩

set_option maxHeartbeats 8000000 in
theorem pmake_4 {L : Lk} (h6 : L.Six) {A : Option Addr} {n cap : Nat} (hn : n ≤ 1000) {t : Tu} (ho : t.Ok) (f : Int) {B : Option Addr} {len cb : Nat} {load : List UInt8} (hlen : len ≤ 100000) (hsx : t.s.six = false) (w : World) (hT : TagsAt w w.heap.size A n L.ts) (hI : Rd w w.heap.size B len load) :
    Calls Try.prog 13 #[lkC L (.slice A n cap), tuC t, .int .i64 f, .slice B len cb] w (MakeGave w L t f load) := by
  have hll := hI.len
  have hih : ihN t = 20 := by unfold ihN; rw [hsx]; rfl
  obtain ⟨Y, hY, hbl, hbt, hb⟩ : ∃ Y : World, (w.alloc (.cells (lkL L (.slice A n cap)).toArray 36)).alloc (.cells (tuL t).toArray 28) = Y ∧ Blk Y 36 w.heap.size (lkL L (.slice A n cap)) ∧ Blk Y 28 (w.heap.size + 1) (tuL t) ∧ Below w.heap.size w Y := by
    refine ⟨_, rfl, (Blk_10.new w 36 _).alloc _, ?_, ((Below.refl w.heap.size w).alloc (Nat.le_refl _) _).alloc (by simp) _⟩
    have := Blk_10.new (w.alloc (.cells (lkL L (.slice A n cap)).toArray 36)) 28 (tuL t)
    rwa [World.size_alloc] at this
  have HL := Lib.hid hbl
  have HT := Lib.hid hbt
  have HB := Lib.hid hb
  have HN := Lib.hid (lk_ty L h6 (.slice A n cap)).1
  have HS1 := Lib.hid (lk_set L h6 (.slice A n cap) 2048)
  have HS2 := Lib.hid (lk_set { L with ty := 2048 } ⟨h6.d, h6.s⟩ (.slice A n cap) 34525)
  have N2 := Lib.hid (lk_ty { L with ty := 2048 } ⟨h6.d, h6.s⟩ (.slice A n cap)).1
  have H6 := Lib.hid h6
  have HO := Lib.hid ho
  have HSX := Lib.hid hsx
  have HTYE := Lib.hid (show typedL L t = { L with ty := 2048 } by unfold typedL tyOf; rw [hsx]; rfl)
  have HTG := Lib.hid (fun W (hB : Below w.heap.size w W) => (hT.below hB).more hB.size)
  have HRB := Lib.hid (fun W (hB : Below w.heap.size w W) => (hI.below hB).more hB.size)
  have HLK := Lib.hid (show (lkB (typedL L t)).length = 14 + 4 * n by rw [lkB_len (typed_six h6 t)]; show 14 + 4 * L.ts.length = _; rw [hT.size])
  have HPN := Lib.hid (fun (h : rightB_7 (typedL L t) = false) W (hB : Below w.heap.size w W) => put_no_7 (typedL L t) (typed_six h6 t) (A := A) (n := n) cap (by omega) ((hT.below hB).more hB.size) h)
  have HPY := Lib.hid (fun (h : rightB_7 (typedL L t) = true) W (hB : Below w.heap.size w W) => put_yes_7 (typedL L t) (typed_six h6 t) (A := A) (n := n) cap ((hT.below hB).more hB.size) h)
  have HMB := Lib.hid (fun W => pmaybe_any ho f W)
  have HMO := Lib.hid (may_ok L t f)
  obtain ⟨sh, hsh⟩ : ∃ k, shI t.pr = k := ⟨_, rfl⟩
  have hsh2 : sh ≤ 20 := by rw [← hsh]; unfold shI; split <;> omega
  have CSH := Lib.hid (fun W => hsh ▸ seghead_any t.pr W)
  have HSH := Lib.hid (fun (hm : MakeOk L t f) => hsh.symm.trans (sh_ok hm))
  have hw1 : IntKind.i64.wrap (20 + (sh : Int)) = 20 + (sh : Int) := by rw [IntKind.wrap_i64]; omega
  have hw2 : IntKind.i64.wrap (65535 - (20 + (sh : Int))) = 65535 - (20 + (sh : Int)) := by rw [IntKind.wrap_i64]; omega
  have hw3 : IntKind.i64.wrap (20 + (sh : Int) + (len : Int)) = 20 + (sh : Int) + (len : Int) := by rw [IntKind.wrap_i64]; omega
  have E0 := Lib.hid (show lkC L (.slice A n cap) = .agg (lkL L (.slice A n cap)).toArray from rfl)
  have E1 := Lib.hid (show tuC t = .agg (tuL t).toArray from rfl)
  have ETL := Lib.hid (show lkC (typedL L t) (.slice A n cap) = .agg (lkL { L with ty := 2048 } (.slice A n cap)).toArray by rw [HTYE.out]; rfl)
  rw [E0.out, E1.out]
  rw [E1.out] at HMB
  rw [ETL.out] at HPN HPY
  obtain ⟨C0, hC0⟩ : ∃ C, (lkL L (.slice A n cap)).toArray = C := ⟨_, rfl⟩
  obtain ⟨C1, hC1⟩ : ∃ C, (tuL t).toArray = C := ⟨_, rfl⟩
  obtain ⟨C2, hC2⟩ : ∃ C, (lkL ({ L with ty := 2048 } : Lk) (.slice A n cap)).toArray = C := ⟨_, rfl⟩
  rw [hC0, hC1] at hY
  rw [hC0, hC1]
  rw [hC1] at HMB E1
  rw [hC2] at HPN HPY
  have HC1 := Lib.hid hC1
  have HC2 := Lib.hid hC2
  have HY := Lib.hid hY
  have HIH := Lib.hid hih
  have HLEN := Lib.hid hll
  have WHY1 := Lib.hid (fun (h : okB L t f = false) => show whyN L t f load.length = 1 from if_pos h)
  have WHY4 := Lib.hid (fun (h : okB L t f = true) (h2 : 65535 < ihN t + (shN_ t + load.length)) => show whyN L t f load.length = 4 by unfold whyN; rw [if_neg (by rw [h]; decide), if_pos h2])
  have H6' := Lib.hid (show ({ L with ty := 2048 } : Lk).Six from ⟨h6.d, h6.s⟩)
  clear hY hbl hbt hb h6 ho hsx hT hI hC0 hC1 hC2 hih hsh hll E0 ETL
  go_enter Try.func13, Try.ntmps13
  go_wp2_with (((with_reducible show wpList _ _ _ (⟨none, .store 3 (.tmp 13) _, _, _, _, _⟩ :: _) _ _); rw [HY.out]; refine wpList_storeI_10 rfl (.tmp 13) _ rfl w.heap.size 13 (by rfl) 2048 (by rfl) 36 _ HL.out L.ty HN.out ?_; intro wa hla hna hba; rw [HS1.out] at hla; have HLa := Lib.hid hla; have HTa := Lib.hid (show Blk wa 28 (w.heap.size + 1) (tuL t) from (hna _ (Nat.succ_ne_self _)).trans HT.out); have d0 : wa.cell? ⟨w.heap.size + 1, 0, none⟩ = some (.bool false) := HSX.out ▸ tu_six HTa.out; obtain ⟨n34, _, _⟩ := tu_num HTa.out HO.out; have HBa := Lib.hid (HB.out.trans (hba.mono (Nat.le_refl _))); clear hla hna hba))
  refine (CSH.out _).mono ?_
  rintro e wc ⟨rfl, rfl⟩
  go_wp2_with (((with_reducible show wpList _ _ _ (⟨some 24, _, _, _, _, _⟩ :: _) _ _); refine wpList_loadM 36 _ rfl (by rfl) w.heap.size 0 (by rfl) (lkL { L with ty := 2048 } (.slice A n cap)) (Blk_10.range HLa.out) _ Try.underlying36 rfl (sizeLkL H6'.out _) ?_; rw [HC2.out]))
  cases hr : rightB_7 (typedL L t) with
  | false =>
    have HK := Lib.hid (WHY1.out (by rw [← HMO.out, hr]; rfl))
    refine (HPN.out hr _ HBa.out).mono ?_
    rintro e w3 ⟨rfl, hb3⟩
    have HB3 := Lib.hid (HBa.out.trans (hb3.mono HBa.out.size))
    clear hb3 hr
    go_wp2_with fail
    go_ret2
    exact gave_no HK.out (by decide) HB3.out
  | true =>
    refine (HPY.out hr _ HBa.out).mono ?_
    rintro e w3 ⟨v3, rfl, ho3, hb3⟩
    obtain ⟨A3, c3, rfl, hc3, hm3, hr3⟩ := ho3.formN HLK.out
    have HB3 := Lib.hid (HBa.out.trans (hb3.mono HBa.out.size))
    have HT3 := Lib.hid (HTa.out.below HTa.out.lt hb3)
    have HR3 := Lib.hid hr3
    clear hb3 ho3 hr3 n34
    try clear d0
    go_wp2_with (((with_reducible show wpList _ _ _ (⟨some 31, _, _, _, _, _⟩ :: _) _ _); refine wpList_loadM 28 _ rfl (by rfl) (w.heap.size + 1) 0 (by rfl) (tuL t) (Blk_10.range HT3.out) _ Try.underlying28 rfl (sizeTuL HO.out) ?_; rw [HC1.out]))
    refine (HMB.out _).mono ?_
    rintro e w4 ⟨rfl, hb4⟩
    have HB4 := Lib.hid (HB3.out.trans (hb4.mono HB3.out.size))
    have HT4 := Lib.hid (HT3.out.below HT3.out.lt hb4)
    have HR4 := Lib.hid ((HR3.out.below hb4).more hb4.size)
    clear hb4
    cases hmb : mayB t f with
    | false =>
      have HK := Lib.hid (WHY1.out (by rw [← HMO.out, hr, hmb]; rfl))
      clear hmb hr
      go_wp2_with fail
      go_ret2
      exact gave_no HK.out (by decide) HB4.out
    | true =>
      have hok : okB L t f = true := by rw [← HMO.out, hr, hmb]; rfl
      have hmk := okB_yes hok
      have HMK := Lib.hid hmk
      have hsn := HSH.out hmk
      have HSN := Lib.hid hsn
      clear hr hmb
      by_cases hbig : 65535 < 20 + (sh + len)
      · have HK := Lib.hid (WHY4.out hok (by rw [HIH.out, ← hsn, HLEN.out]; exact hbig))
        have g1 : 65535 - (20 + (sh : Int)) < (len : Int) := by omega
        have g2 : decide (65535 - (20 + (sh : Int)) < (len : Int)) = true := decide_eq_true g1
        clear hok hmk hsn hbig
        go_wp2_with fail
        go_ret2
        exact gave_no HK.out (by decide) HB4.out
      · have HK := Lib.hid (show whyN L t f load.length = 0 from why_of hmk (by rw [HIH.out, ← hsn, HLEN.out]; omega))
        have g1 : ¬ (65535 - (20 + (sh : Int)) < (len : Int)) := by omega
        have g2 : decide (65535 - (20 + (sh : Int)) < (len : Int)) = false := decide_eq_false g1
        have HN1 := Lib.hid (fun W => nethead_any HO.out hmk (n := shN_ t + len) (by rw [HIH.out, ← hsn]; omega) (20 + (sh : Int) + (len : Int)) (by rw [HIH.out, ← hsn]; omega) W)
        have HSE := Lib.hid (fun W (hB : Below w.heap.size w W) => segment_any HO.out hmk (A := B) (len := len) (cap := cb) (load := load) (by rw [← hsn]; omega) W (HRB.out W hB))
        have HHL := Lib.hid (show (headK t (shN_ t + len)).length = 20 by rw [headK_len HO.out]; exact HIH.out)
        have HFL := Lib.hid (show (fillK t f load).length = sh + len by rw [fillK_len, ← hsn, HLEN.out])
        have h0f : 0 < sh + len := by
          rw [hsn]
          unfold shN_
          split <;> omega
        have hsz : 14 + 4 * n + 20 + (sh + len) ≤ 1000000 := by omega
        have HFIN := Lib.hid (show lkB (typedL L t) ++ (headK t (shN_ t + len) ++ fillK t f load) = makeK L t f load by unfold makeK ipK; rw [segK_len, HLEN.out])
        rw [E1.out] at HN1 HSE
        clear hok hmk hsn hbig
        go_wp2_with fail
        refine wp_region_held_drew (S := fun W => Below w4.heap.size w4 W) (by kernel_rfl) ((Below.refl _ _).drew) (fun hHeld => ?_)
        obtain ⟨X, hX⟩ : ∃ X, w4.drew = X := ⟨_, rfl⟩
        rw [hX] at hHeld ⊢
        clear hX
        refine wpAnyH_take (i := 0) (oi := ⟨some 41, _, _, _, _, _⟩) (v := .slice A3 (14 + 4 * n) c3) rfl (by kernel_rfl) (by kernel_rfl) (by kernel_rfl) (fun _ _ _ h => h) (Or.inl ⟨by rfl, fun _ _ => by go_simp⟩) hHeld ?_
        simp only [Act.put, List.setIfInBounds_toArray, List.set_cons_zero, List.set_cons_succ]
        refine wpAnyH_take (i := 1) (oi := ⟨some 42, _, _, _, _, _⟩) (v := .agg (tuL t).toArray) rfl (by kernel_rfl) (by kernel_rfl) (by kernel_rfl) (fun _ _ _ h => h) (yieldsIf_load_mid (by rfl) 28 _ rfl (w.heap.size + 1) 0 rfl (tuL t) _ (fun W hW => Blk_10.range (HT4.out.below HT4.out.lt hW)) Try.underlying28 rfl (sizeTuL HO.out)) hHeld ?_
        rw [HC1.out]
        simp only [Act.put, List.setIfInBounds_toArray, List.set_cons_zero, List.set_cons_succ]
        refine wpAnyH_take (i := 2) (oi := ⟨some 43, _, _, _, _, _⟩) (v := .int .i64 (20 + (sh : Int))) rfl (by kernel_rfl) (by kernel_rfl) (by kernel_rfl) (fun _ _ _ h => h) (Or.inl ⟨by rfl, fun _ _ => by go_simp⟩) hHeld ?_
        simp only [Act.put, List.setIfInBounds_toArray, List.set_cons_zero, List.set_cons_succ]
        refine wpAnyH_take (i := 3) (oi := ⟨some 44, _, _, _, _, _⟩) (v := .slice B len cb) rfl (by kernel_rfl) (by kernel_rfl) (by kernel_rfl) (fun _ _ _ h => h) (Or.inl ⟨by rfl, fun _ _ => by go_simp⟩) hHeld ?_
        simp only [Act.put, List.setIfInBounds_toArray, List.set_cons_zero, List.set_cons_succ]
        refine wpAnyH_take (i := 4) (oi := ⟨some 45, _, _, _, _, _⟩) (v := .int .i64 (len : Int)) rfl (by kernel_rfl) (by kernel_rfl) (by kernel_rfl) (fun _ _ _ h => h) (Or.inl ⟨by rfl, fun _ _ => by go_simp⟩) hHeld ?_
        simp only [Act.put, List.setIfInBounds_toArray, List.set_cons_zero, List.set_cons_succ]
        refine wpAnyH_take (i := 5) (oi := ⟨some 46, _, _, _, _, _⟩) (v := .int .i64 (20 + (sh : Int) + (len : Int))) rfl (by kernel_rfl) (by kernel_rfl) (by kernel_rfl) (fun _ _ _ h => h) (Or.inl ⟨by rfl, fun _ _ => by go_simp⟩) hHeld ?_
        simp only [Act.put, List.setIfInBounds_toArray, List.set_cons_zero, List.set_cons_succ]
        refine wpAnyH_take (i := 7) (oi := ⟨some 48, _, _, _, _, _⟩) (v := .agg (tuL t).toArray) rfl (by kernel_rfl) (by kernel_rfl) (by kernel_rfl) (fun _ _ _ h => h) (yieldsIf_load_mid (by rfl) 28 _ rfl (w.heap.size + 1) 0 rfl (tuL t) _ (fun W hW => Blk_10.range (HT4.out.below HT4.out.lt hW)) Try.underlying28 rfl (sizeTuL HO.out)) hHeld ?_
        rw [HC1.out]
        simp only [Act.put, List.setIfInBounds_toArray, List.set_cons_zero, List.set_cons_succ]
        refine wpAnyH_take (i := 8) (oi := ⟨some 49, _, _, _, _, _⟩) (v := .int .i64 f) rfl (by kernel_rfl) (by kernel_rfl) (by kernel_rfl) (fun _ _ _ h => h) (Or.inl ⟨by rfl, fun _ _ => by go_simp⟩) hHeld ?_
        simp only [Act.put, List.setIfInBounds_toArray, List.set_cons_zero, List.set_cons_succ]
        refine wpAnyH_take (i := 9) (oi := ⟨some 50, _, _, _, _, _⟩) (v := .slice B len cb) rfl (by kernel_rfl) (by kernel_rfl) (by kernel_rfl) (fun _ _ _ h => h) (Or.inl ⟨by rfl, fun _ _ => by go_simp⟩) hHeld ?_
        simp only [Act.put, List.setIfInBounds_toArray, List.set_cons_zero, List.set_cons_succ]
        refine wpAnyH_ready (rs := [6]) (by kernel_rfl) (by simp) (AllReadyH.cons (o := ⟨some 47, _, _, _, _, _⟩) rfl (fun K hK => ?_) AllReadyH.nil)
        go_simp
        refine (HN1.out _).mono ?_
        rintro e w5 ⟨v5, rfl, ho5, hb5⟩
        obtain ⟨A5, c5, rfl, hc5, hm5, hr5⟩ := ho5.formN HHL.out
        have HR5 := Lib.hid hr5
        have HX5 := Lib.hid (hHeld.trans (hb5.mono hHeld.size))
        clear ho5 hr5 hb5
        refine hK.out _ _ (HX5.out) (fun hHeld => ?_)
        clear hK K 
        refine wpAnyH_ready (rs := [10]) (by kernel_rfl) (by simp) (AllReadyH.cons (o := ⟨some 51, _, _, _, _, _⟩) rfl (fun K hK => ?_) AllReadyH.nil)
        go_simp
        refine (HSE.out _ (HB4.out.trans (hHeld.mono HB4.out.size))).mono ?_
        rintro e w6 ⟨v6, rfl, ho6, hb6⟩
        obtain ⟨A6, c6, rfl, hc6, hm6, hr6⟩ := ho6.formN HFL.out
        have HX6 := Lib.hid (hHeld.trans (hb6.mono hHeld.size))
        have HR4b := Lib.hid ((HR4.out.below HX6.out).more HX6.out.size)
        have HR5b := Lib.hid ((HR5.out.below hb6).more hb6.size)
        have CC := Lib.hid (concat3 w6 HR4b.out HR5b.out hr6 hc3 hc5 hc6 hm3 hm5 hm6 h0f hsz)
        clear ho6 hb6 hr6
        refine hK.out _ _ (HX6.out) (fun hHeld => ?_)
        clear hK K 
        refine wpAnyH_ready (rs := [11]) (by kernel_rfl) (by simp) (AllReadyH.cons (o := ⟨some 52, _, _, _, _, _⟩) rfl (fun K hK => ?_) AllReadyH.nil)
        go_simp
        refine hK.out _ _ (hHeld.alloc hHeld.size _) (fun hHeld => ?_)
        clear hK K 
        refine wpAnyH_ready (rs := [12]) (by kernel_rfl) (by simp) (AllReadyH.cons (o := ⟨some 53, _, _, _, _, _⟩) rfl (fun K hK => ?_) AllReadyH.nil)
        go_simp
        refine CC.out.mono ?_
        rintro e w7 ⟨v7, rfl, ho7, hb7⟩
        have HO7 := Lib.hid ho7
        have HX7 := Lib.hid (HX6.out.trans (hb7.mono HX6.out.size))
        refine hK.out _ _ (HX7.out) (fun hHeld => ?_)
        clear hK K ho7 hb7
        refine wpAnyH_take (i := 13) (oi := ⟨some 8, _, _, _, _, _⟩) (v := v7) rfl (by kernel_rfl) (by kernel_rfl) (by kernel_rfl) (fun _ _ _ h => h) (Or.inl ⟨by rfl, fun _ _ => by go_simp⟩) hHeld ?_
        simp only [Act.put, List.setIfInBounds_toArray, List.set_cons_zero, List.set_cons_succ]
        refine wpAnyH_take (i := 14) (oi := ⟨some 9, _, _, _, _, _⟩) (v := .int .i64 0) rfl (by kernel_rfl) (by kernel_rfl) (by kernel_rfl) (fun _ _ _ h => h) (Or.inl ⟨by rfl, fun _ _ => by go_simp⟩) hHeld ?_
        simp only [Act.put, List.setIfInBounds_toArray, List.set_cons_zero, List.set_cons_succ]
        refine wpAnyH_done (by kernel_rfl) ?_ _
        go_wp2_with fail
        go_ret2
        exact ⟨fun h => absurd HK.out h, fun _ => ⟨v7, rfl, by rw [← HFIN.out]; exact HO7.out.base_le (Nat.le_trans HB4.out.size HX6.out.size)⟩, HB4.out.trans (HX7.out.mono HB4.out.size)⟩

set_option maxHeartbeats 8000000 in
theorem pmake_6 {L : Lk} (h6 : L.Six) {A : Option Addr} {n cap : Nat} (hn : n ≤ 1000) {t : Tu} (ho : t.Ok) (f : Int) {B : Option Addr} {len cb : Nat} {load : List UInt8} (hlen : len ≤ 100000) (hsx : t.s.six = true) (w : World) (hT : TagsAt w w.heap.size A n L.ts) (hI : Rd w w.heap.size B len load) :
    Calls Try.prog 13 #[lkC L (.slice A n cap), tuC t, .int .i64 f, .slice B len cb] w (MakeGave w L t f load) := by
  have hll := hI.len
  have hih : ihN t = 40 := by unfold ihN; rw [hsx]; rfl
  obtain ⟨Y, hY, hbl, hbt, hb⟩ : ∃ Y : World, (w.alloc (.cells (lkL L (.slice A n cap)).toArray 36)).alloc (.cells (tuL t).toArray 28) = Y ∧ Blk Y 36 w.heap.size (lkL L (.slice A n cap)) ∧ Blk Y 28 (w.heap.size + 1) (tuL t) ∧ Below w.heap.size w Y := by
    refine ⟨_, rfl, (Blk_10.new w 36 _).alloc _, ?_, ((Below.refl w.heap.size w).alloc (Nat.le_refl _) _).alloc (by simp) _⟩
    have := Blk_10.new (w.alloc (.cells (lkL L (.slice A n cap)).toArray 36)) 28 (tuL t)
    rwa [World.size_alloc] at this
  have HL := Lib.hid hbl
  have HT := Lib.hid hbt
  have HB := Lib.hid hb
  have HN := Lib.hid (lk_ty L h6 (.slice A n cap)).1
  have HS1 := Lib.hid (lk_set L h6 (.slice A n cap) 2048)
  have HS2 := Lib.hid (lk_set { L with ty := 2048 } ⟨h6.d, h6.s⟩ (.slice A n cap) 34525)
  have N2 := Lib.hid (lk_ty { L with ty := 2048 } ⟨h6.d, h6.s⟩ (.slice A n cap)).1
  have H6 := Lib.hid h6
  have HO := Lib.hid ho
  have HSX := Lib.hid hsx
  have HTYE := Lib.hid (show typedL L t = { L with ty := 34525 } by unfold typedL tyOf; rw [hsx]; rfl)
  have HTG := Lib.hid (fun W (hB : Below w.heap.size w W) => (hT.below hB).more hB.size)
  have HRB := Lib.hid (fun W (hB : Below w.heap.size w W) => (hI.below hB).more hB.size)
  have HLK := Lib.hid (show (lkB (typedL L t)).length = 14 + 4 * n by rw [lkB_len (typed_six h6 t)]; show 14 + 4 * L.ts.length = _; rw [hT.size])
  have HPN := Lib.hid (fun (h : rightB_7 (typedL L t) = false) W (hB : Below w.heap.size w W) => put_no_7 (typedL L t) (typed_six h6 t) (A := A) (n := n) cap (by omega) ((hT.below hB).more hB.size) h)
  have HPY := Lib.hid (fun (h : rightB_7 (typedL L t) = true) W (hB : Below w.heap.size w W) => put_yes_7 (typedL L t) (typed_six h6 t) (A := A) (n := n) cap ((hT.below hB).more hB.size) h)
  have HMB := Lib.hid (fun W => pmaybe_any ho f W)
  have HMO := Lib.hid (may_ok L t f)
  obtain ⟨sh, hsh⟩ : ∃ k, shI t.pr = k := ⟨_, rfl⟩
  have hsh2 : sh ≤ 20 := by rw [← hsh]; unfold shI; split <;> omega
  have CSH := Lib.hid (fun W => hsh ▸ seghead_any t.pr W)
  have HSH := Lib.hid (fun (hm : MakeOk L t f) => hsh.symm.trans (sh_ok hm))
  have hw1 : IntKind.i64.wrap (40 + (sh : Int)) = 40 + (sh : Int) := by rw [IntKind.wrap_i64]; omega
  have hw2 : IntKind.i64.wrap (65535 - (40 + (sh : Int))) = 65535 - (40 + (sh : Int)) := by rw [IntKind.wrap_i64]; omega
  have hw3 : IntKind.i64.wrap (40 + (sh : Int) + (len : Int)) = 40 + (sh : Int) + (len : Int) := by rw [IntKind.wrap_i64]; omega
  have E0 := Lib.hid (show lkC L (.slice A n cap) = .agg (lkL L (.slice A n cap)).toArray from rfl)
  have E1 := Lib.hid (show tuC t = .agg (tuL t).toArray from rfl)
  have ETL := Lib.hid (show lkC (typedL L t) (.slice A n cap) = .agg (lkL { L with ty := 34525 } (.slice A n cap)).toArray by rw [HTYE.out]; rfl)
  rw [E0.out, E1.out]
  rw [E1.out] at HMB
  rw [ETL.out] at HPN HPY
  obtain ⟨C0, hC0⟩ : ∃ C, (lkL L (.slice A n cap)).toArray = C := ⟨_, rfl⟩
  obtain ⟨C1, hC1⟩ : ∃ C, (tuL t).toArray = C := ⟨_, rfl⟩
  obtain ⟨C2, hC2⟩ : ∃ C, (lkL ({ L with ty := 34525 } : Lk) (.slice A n cap)).toArray = C := ⟨_, rfl⟩
  rw [hC0, hC1] at hY
  rw [hC0, hC1]
  rw [hC1] at HMB E1
  rw [hC2] at HPN HPY
  have HC1 := Lib.hid hC1
  have HC2 := Lib.hid hC2
  have HY := Lib.hid hY
  have HIH := Lib.hid hih
  have HLEN := Lib.hid hll
  have WHY1 := Lib.hid (fun (h : okB L t f = false) => show whyN L t f load.length = 1 from if_pos h)
  have WHY4 := Lib.hid (fun (h : okB L t f = true) (h2 : 65535 < ihN t + (shN_ t + load.length)) => show whyN L t f load.length = 4 by unfold whyN; rw [if_neg (by rw [h]; decide), if_pos h2])
  have H6' := Lib.hid (show ({ L with ty := 34525 } : Lk).Six from ⟨h6.d, h6.s⟩)
  clear hY hbl hbt hb h6 ho hsx hT hI hC0 hC1 hC2 hih hsh hll E0 ETL
  go_enter Try.func13, Try.ntmps13
  go_wp2_with (first
    | ((with_reducible show wpList _ _ _ (⟨none, .store 3 (.tmp 13) _, _, _, _, _⟩ :: _) _ _); rw [HY.out]; refine wpList_storeI_10 rfl (.tmp 13) _ rfl w.heap.size 13 (by rfl) 2048 (by rfl) 36 _ HL.out L.ty HN.out ?_; intro wa hla hna hba; rw [HS1.out] at hla; have HLa := Lib.hid hla; have HTa := Lib.hid (show Blk wa 28 (w.heap.size + 1) (tuL t) from (hna _ (Nat.succ_ne_self _)).trans HT.out); have d0 : wa.cell? ⟨w.heap.size + 1, 0, none⟩ = some (.bool true) := HSX.out ▸ tu_six HTa.out; obtain ⟨n34, _, _⟩ := tu_num HTa.out HO.out; have HBa := Lib.hid (HB.out.trans (hba.mono (Nat.le_refl _))); clear hla hna hba)
    | ((with_reducible show wpList _ _ _ (⟨none, .store 3 (.tmp 17) _, _, _, _, _⟩ :: _) _ _); refine wpList_storeI_10 rfl (.tmp 17) _ rfl w.heap.size 13 (by rfl) 34525 (by rfl) 36 _ HLa.out 2048 N2.out ?_; intro wb hlb hnb hbb; rw [HS2.out] at hlb; have HLb := Lib.hid hlb; have HTb := Lib.hid (show Blk wb 28 (w.heap.size + 1) (tuL t) from (hnb _ (Nat.succ_ne_self _)).trans HTa.out); have HBb := Lib.hid (HBa.out.trans (hbb.mono (Nat.le_refl _))); clear d0 n34; obtain ⟨n34, _, _⟩ := tu_num HTb.out HO.out; clear hlb hnb hbb))
  refine (CSH.out _).mono ?_
  rintro e wc ⟨rfl, rfl⟩
  go_wp2_with (((with_reducible show wpList _ _ _ (⟨some 24, _, _, _, _, _⟩ :: _) _ _); refine wpList_loadM 36 _ rfl (by rfl) w.heap.size 0 (by rfl) (lkL { L with ty := 34525 } (.slice A n cap)) (Blk_10.range HLb.out) _ Try.underlying36 rfl (sizeLkL H6'.out _) ?_; rw [HC2.out]))
  cases hr : rightB_7 (typedL L t) with
  | false =>
    have HK := Lib.hid (WHY1.out (by rw [← HMO.out, hr]; rfl))
    refine (HPN.out hr _ HBb.out).mono ?_
    rintro e w3 ⟨rfl, hb3⟩
    have HB3 := Lib.hid (HBb.out.trans (hb3.mono HBb.out.size))
    clear hb3 hr
    go_wp2_with fail
    go_ret2
    exact gave_no HK.out (by decide) HB3.out
  | true =>
    refine (HPY.out hr _ HBb.out).mono ?_
    rintro e w3 ⟨v3, rfl, ho3, hb3⟩
    obtain ⟨A3, c3, rfl, hc3, hm3, hr3⟩ := ho3.formN HLK.out
    have HB3 := Lib.hid (HBb.out.trans (hb3.mono HBb.out.size))
    have HT3 := Lib.hid (HTb.out.below HTb.out.lt hb3)
    have HR3 := Lib.hid hr3
    clear hb3 ho3 hr3 n34
    try clear d0
    go_wp2_with (((with_reducible show wpList _ _ _ (⟨some 31, _, _, _, _, _⟩ :: _) _ _); refine wpList_loadM 28 _ rfl (by rfl) (w.heap.size + 1) 0 (by rfl) (tuL t) (Blk_10.range HT3.out) _ Try.underlying28 rfl (sizeTuL HO.out) ?_; rw [HC1.out]))
    refine (HMB.out _).mono ?_
    rintro e w4 ⟨rfl, hb4⟩
    have HB4 := Lib.hid (HB3.out.trans (hb4.mono HB3.out.size))
    have HT4 := Lib.hid (HT3.out.below HT3.out.lt hb4)
    have HR4 := Lib.hid ((HR3.out.below hb4).more hb4.size)
    clear hb4
    cases hmb : mayB t f with
    | false =>
      have HK := Lib.hid (WHY1.out (by rw [← HMO.out, hr, hmb]; rfl))
      clear hmb hr
      go_wp2_with fail
      go_ret2
      exact gave_no HK.out (by decide) HB4.out
    | true =>
      have hok : okB L t f = true := by rw [← HMO.out, hr, hmb]; rfl
      have hmk := okB_yes hok
      have HMK := Lib.hid hmk
      have hsn := HSH.out hmk
      have HSN := Lib.hid hsn
      clear hr hmb
      by_cases hbig : 65535 < 40 + (sh + len)
      · have HK := Lib.hid (WHY4.out hok (by rw [HIH.out, ← hsn, HLEN.out]; exact hbig))
        have g1 : 65535 - (40 + (sh : Int)) < (len : Int) := by omega
        have g2 : decide (65535 - (40 + (sh : Int)) < (len : Int)) = true := decide_eq_true g1
        clear hok hmk hsn hbig
        go_wp2_with fail
        go_ret2
        exact gave_no HK.out (by decide) HB4.out
      · have HK := Lib.hid (show whyN L t f load.length = 0 from why_of hmk (by rw [HIH.out, ← hsn, HLEN.out]; omega))
        have g1 : ¬ (65535 - (40 + (sh : Int)) < (len : Int)) := by omega
        have g2 : decide (65535 - (40 + (sh : Int)) < (len : Int)) = false := decide_eq_false g1
        have HN1 := Lib.hid (fun W => nethead_any HO.out hmk (n := shN_ t + len) (by rw [HIH.out, ← hsn]; omega) (40 + (sh : Int) + (len : Int)) (by rw [HIH.out, ← hsn]; omega) W)
        have HSE := Lib.hid (fun W (hB : Below w.heap.size w W) => segment_any HO.out hmk (A := B) (len := len) (cap := cb) (load := load) (by rw [← hsn]; omega) W (HRB.out W hB))
        have HHL := Lib.hid (show (headK t (shN_ t + len)).length = 40 by rw [headK_len HO.out]; exact HIH.out)
        have HFL := Lib.hid (show (fillK t f load).length = sh + len by rw [fillK_len, ← hsn, HLEN.out])
        have h0f : 0 < sh + len := by
          rw [hsn]
          unfold shN_
          split <;> omega
        have hsz : 14 + 4 * n + 40 + (sh + len) ≤ 1000000 := by omega
        have HFIN := Lib.hid (show lkB (typedL L t) ++ (headK t (shN_ t + len) ++ fillK t f load) = makeK L t f load by unfold makeK ipK; rw [segK_len, HLEN.out])
        rw [E1.out] at HN1 HSE
        clear hok hmk hsn hbig
        go_wp2_with fail
        refine wp_region_held_drew (S := fun W => Below w4.heap.size w4 W) (by kernel_rfl) ((Below.refl _ _).drew) (fun hHeld => ?_)
        obtain ⟨X, hX⟩ : ∃ X, w4.drew = X := ⟨_, rfl⟩
        rw [hX] at hHeld ⊢
        clear hX
        refine wpAnyH_take (i := 0) (oi := ⟨some 41, _, _, _, _, _⟩) (v := .slice A3 (14 + 4 * n) c3) rfl (by kernel_rfl) (by kernel_rfl) (by kernel_rfl) (fun _ _ _ h => h) (Or.inl ⟨by rfl, fun _ _ => by go_simp⟩) hHeld ?_
        simp only [Act.put, List.setIfInBounds_toArray, List.set_cons_zero, List.set_cons_succ]
        refine wpAnyH_take (i := 1) (oi := ⟨some 42, _, _, _, _, _⟩) (v := .agg (tuL t).toArray) rfl (by kernel_rfl) (by kernel_rfl) (by kernel_rfl) (fun _ _ _ h => h) (yieldsIf_load_mid (by rfl) 28 _ rfl (w.heap.size + 1) 0 rfl (tuL t) _ (fun W hW => Blk_10.range (HT4.out.below HT4.out.lt hW)) Try.underlying28 rfl (sizeTuL HO.out)) hHeld ?_
        rw [HC1.out]
        simp only [Act.put, List.setIfInBounds_toArray, List.set_cons_zero, List.set_cons_succ]
        refine wpAnyH_take (i := 2) (oi := ⟨some 43, _, _, _, _, _⟩) (v := .int .i64 (40 + (sh : Int))) rfl (by kernel_rfl) (by kernel_rfl) (by kernel_rfl) (fun _ _ _ h => h) (Or.inl ⟨by rfl, fun _ _ => by go_simp⟩) hHeld ?_
        simp only [Act.put, List.setIfInBounds_toArray, List.set_cons_zero, List.set_cons_succ]
        refine wpAnyH_take (i := 3) (oi := ⟨some 44, _, _, _, _, _⟩) (v := .slice B len cb) rfl (by kernel_rfl) (by kernel_rfl) (by kernel_rfl) (fun _ _ _ h => h) (Or.inl ⟨by rfl, fun _ _ => by go_simp⟩) hHeld ?_
        simp only [Act.put, List.setIfInBounds_toArray, List.set_cons_zero, List.set_cons_succ]
        refine wpAnyH_take (i := 4) (oi := ⟨some 45, _, _, _, _, _⟩) (v := .int .i64 (len : Int)) rfl (by kernel_rfl) (by kernel_rfl) (by kernel_rfl) (fun _ _ _ h => h) (Or.inl ⟨by rfl, fun _ _ => by go_simp⟩) hHeld ?_
        simp only [Act.put, List.setIfInBounds_toArray, List.set_cons_zero, List.set_cons_succ]
        refine wpAnyH_take (i := 5) (oi := ⟨some 46, _, _, _, _, _⟩) (v := .int .i64 (40 + (sh : Int) + (len : Int))) rfl (by kernel_rfl) (by kernel_rfl) (by kernel_rfl) (fun _ _ _ h => h) (Or.inl ⟨by rfl, fun _ _ => by go_simp⟩) hHeld ?_
        simp only [Act.put, List.setIfInBounds_toArray, List.set_cons_zero, List.set_cons_succ]
        refine wpAnyH_take (i := 7) (oi := ⟨some 48, _, _, _, _, _⟩) (v := .agg (tuL t).toArray) rfl (by kernel_rfl) (by kernel_rfl) (by kernel_rfl) (fun _ _ _ h => h) (yieldsIf_load_mid (by rfl) 28 _ rfl (w.heap.size + 1) 0 rfl (tuL t) _ (fun W hW => Blk_10.range (HT4.out.below HT4.out.lt hW)) Try.underlying28 rfl (sizeTuL HO.out)) hHeld ?_
        rw [HC1.out]
        simp only [Act.put, List.setIfInBounds_toArray, List.set_cons_zero, List.set_cons_succ]
        refine wpAnyH_take (i := 8) (oi := ⟨some 49, _, _, _, _, _⟩) (v := .int .i64 f) rfl (by kernel_rfl) (by kernel_rfl) (by kernel_rfl) (fun _ _ _ h => h) (Or.inl ⟨by rfl, fun _ _ => by go_simp⟩) hHeld ?_
        simp only [Act.put, List.setIfInBounds_toArray, List.set_cons_zero, List.set_cons_succ]
        refine wpAnyH_take (i := 9) (oi := ⟨some 50, _, _, _, _, _⟩) (v := .slice B len cb) rfl (by kernel_rfl) (by kernel_rfl) (by kernel_rfl) (fun _ _ _ h => h) (Or.inl ⟨by rfl, fun _ _ => by go_simp⟩) hHeld ?_
        simp only [Act.put, List.setIfInBounds_toArray, List.set_cons_zero, List.set_cons_succ]
        refine wpAnyH_ready (rs := [6]) (by kernel_rfl) (by simp) (AllReadyH.cons (o := ⟨some 47, _, _, _, _, _⟩) rfl (fun K hK => ?_) AllReadyH.nil)
        go_simp
        refine (HN1.out _).mono ?_
        rintro e w5 ⟨v5, rfl, ho5, hb5⟩
        obtain ⟨A5, c5, rfl, hc5, hm5, hr5⟩ := ho5.formN HHL.out
        have HR5 := Lib.hid hr5
        have HX5 := Lib.hid (hHeld.trans (hb5.mono hHeld.size))
        clear ho5 hr5 hb5
        refine hK.out _ _ (HX5.out) (fun hHeld => ?_)
        clear hK K 
        refine wpAnyH_ready (rs := [10]) (by kernel_rfl) (by simp) (AllReadyH.cons (o := ⟨some 51, _, _, _, _, _⟩) rfl (fun K hK => ?_) AllReadyH.nil)
        go_simp
        refine (HSE.out _ (HB4.out.trans (hHeld.mono HB4.out.size))).mono ?_
        rintro e w6 ⟨v6, rfl, ho6, hb6⟩
        obtain ⟨A6, c6, rfl, hc6, hm6, hr6⟩ := ho6.formN HFL.out
        have HX6 := Lib.hid (hHeld.trans (hb6.mono hHeld.size))
        have HR4b := Lib.hid ((HR4.out.below HX6.out).more HX6.out.size)
        have HR5b := Lib.hid ((HR5.out.below hb6).more hb6.size)
        have CC := Lib.hid (concat3 w6 HR4b.out HR5b.out hr6 hc3 hc5 hc6 hm3 hm5 hm6 h0f hsz)
        clear ho6 hb6 hr6
        refine hK.out _ _ (HX6.out) (fun hHeld => ?_)
        clear hK K 
        refine wpAnyH_ready (rs := [11]) (by kernel_rfl) (by simp) (AllReadyH.cons (o := ⟨some 52, _, _, _, _, _⟩) rfl (fun K hK => ?_) AllReadyH.nil)
        go_simp
        refine hK.out _ _ (hHeld.alloc hHeld.size _) (fun hHeld => ?_)
        clear hK K 
        refine wpAnyH_ready (rs := [12]) (by kernel_rfl) (by simp) (AllReadyH.cons (o := ⟨some 53, _, _, _, _, _⟩) rfl (fun K hK => ?_) AllReadyH.nil)
        go_simp
        refine CC.out.mono ?_
        rintro e w7 ⟨v7, rfl, ho7, hb7⟩
        have HO7 := Lib.hid ho7
        have HX7 := Lib.hid (HX6.out.trans (hb7.mono HX6.out.size))
        refine hK.out _ _ (HX7.out) (fun hHeld => ?_)
        clear hK K ho7 hb7
        refine wpAnyH_take (i := 13) (oi := ⟨some 8, _, _, _, _, _⟩) (v := v7) rfl (by kernel_rfl) (by kernel_rfl) (by kernel_rfl) (fun _ _ _ h => h) (Or.inl ⟨by rfl, fun _ _ => by go_simp⟩) hHeld ?_
        simp only [Act.put, List.setIfInBounds_toArray, List.set_cons_zero, List.set_cons_succ]
        refine wpAnyH_take (i := 14) (oi := ⟨some 9, _, _, _, _, _⟩) (v := .int .i64 0) rfl (by kernel_rfl) (by kernel_rfl) (by kernel_rfl) (fun _ _ _ h => h) (Or.inl ⟨by rfl, fun _ _ => by go_simp⟩) hHeld ?_
        simp only [Act.put, List.setIfInBounds_toArray, List.set_cons_zero, List.set_cons_succ]
        refine wpAnyH_done (by kernel_rfl) ?_ _
        go_wp2_with fail
        go_ret2
        exact ⟨fun h => absurd HK.out h, fun _ => ⟨v7, rfl, by rw [← HFIN.out]; exact HO7.out.base_le (Nat.le_trans HB4.out.size HX6.out.size)⟩, HB4.out.trans (HX7.out.mono HB4.out.size)⟩
/-- packet.Make. -/
theorem pmake_any {L : Lk} (h6 : L.Six) {A : Option Addr} {n cap : Nat} (hn : n ≤ 1000) {t : Tu} (ho : t.Ok) (f : Int) {B : Option Addr} {len cb : Nat} {load : List UInt8} (hlen : len ≤ 100000) (w : World) (hT : TagsAt w w.heap.size A n L.ts) (hI : Rd w w.heap.size B len load) :
    Calls Try.prog 13 #[lkC L (.slice A n cap), tuC t, .int .i64 f, .slice B len cb] w (MakeGave w L t f load) := by
  cases hsx : t.s.six
  · exact pmake_4 h6 hn ho f hlen hsx w hT hI
  · exact pmake_6 h6 hn ho f hlen hsx w hT hI
end Go.Proofs.Ytdkaaffghendiaa
