/-
  The contract of six.Read.
-/
import Derived.Test.YthicbdjambmnpaaSPass
import Derived.Deep.LoopGhost
namespace Go.Proofs.Ythicbdjambmnpaa
open Go.RowKit Go.Lib

theorem walk_fst {xs : List UInt8} {T : Nat} {k : Wk} {r : Nat × Wk} (h : walkOf xs T k = r) : r = walkOf xs T k := h.symm
/-- One extension, by passed. -/
theorem pass_step {xs : List UInt8} {T : Nat} {k : Wk} (hk : k.Fit T) (hT : T ≤ xs.length) :
    passN k.exts k.proto ((xs.drop k.head).take (T - k.head)) = stepF xs T k ∧ (stepF xs T k = 0 → passF (hdAt xs k) k.head k.exts k.proto ((xs.drop k.head).take (T - k.head)) = hdAt xs (stepK xs k)) := by
  obtain ⟨ys, hys⟩ : ∃ ys, (xs.drop k.head).take (T - k.head) = ys := ⟨_, rfl⟩
  have h1 := hk.h1
  have hl : ys.length = T - k.head := by rw [← hys, List.length_take, List.length_drop]; omega
  have hb : ∀ i, i < T - k.head → batN ys i = batN xs (k.head + i) := fun i hi => by rw [← hys, batN_cut _ _ hi]
  rw [hys]
  have e : passN k.exts k.proto ys = stepF xs T k := by
    unfold passN stepF
    rw [hl]
    by_cases h8 : k.exts = 8
    · rw [if_pos h8, if_pos h8]
    · rw [if_neg h8, if_neg h8]
      by_cases hlt : T - k.head < 8
      · rw [if_pos hlt, if_pos hlt]
      · rw [if_neg hlt, if_neg hlt, hb 1 (by omega)]
  refine ⟨e, fun h0 => ?_⟩
  have hge : 8 ≤ T - k.head := by
    unfold stepF at h0
    split at h0
    · omega
    split at h0
    · omega
    omega
  unfold passF
  rw [if_pos (by rw [e]; exact h0), hb 1 (by omega), hb 0 (by omega), show wat ys 2 = wat xs (k.head + 2) by unfold wat; rw [hb 2 (by omega), hb 3 (by omega)]]
  rfl
theorem step_fits {xs : List UInt8} {T : Nat} {k : Wk} (hs : stepF xs T k = 0) (he : k.exts ≤ 8) : k.exts ≤ 7 := by
  unfold stepF at hs
  split at hs
  · omega
  · omega
theorem rd_end {xs : List UInt8} {k : Wk} (hf : faultN xs = 0) (h : walkOf xs (totN xs) k = walkOf xs (totN xs) (wk0 xs)) (hg : goB k = false) : rdF xs = hdAt xs k ∧ rdN xs = 0 := by
  rw [walk_end hg] at h
  have h0 : rdN xs = 0 := by rw [rdN_walk hf, ← h]
  exact ⟨by rw [rdF_yes h0, ← h], h0⟩
theorem rd_stop {xs : List UInt8} {k : Wk} (hf : faultN xs = 0) (h : walkOf xs (totN xs) k = walkOf xs (totN xs) (wk0 xs)) (hg : goB k = true) (he : k.exts ≤ 8) (hs : stepF xs (totN xs) k ≠ 0) : rdF xs = Fr.zero ∧ rdN xs = stepF xs (totN xs) k := by
  rw [walk_bad hg he hs] at h
  have h0 : rdN xs = stepF xs (totN xs) k := by rw [rdN_walk hf, ← h]
  exact ⟨rdF_no (by rw [h0]; exact hs), h0⟩

/-- A header is stored into a cell that was just laid. -/
theorem wpList_storeNew {w : World} {ops : Array Oper} {rest : List Oper} {op : Oper} {a : Act} {Q : Exit → Act → World → Prop} (hgd : op.guard = none) (x y : Operand) (ho : op.op = .store 28 x y)
    (hx : a.eval x = .pointer (some ⟨w.heap.size, 0, none⟩)) (f : Fr) (hf : f.Ok) (hy : a.eval y = frC f)
    (h : ∀ w', Blk w' 28 w.heap.size (frL f) → Below w.heap.size w w' → w'.heap.size = w.heap.size + 1 → wpList Try.prog ops Q rest (a.put op.dst undef) w') :
    wpList Try.prog ops Q (op :: rest) a (w.alloc (.cells #[Value.int .i64 0, .int .i64 0, .int .i64 0, .bool false, .int .i64 0, .int .i64 0, .bool false, .int .u8 0, .int .u8 0, .int .u8 0, .int .u8 0, .int .u8 0, .int .u8 0, .int .u8 0, .int .u8 0, .int .u8 0, .int .u8 0, .int .u8 0, .int .u8 0, .int .u8 0, .int .u8 0, .int .u8 0, .int .u8 0, .bool false, .int .u8 0, .int .u8 0, .int .u8 0, .int .u8 0, .int .u8 0, .int .u8 0, .int .u8 0, .int .u8 0, .int .u8 0, .int .u8 0, .int .u8 0, .int .u8 0, .int .u8 0, .int .u8 0, .int .u8 0, .int .u8 0] 28)) := by
  rw [zeroF]
  have hb := Blk.new w 28 (frL Fr.zero)
  refine wpList_storeR hgd 28 x y ho w.heap.size hx (frL f) hy _ hb (by rw [frL_len hf]; rfl) (sizeFrL hf) (frL_one _) ?_
  refine h _ (hb.setRow_ _) (below_setRow ((Below.refl _ _).alloc (Nat.le_refl _) _) (Nat.le_refl _) _) ?_
  rw [World.setRow]; simp

set_option maxRecDepth 100000 in
set_option maxHeartbeats 4000000 in
theorem read_any (A : Option Addr) (len cap : Nat) (xs : List UInt8) (hlen : len ≤ 1000000) (hcap : len ≤ cap) (hcap2 : cap ≤ maxLen) (w : World) (hI : Rd w w.heap.size A len xs) :
    Calls Try.prog 10 #[.slice A len cap] w (ReadGave w (rdF xs) (rdN xs)) := by
  have HL := Lib.hid hI.len
  have HIW := Lib.hid hI
  obtain ⟨Z, hZ⟩ : ∃ Z : World, w.alloc (.cells (frL Fr.zero).toArray 28) = Z := ⟨_, rfl⟩
  have hR0 : Blk Z 28 w.heap.size (frL Fr.zero) := by rw [← hZ]; exact Blk.new w _ _
  have hB0 : Below w.heap.size w Z := by rw [← hZ]; exact (Below.refl w.heap.size w).alloc (Nat.le_refl _) _
  rw [← zeroF] at hZ
  have HZ := Lib.hid hZ
  have HF := Lib.hid (fault_any A len cap xs hlen hcap hcap2 Z ((hI.below hB0).more hB0.size))
  have HI0 := Lib.hid (hI.below hB0)
  have HR0 := Lib.hid hR0
  have HB0 := Lib.hid hB0
  have HZO := Lib.hid Fr.ok_zero
  clear hZ hI hR0 hB0
  by_cases h0 : faultN xs = 0
  · rw [h0] at HF
    have HF0 := Lib.hid h0
    obtain ⟨h40, _, hTx⟩ := fault_zero h0
    rw [HL.out] at h40 hTx
    have HOK := Lib.hid (fun k : Wk => hdAt_ok xs k (by rw [HL.out]; exact h40))
    have HT40 := Lib.hid (show 40 ≤ totN xs by unfold totN; omega)
    have HTL := Lib.hid (totN_lt xs)
    have HTX := Lib.hid hTx
    clear h0 hTx
    go_enter Try.func10, Try.ntmps10
    go_wp2_with fail
    rw [HZ.out]
    refine HF.out.mono ?_
    rintro e w0 ⟨rfl, hb0⟩
    have HI1 := Lib.hid (HI0.out.below (hb0.mono HB0.out.size))
    have HR1 := Lib.hid (HR0.out.below HR0.out.lt hb0)
    have HB1 := Lib.hid (HB0.out.trans (hb0.mono HB0.out.size))
    clear hb0
    have HH := Lib.hid (header_any A len cap xs h40 hlen hcap hcap2 w0 (HI1.out.more HB1.out.size))
    go_wp2_with fail
    refine HH.out.mono ?_
    rintro e w1 ⟨rfl, hb1⟩
    have HI2 := Lib.hid (HI1.out.below (hb1.mono HB1.out.size))
    have HR2 := Lib.hid (HR1.out.below HR1.out.lt hb1)
    have HB2 := Lib.hid (HB1.out.trans (hb1.mono HB1.out.size))
    clear hb1 HI0 HR0 HB0 HI1 HR1 HB1 HF HH HZ
    go_wp2_with ((with_reducible show wpList _ _ _ _ _ _); refine wpList_storeNew rfl (.tmp 5) (.tmp 14) rfl (by rfl) (hdAt xs (wk0 xs)) (HOK.out _) (by rfl) ?_; intro w2 hq2 hb2 hs2; have HG := Lib.hid HR2.out.lt; have HI3 := Lib.hid (HI2.out.below (hb2.mono HB2.out.size)); have HR3 := Lib.hid (HR2.out.below HR2.out.lt hb2); have HB3 := Lib.hid (HB2.out.trans (hb2.mono HB2.out.size)); have HQ3 := Lib.hid hq2; clear hq2 hb2 hs2 HI2 HR2 HB2)
    obtain ⟨G, hG⟩ : ∃ G, w1.heap.size = G := ⟨_, rfl⟩
    rw [hG] at HQ3 HG ⊢
    clear hG
    simp only [Act.put]
    go_loopg [6] 9 (fun gh v6 wr => ∃ k : Wk, k.exts + gh = 9 ∧ walkOf xs (totN xs) k = walkOf xs (totN xs) (wk0 xs) ∧ k.Fit (totN xs) ∧ Blk wr 28 w.heap.size (frL Fr.zero) ∧ Blk wr 28 G (frL (hdAt xs k)) ∧ Below w.heap.size w wr)
    case atStart => exact ⟨wk0 xs, rfl, rfl, wk0_fit HT40.out, HR3.out, HQ3.out, HB3.out⟩
    case round =>
      clear HR3 HQ3 HB3 HI3
      obtain ⟨k, hgh, hwk, hfit, bR, bH, hB⟩ := hrel
      have c5 := bH.cell (i := 5) (v := .int .i64 (k.proto : Nat)) rfl
      have c3 := bH.cell (i := 3) (v := .bool k.frag) rfl
      have HX := Lib.hid (fun W => isext_any (k.proto : Int) W)
      rw [extI_nat] at HX
      have HBR := Lib.hid bR
      have HBH := Lib.hid bH
      have HBB := Lib.hid hB
      have HFIT := Lib.hid hfit
      have HWK := Lib.hid hwk
      have HGH := Lib.hid hgh
      have HO := Lib.hid (HOK.out k)
      have HI4 := Lib.hid (HIW.out.below hB)
      clear bR bH hB hfit hwk hgh
      by_cases hg : goB k = true
      · have hx : extB k.proto = true := by unfold goB at hg; exact (Bool.and_eq_true _ _ ▸ hg).1
        have hfr : k.frag = false := by unfold goB at hg; have := (Bool.and_eq_true _ _ ▸ hg).2; simpa using this
        rw [hfr] at c3
        rw [hx] at HX
        have HGO := Lib.hid hg
        obtain ⟨hpn, hpf⟩ := pass_step HFIT.out (by rw [HL.out]; exact HTX.out)
        have hh0 := HFIT.out.h0
        have hh1 := HFIT.out.h1
        have hTl := HTL.out
        have hTx := HTX.out
        have he := HFIT.out.e
        obtain ⟨b, off, rfl, _⟩ := HI4.out.addr (by omega)
        have HRD := Lib.hid (fun W (hW : Below w.heap.size wr W) => (HI4.out.below hW).cut (l := k.head) (n := totN xs - k.head) (by omega) cap hcap)
        have HP := Lib.hid (fun W (hW : Below w.heap.size wr W) => passed_any HO.out (hd := k.head) (e := k.exts) (p := k.proto) rfl rfl rfl hx (by omega) he _ _ (cap - k.head) _ (by omega) (by omega) (by omega) W ((HRD.out W hW).more (Nat.le_trans HBB.out.size hW.size)))
        have hcut := fun W => run_cut8 (some ⟨b, off, none⟩) len cap k.head (totN xs - k.head) (k.head : Int) ((totN xs : Nat) : Int) rfl (by omega) (by omega) W
        obtain ⟨h, hh⟩ : ∃ h, hdAt xs k = h := ⟨_, rfl⟩
        have D0 := Lib.hid (show h.head = (k.head : Int) by rw [← hh]; rfl)
        have D1 := Lib.hid (show h.total = ((totN xs : Nat) : Int) by rw [← hh]; rfl)
        rw [hpn] at HP
        rw [hh] at HP HO HBH hpf
        generalize hpfn : passF h k.head k.exts k.proto ((xs.drop k.head).take (totN xs - k.head)) = pf at HP hpf
        have HPO := Lib.hid (show pf.Ok by rw [← hpfn]; exact pass_ok h HO.out _ _ _ _)
        have HPF := Lib.hid hpf
        have HGO := HGO
        have d0 := HBH.out.drew.cell (i := 0) (v := .int .i64 h.head) rfl
        have d1 := HBH.out.drew.cell (i := 1) (v := .int .i64 h.total) rfl
        rw [D0.out] at d0
        rw [D1.out] at d1
        have HZD := Lib.hid (Below.refl w.heap.size wr).drew
        have HST := Lib.hid (fun h0 : stepF xs (totN xs) k = 0 => step_fits h0 he)
        have HNX := Lib.hid (fun h0 : stepF xs (totN xs) k = 0 => (walk_step HGO.out he h0).symm.trans HWK.out)
        have HFX := Lib.hid (fun h0 : stepF xs (totN xs) k = 0 => stepK_fit HFIT.out h0)
        have HSB := Lib.hid (fun h0 : stepF xs (totN xs) k ≠ 0 => rd_stop HF0.out HWK.out HGO.out he h0)
        clear HWK HFIT
        generalize stepF xs (totN xs) k = sn at *
        generalize hhd : k.head = hd at *
        generalize hTT : totN xs = TT at *
        obtain ⟨n, hn⟩ : ∃ n, TT - hd = n := ⟨_, rfl⟩
        rw [hn] at HP hcut
        clear hpn hpfn hpf hx hg hn HI4 HRD
        go_wp2_with fail
        refine (HX.out _).mono ?_
        rintro e w5 ⟨rfl, rfl⟩
        go_wp2_with fail
        refine wp_region_any (by kernel_rfl) ?_
        try (change wpAny _ _ _ _ _ _ _ (World.drew _))
        refine wpAny_take (i := 1) (oi := ⟨some 25, _, _, _, _, _⟩) (v := .slice (some ⟨b, off, none⟩) len cap) rfl (by kernel_rfl) (by kernel_rfl) (by kernel_rfl) (fun _ _ _ h => h) (Or.inl ⟨by rfl, fun _ => by go_simp⟩) ?_
        simp only [Act.put, List.setIfInBounds_toArray, List.set_cons_zero, List.set_cons_succ]
        refine wpAny_take (i := 2) (oi := ⟨some 26, _, _, _, _, _⟩) (v := .pointer (some ⟨G, 0, none⟩)) rfl (by kernel_rfl) (by kernel_rfl) (by kernel_rfl) (fun _ _ _ h => h) (Or.inl ⟨by rfl, fun _ => by go_simp⟩) ?_
        simp only [Act.put, List.setIfInBounds_toArray, List.set_cons_zero, List.set_cons_succ]
        refine wpAny_take (i := 4) (oi := ⟨some 28, _, _, _, _, _⟩) (v := .pointer (some ⟨G, 1, none⟩)) rfl (by kernel_rfl) (by kernel_rfl) (by kernel_rfl) (fun _ _ _ h => h) (Or.inl ⟨by rfl, fun _ => by go_simp⟩) ?_
        simp only [Act.put, List.setIfInBounds_toArray, List.set_cons_zero, List.set_cons_succ]
        refine wpAny_ready (rs := [0, 3, 5]) (by kernel_rfl) (by simp) ?_
        refine AllReady.cons (o := ⟨some 24, _, _, _, _, _⟩) rfl (fun K hK => ?_) ?_
        · rw [if_pos (by rfl)]
          refine wp_load_mid 28 _ rfl G 0 (by rfl) (frL h) _ HBH.out.drew.range Try.underlying28 rfl (sizeFrL HO.out) (hK _ _ ?_)
          simp only [Act.put, List.setIfInBounds_toArray, List.set_cons_zero, List.set_cons_succ]
          clear hK K
          refine wpAny_ready (rs := [3, 5]) (by kernel_rfl) (by simp) ?_
          refine AllReady.cons (o := ⟨some 27, _, _, _, _, _⟩) rfl (fun K hK => ?_) ?_
          · go_simp
            refine hK _ _ ?_
            clear hK K
            refine wpAny_ready (rs := [5]) (by kernel_rfl) (by simp) ?_
            refine AllReady.cons (o := ⟨some 29, _, _, _, _, _⟩) rfl (fun K hK => ?_) ?_
            · go_simp
              refine hK _ _ ?_
              clear hK K
              refine wpAny_take (i := 6) (oi := ⟨some 30, _, _, _, _, _⟩) (v := .slice (cutA (some ⟨b, off, none⟩) cap hd) n (cap - hd)) rfl (by kernel_rfl) (by kernel_rfl) (by kernel_rfl) (fun _ _ _ h => h) (Or.inl ⟨by rfl, fun _ => by go_simp⟩) ?_
              simp only [Act.put, List.setIfInBounds_toArray, List.set_cons_zero, List.set_cons_succ]
              refine wpAny_ready (rs := [7]) (by kernel_rfl) (by simp) (AllReady.cons (o := ⟨some 31, _, _, _, _, _⟩) rfl (fun K hK => ?_) AllReady.nil)
              go_simp
              refine (HP.out _ HZD.out).mono ?_
              rintro e6 w6 ⟨rfl, hb6⟩
              refine hK _ _ ?_
              clear hK K
              have HR6 := Lib.hid (HBR.out.drew.below HBR.out.lt hb6)
              have HG6 := Lib.hid (HBH.out.drew.below HBH.out.lt hb6)
              have HB6 := Lib.hid (HBB.out.trans (HZD.out.trans (hb6.mono HBB.out.size)))
              clear hb6
              refine wpAny_take (i := 8) (oi := ⟨some 23, _, _, _, _, _⟩) (v := .tuple #[frC pf, .int .i64 (sn : Int)]) rfl (by kernel_rfl) (by kernel_rfl) (by kernel_rfl) (fun _ _ _ h => h) (Or.inl ⟨by rfl, fun _ => by go_simp⟩) ?_
              simp only [Act.put, List.setIfInBounds_toArray, List.set_cons_zero, List.set_cons_succ]
              refine wpAny_take (i := 9) (oi := ⟨some 32, _, _, _, _, _⟩) (v := frC pf) rfl (by kernel_rfl) (by kernel_rfl) (by kernel_rfl) (fun _ _ _ h => h) (Or.inl ⟨by rfl, fun _ => by go_simp⟩) ?_
              simp only [Act.put, List.setIfInBounds_toArray, List.set_cons_zero, List.set_cons_succ]
              refine wpAny_take (i := 10) (oi := ⟨some 33, _, _, _, _, _⟩) (v := .int .i64 (sn : Int)) rfl (by kernel_rfl) (by kernel_rfl) (by kernel_rfl) (fun _ _ _ h => h) (Or.inl ⟨by rfl, fun _ => by go_simp⟩) ?_
              simp only [Act.put, List.setIfInBounds_toArray, List.set_cons_zero, List.set_cons_succ]
              refine wpAny_ready (rs := [11]) (by kernel_rfl) (by simp) (AllReady.cons (o := ⟨none, _, _, _, _, _⟩) rfl (fun K hK => ?_) AllReady.nil)
              refine step_storeR rfl 28 _ _ rfl G (by rfl) (frL pf) (by rfl) _ HG6.out (by rw [frL_len HPO.out, frL_len HO.out]) (sizeFrL HPO.out) (frL_one _) ?_
              refine hK _ _ ?_
              clear hK K
              have HR7 := Lib.hid (HR6.out.setRow_far (b := G) (Nat.ne_of_lt HG.out) (frL pf).toArray)
              have HG7 := Lib.hid (HG6.out.setRow_ (frL pf))
              have HB7 := Lib.hid (below_setRow HB6.out (Nat.le_of_lt HG.out) (frL pf).toArray)
              clear HR6 HG6 HB6
              refine wpAny_take (i := 12) (oi := ⟨some 6, _, _, _, _, _⟩) (v := .int .i64 (sn : Int)) rfl (by kernel_rfl) (by kernel_rfl) (by kernel_rfl) (fun _ _ _ h => h) (Or.inl ⟨by rfl, fun _ => by go_simp⟩) ?_
              simp only [Act.put, List.setIfInBounds_toArray, List.set_cons_zero, List.set_cons_succ]
              refine wpAny_done (by kernel_rfl) ?_ _
              generalize w6.setRow G (frL pf).toArray = w7 at *
              by_cases hsn : sn = 0
              · have n0 : ((sn : Int) != 0) = false := by simp; omega
                go_wp2_with fail
                go_roundg (gk - 1)
                case measure => have := HGH.out; have := HST.out hsn; omega
                case rel => exact ⟨stepK xs k, by have := HGH.out; have := HST.out hsn; show k.exts + 1 + (gk - 1) = 9; omega, HNX.out hsn, HFX.out hsn, HR7.out, by rw [← HPF.out hsn]; exact HG7.out, HB7.out⟩
              · have n1 : ((sn : Int) != 0) = true := by simp; omega
                have Q := Lib.hid (HSB.out hsn)
                go_wp2_with (first
                  | ((with_reducible show wpList _ _ _ _ _ _); refine wpList_buildTo rfl 28 _ rfl (some 36) rfl (frL Fr.zero).toArray (by kernel_rfl) ?_)
                  | ((with_reducible show wpList _ _ _ _ _ _); refine wpList_storeR rfl 28 (.tmp 2) (.tmp 36) rfl w.heap.size (by rfl) (frL Fr.zero) (by rfl) _ HR7.out rfl (sizeFrL HZO.out) (frL_one _) ?_))
                refine bodyPost_ret (v := .tuple #[frC Fr.zero, .int .i64 (sn : Int)]) (results_fr rfl _ _ w.heap.size (by rfl) _ HZO.out (HR7.out.setRow_ _) _ (by rfl)) rfl ?_
                exact ⟨by rw [Q.out.1, Q.out.2], below_setRow HB7.out (Nat.le_refl _) _⟩
            exact AllReady.nil
          refine AllReady.cons (o := ⟨some 29, _, _, _, _, _⟩) rfl (fun K hK => ?_) ?_
          · go_simp
            refine hK _ _ ?_
            clear hK K
            refine wpAny_ready (rs := [3]) (by kernel_rfl) (by simp) ?_
            refine AllReady.cons (o := ⟨some 27, _, _, _, _, _⟩) rfl (fun K hK => ?_) ?_
            · go_simp
              refine hK _ _ ?_
              clear hK K
              refine wpAny_take (i := 6) (oi := ⟨some 30, _, _, _, _, _⟩) (v := .slice (cutA (some ⟨b, off, none⟩) cap hd) n (cap - hd)) rfl (by kernel_rfl) (by kernel_rfl) (by kernel_rfl) (fun _ _ _ h => h) (Or.inl ⟨by rfl, fun _ => by go_simp⟩) ?_
              simp only [Act.put, List.setIfInBounds_toArray, List.set_cons_zero, List.set_cons_succ]
              refine wpAny_ready (rs := [7]) (by kernel_rfl) (by simp) (AllReady.cons (o := ⟨some 31, _, _, _, _, _⟩) rfl (fun K hK => ?_) AllReady.nil)
              go_simp
              refine (HP.out _ HZD.out).mono ?_
              rintro e6 w6 ⟨rfl, hb6⟩
              refine hK _ _ ?_
              clear hK K
              have HR6 := Lib.hid (HBR.out.drew.below HBR.out.lt hb6)
              have HG6 := Lib.hid (HBH.out.drew.below HBH.out.lt hb6)
              have HB6 := Lib.hid (HBB.out.trans (HZD.out.trans (hb6.mono HBB.out.size)))
              clear hb6
              refine wpAny_take (i := 8) (oi := ⟨some 23, _, _, _, _, _⟩) (v := .tuple #[frC pf, .int .i64 (sn : Int)]) rfl (by kernel_rfl) (by kernel_rfl) (by kernel_rfl) (fun _ _ _ h => h) (Or.inl ⟨by rfl, fun _ => by go_simp⟩) ?_
              simp only [Act.put, List.setIfInBounds_toArray, List.set_cons_zero, List.set_cons_succ]
              refine wpAny_take (i := 9) (oi := ⟨some 32, _, _, _, _, _⟩) (v := frC pf) rfl (by kernel_rfl) (by kernel_rfl) (by kernel_rfl) (fun _ _ _ h => h) (Or.inl ⟨by rfl, fun _ => by go_simp⟩) ?_
              simp only [Act.put, List.setIfInBounds_toArray, List.set_cons_zero, List.set_cons_succ]
              refine wpAny_take (i := 10) (oi := ⟨some 33, _, _, _, _, _⟩) (v := .int .i64 (sn : Int)) rfl (by kernel_rfl) (by kernel_rfl) (by kernel_rfl) (fun _ _ _ h => h) (Or.inl ⟨by rfl, fun _ => by go_simp⟩) ?_
              simp only [Act.put, List.setIfInBounds_toArray, List.set_cons_zero, List.set_cons_succ]
              refine wpAny_ready (rs := [11]) (by kernel_rfl) (by simp) (AllReady.cons (o := ⟨none, _, _, _, _, _⟩) rfl (fun K hK => ?_) AllReady.nil)
              refine step_storeR rfl 28 _ _ rfl G (by rfl) (frL pf) (by rfl) _ HG6.out (by rw [frL_len HPO.out, frL_len HO.out]) (sizeFrL HPO.out) (frL_one _) ?_
              refine hK _ _ ?_
              clear hK K
              have HR7 := Lib.hid (HR6.out.setRow_far (b := G) (Nat.ne_of_lt HG.out) (frL pf).toArray)
              have HG7 := Lib.hid (HG6.out.setRow_ (frL pf))
              have HB7 := Lib.hid (below_setRow HB6.out (Nat.le_of_lt HG.out) (frL pf).toArray)
              clear HR6 HG6 HB6
              refine wpAny_take (i := 12) (oi := ⟨some 6, _, _, _, _, _⟩) (v := .int .i64 (sn : Int)) rfl (by kernel_rfl) (by kernel_rfl) (by kernel_rfl) (fun _ _ _ h => h) (Or.inl ⟨by rfl, fun _ => by go_simp⟩) ?_
              simp only [Act.put, List.setIfInBounds_toArray, List.set_cons_zero, List.set_cons_succ]
              refine wpAny_done (by kernel_rfl) ?_ _
              generalize w6.setRow G (frL pf).toArray = w7 at *
              by_cases hsn : sn = 0
              · have n0 : ((sn : Int) != 0) = false := by simp; omega
                go_wp2_with fail
                go_roundg (gk - 1)
                case measure => have := HGH.out; have := HST.out hsn; omega
                case rel => exact ⟨stepK xs k, by have := HGH.out; have := HST.out hsn; show k.exts + 1 + (gk - 1) = 9; omega, HNX.out hsn, HFX.out hsn, HR7.out, by rw [← HPF.out hsn]; exact HG7.out, HB7.out⟩
              · have n1 : ((sn : Int) != 0) = true := by simp; omega
                have Q := Lib.hid (HSB.out hsn)
                go_wp2_with (first
                  | ((with_reducible show wpList _ _ _ _ _ _); refine wpList_buildTo rfl 28 _ rfl (some 36) rfl (frL Fr.zero).toArray (by kernel_rfl) ?_)
                  | ((with_reducible show wpList _ _ _ _ _ _); refine wpList_storeR rfl 28 (.tmp 2) (.tmp 36) rfl w.heap.size (by rfl) (frL Fr.zero) (by rfl) _ HR7.out rfl (sizeFrL HZO.out) (frL_one _) ?_))
                refine bodyPost_ret (v := .tuple #[frC Fr.zero, .int .i64 (sn : Int)]) (results_fr rfl _ _ w.heap.size (by rfl) _ HZO.out (HR7.out.setRow_ _) _ (by rfl)) rfl ?_
                exact ⟨by rw [Q.out.1, Q.out.2], below_setRow HB7.out (Nat.le_refl _) _⟩
            exact AllReady.nil
          exact AllReady.nil
        refine AllReady.cons (o := ⟨some 27, _, _, _, _, _⟩) rfl (fun K hK => ?_) ?_
        · go_simp
          refine hK _ _ ?_
          clear hK K
          refine wpAny_ready (rs := [0, 5]) (by kernel_rfl) (by simp) ?_
          refine AllReady.cons (o := ⟨some 24, _, _, _, _, _⟩) rfl (fun K hK => ?_) ?_
          · rw [if_pos (by rfl)]
            refine wp_load_mid 28 _ rfl G 0 (by rfl) (frL h) _ HBH.out.drew.range Try.underlying28 rfl (sizeFrL HO.out) (hK _ _ ?_)
            simp only [Act.put, List.setIfInBounds_toArray, List.set_cons_zero, List.set_cons_succ]
            clear hK K
            refine wpAny_ready (rs := [5]) (by kernel_rfl) (by simp) ?_
            refine AllReady.cons (o := ⟨some 29, _, _, _, _, _⟩) rfl (fun K hK => ?_) ?_
            · go_simp
              refine hK _ _ ?_
              clear hK K
              refine wpAny_take (i := 6) (oi := ⟨some 30, _, _, _, _, _⟩) (v := .slice (cutA (some ⟨b, off, none⟩) cap hd) n (cap - hd)) rfl (by kernel_rfl) (by kernel_rfl) (by kernel_rfl) (fun _ _ _ h => h) (Or.inl ⟨by rfl, fun _ => by go_simp⟩) ?_
              simp only [Act.put, List.setIfInBounds_toArray, List.set_cons_zero, List.set_cons_succ]
              refine wpAny_ready (rs := [7]) (by kernel_rfl) (by simp) (AllReady.cons (o := ⟨some 31, _, _, _, _, _⟩) rfl (fun K hK => ?_) AllReady.nil)
              go_simp
              refine (HP.out _ HZD.out).mono ?_
              rintro e6 w6 ⟨rfl, hb6⟩
              refine hK _ _ ?_
              clear hK K
              have HR6 := Lib.hid (HBR.out.drew.below HBR.out.lt hb6)
              have HG6 := Lib.hid (HBH.out.drew.below HBH.out.lt hb6)
              have HB6 := Lib.hid (HBB.out.trans (HZD.out.trans (hb6.mono HBB.out.size)))
              clear hb6
              refine wpAny_take (i := 8) (oi := ⟨some 23, _, _, _, _, _⟩) (v := .tuple #[frC pf, .int .i64 (sn : Int)]) rfl (by kernel_rfl) (by kernel_rfl) (by kernel_rfl) (fun _ _ _ h => h) (Or.inl ⟨by rfl, fun _ => by go_simp⟩) ?_
              simp only [Act.put, List.setIfInBounds_toArray, List.set_cons_zero, List.set_cons_succ]
              refine wpAny_take (i := 9) (oi := ⟨some 32, _, _, _, _, _⟩) (v := frC pf) rfl (by kernel_rfl) (by kernel_rfl) (by kernel_rfl) (fun _ _ _ h => h) (Or.inl ⟨by rfl, fun _ => by go_simp⟩) ?_
              simp only [Act.put, List.setIfInBounds_toArray, List.set_cons_zero, List.set_cons_succ]
              refine wpAny_take (i := 10) (oi := ⟨some 33, _, _, _, _, _⟩) (v := .int .i64 (sn : Int)) rfl (by kernel_rfl) (by kernel_rfl) (by kernel_rfl) (fun _ _ _ h => h) (Or.inl ⟨by rfl, fun _ => by go_simp⟩) ?_
              simp only [Act.put, List.setIfInBounds_toArray, List.set_cons_zero, List.set_cons_succ]
              refine wpAny_ready (rs := [11]) (by kernel_rfl) (by simp) (AllReady.cons (o := ⟨none, _, _, _, _, _⟩) rfl (fun K hK => ?_) AllReady.nil)
              refine step_storeR rfl 28 _ _ rfl G (by rfl) (frL pf) (by rfl) _ HG6.out (by rw [frL_len HPO.out, frL_len HO.out]) (sizeFrL HPO.out) (frL_one _) ?_
              refine hK _ _ ?_
              clear hK K
              have HR7 := Lib.hid (HR6.out.setRow_far (b := G) (Nat.ne_of_lt HG.out) (frL pf).toArray)
              have HG7 := Lib.hid (HG6.out.setRow_ (frL pf))
              have HB7 := Lib.hid (below_setRow HB6.out (Nat.le_of_lt HG.out) (frL pf).toArray)
              clear HR6 HG6 HB6
              refine wpAny_take (i := 12) (oi := ⟨some 6, _, _, _, _, _⟩) (v := .int .i64 (sn : Int)) rfl (by kernel_rfl) (by kernel_rfl) (by kernel_rfl) (fun _ _ _ h => h) (Or.inl ⟨by rfl, fun _ => by go_simp⟩) ?_
              simp only [Act.put, List.setIfInBounds_toArray, List.set_cons_zero, List.set_cons_succ]
              refine wpAny_done (by kernel_rfl) ?_ _
              generalize w6.setRow G (frL pf).toArray = w7 at *
              by_cases hsn : sn = 0
              · have n0 : ((sn : Int) != 0) = false := by simp; omega
                go_wp2_with fail
                go_roundg (gk - 1)
                case measure => have := HGH.out; have := HST.out hsn; omega
                case rel => exact ⟨stepK xs k, by have := HGH.out; have := HST.out hsn; show k.exts + 1 + (gk - 1) = 9; omega, HNX.out hsn, HFX.out hsn, HR7.out, by rw [← HPF.out hsn]; exact HG7.out, HB7.out⟩
              · have n1 : ((sn : Int) != 0) = true := by simp; omega
                have Q := Lib.hid (HSB.out hsn)
                go_wp2_with (first
                  | ((with_reducible show wpList _ _ _ _ _ _); refine wpList_buildTo rfl 28 _ rfl (some 36) rfl (frL Fr.zero).toArray (by kernel_rfl) ?_)
                  | ((with_reducible show wpList _ _ _ _ _ _); refine wpList_storeR rfl 28 (.tmp 2) (.tmp 36) rfl w.heap.size (by rfl) (frL Fr.zero) (by rfl) _ HR7.out rfl (sizeFrL HZO.out) (frL_one _) ?_))
                refine bodyPost_ret (v := .tuple #[frC Fr.zero, .int .i64 (sn : Int)]) (results_fr rfl _ _ w.heap.size (by rfl) _ HZO.out (HR7.out.setRow_ _) _ (by rfl)) rfl ?_
                exact ⟨by rw [Q.out.1, Q.out.2], below_setRow HB7.out (Nat.le_refl _) _⟩
            exact AllReady.nil
          refine AllReady.cons (o := ⟨some 29, _, _, _, _, _⟩) rfl (fun K hK => ?_) ?_
          · go_simp
            refine hK _ _ ?_
            clear hK K
            refine wpAny_take (i := 6) (oi := ⟨some 30, _, _, _, _, _⟩) (v := .slice (cutA (some ⟨b, off, none⟩) cap hd) n (cap - hd)) rfl (by kernel_rfl) (by kernel_rfl) (by kernel_rfl) (fun _ _ _ h => h) (Or.inl ⟨by rfl, fun _ => by go_simp⟩) ?_
            simp only [Act.put, List.setIfInBounds_toArray, List.set_cons_zero, List.set_cons_succ]
            refine wpAny_ready (rs := [0]) (by kernel_rfl) (by simp) ?_
            refine AllReady.cons (o := ⟨some 24, _, _, _, _, _⟩) rfl (fun K hK => ?_) ?_
            · rw [if_pos (by rfl)]
              refine wp_load_mid 28 _ rfl G 0 (by rfl) (frL h) _ HBH.out.drew.range Try.underlying28 rfl (sizeFrL HO.out) (hK _ _ ?_)
              simp only [Act.put, List.setIfInBounds_toArray, List.set_cons_zero, List.set_cons_succ]
              clear hK K
              refine wpAny_ready (rs := [7]) (by kernel_rfl) (by simp) (AllReady.cons (o := ⟨some 31, _, _, _, _, _⟩) rfl (fun K hK => ?_) AllReady.nil)
              go_simp
              refine (HP.out _ HZD.out).mono ?_
              rintro e6 w6 ⟨rfl, hb6⟩
              refine hK _ _ ?_
              clear hK K
              have HR6 := Lib.hid (HBR.out.drew.below HBR.out.lt hb6)
              have HG6 := Lib.hid (HBH.out.drew.below HBH.out.lt hb6)
              have HB6 := Lib.hid (HBB.out.trans (HZD.out.trans (hb6.mono HBB.out.size)))
              clear hb6
              refine wpAny_take (i := 8) (oi := ⟨some 23, _, _, _, _, _⟩) (v := .tuple #[frC pf, .int .i64 (sn : Int)]) rfl (by kernel_rfl) (by kernel_rfl) (by kernel_rfl) (fun _ _ _ h => h) (Or.inl ⟨by rfl, fun _ => by go_simp⟩) ?_
              simp only [Act.put, List.setIfInBounds_toArray, List.set_cons_zero, List.set_cons_succ]
              refine wpAny_take (i := 9) (oi := ⟨some 32, _, _, _, _, _⟩) (v := frC pf) rfl (by kernel_rfl) (by kernel_rfl) (by kernel_rfl) (fun _ _ _ h => h) (Or.inl ⟨by rfl, fun _ => by go_simp⟩) ?_
              simp only [Act.put, List.setIfInBounds_toArray, List.set_cons_zero, List.set_cons_succ]
              refine wpAny_take (i := 10) (oi := ⟨some 33, _, _, _, _, _⟩) (v := .int .i64 (sn : Int)) rfl (by kernel_rfl) (by kernel_rfl) (by kernel_rfl) (fun _ _ _ h => h) (Or.inl ⟨by rfl, fun _ => by go_simp⟩) ?_
              simp only [Act.put, List.setIfInBounds_toArray, List.set_cons_zero, List.set_cons_succ]
              refine wpAny_ready (rs := [11]) (by kernel_rfl) (by simp) (AllReady.cons (o := ⟨none, _, _, _, _, _⟩) rfl (fun K hK => ?_) AllReady.nil)
              refine step_storeR rfl 28 _ _ rfl G (by rfl) (frL pf) (by rfl) _ HG6.out (by rw [frL_len HPO.out, frL_len HO.out]) (sizeFrL HPO.out) (frL_one _) ?_
              refine hK _ _ ?_
              clear hK K
              have HR7 := Lib.hid (HR6.out.setRow_far (b := G) (Nat.ne_of_lt HG.out) (frL pf).toArray)
              have HG7 := Lib.hid (HG6.out.setRow_ (frL pf))
              have HB7 := Lib.hid (below_setRow HB6.out (Nat.le_of_lt HG.out) (frL pf).toArray)
              clear HR6 HG6 HB6
              refine wpAny_take (i := 12) (oi := ⟨some 6, _, _, _, _, _⟩) (v := .int .i64 (sn : Int)) rfl (by kernel_rfl) (by kernel_rfl) (by kernel_rfl) (fun _ _ _ h => h) (Or.inl ⟨by rfl, fun _ => by go_simp⟩) ?_
              simp only [Act.put, List.setIfInBounds_toArray, List.set_cons_zero, List.set_cons_succ]
              refine wpAny_done (by kernel_rfl) ?_ _
              generalize w6.setRow G (frL pf).toArray = w7 at *
              by_cases hsn : sn = 0
              · have n0 : ((sn : Int) != 0) = false := by simp; omega
                go_wp2_with fail
                go_roundg (gk - 1)
                case measure => have := HGH.out; have := HST.out hsn; omega
                case rel => exact ⟨stepK xs k, by have := HGH.out; have := HST.out hsn; show k.exts + 1 + (gk - 1) = 9; omega, HNX.out hsn, HFX.out hsn, HR7.out, by rw [← HPF.out hsn]; exact HG7.out, HB7.out⟩
              · have n1 : ((sn : Int) != 0) = true := by simp; omega
                have Q := Lib.hid (HSB.out hsn)
                go_wp2_with (first
                  | ((with_reducible show wpList _ _ _ _ _ _); refine wpList_buildTo rfl 28 _ rfl (some 36) rfl (frL Fr.zero).toArray (by kernel_rfl) ?_)
                  | ((with_reducible show wpList _ _ _ _ _ _); refine wpList_storeR rfl 28 (.tmp 2) (.tmp 36) rfl w.heap.size (by rfl) (frL Fr.zero) (by rfl) _ HR7.out rfl (sizeFrL HZO.out) (frL_one _) ?_))
                refine bodyPost_ret (v := .tuple #[frC Fr.zero, .int .i64 (sn : Int)]) (results_fr rfl _ _ w.heap.size (by rfl) _ HZO.out (HR7.out.setRow_ _) _ (by rfl)) rfl ?_
                exact ⟨by rw [Q.out.1, Q.out.2], below_setRow HB7.out (Nat.le_refl _) _⟩
            exact AllReady.nil
          exact AllReady.nil
        refine AllReady.cons (o := ⟨some 29, _, _, _, _, _⟩) rfl (fun K hK => ?_) ?_
        · go_simp
          refine hK _ _ ?_
          clear hK K
          refine wpAny_ready (rs := [0, 3]) (by kernel_rfl) (by simp) ?_
          refine AllReady.cons (o := ⟨some 24, _, _, _, _, _⟩) rfl (fun K hK => ?_) ?_
          · rw [if_pos (by rfl)]
            refine wp_load_mid 28 _ rfl G 0 (by rfl) (frL h) _ HBH.out.drew.range Try.underlying28 rfl (sizeFrL HO.out) (hK _ _ ?_)
            simp only [Act.put, List.setIfInBounds_toArray, List.set_cons_zero, List.set_cons_succ]
            clear hK K
            refine wpAny_ready (rs := [3]) (by kernel_rfl) (by simp) ?_
            refine AllReady.cons (o := ⟨some 27, _, _, _, _, _⟩) rfl (fun K hK => ?_) ?_
            · go_simp
              refine hK _ _ ?_
              clear hK K
              refine wpAny_take (i := 6) (oi := ⟨some 30, _, _, _, _, _⟩) (v := .slice (cutA (some ⟨b, off, none⟩) cap hd) n (cap - hd)) rfl (by kernel_rfl) (by kernel_rfl) (by kernel_rfl) (fun _ _ _ h => h) (Or.inl ⟨by rfl, fun _ => by go_simp⟩) ?_
              simp only [Act.put, List.setIfInBounds_toArray, List.set_cons_zero, List.set_cons_succ]
              refine wpAny_ready (rs := [7]) (by kernel_rfl) (by simp) (AllReady.cons (o := ⟨some 31, _, _, _, _, _⟩) rfl (fun K hK => ?_) AllReady.nil)
              go_simp
              refine (HP.out _ HZD.out).mono ?_
              rintro e6 w6 ⟨rfl, hb6⟩
              refine hK _ _ ?_
              clear hK K
              have HR6 := Lib.hid (HBR.out.drew.below HBR.out.lt hb6)
              have HG6 := Lib.hid (HBH.out.drew.below HBH.out.lt hb6)
              have HB6 := Lib.hid (HBB.out.trans (HZD.out.trans (hb6.mono HBB.out.size)))
              clear hb6
              refine wpAny_take (i := 8) (oi := ⟨some 23, _, _, _, _, _⟩) (v := .tuple #[frC pf, .int .i64 (sn : Int)]) rfl (by kernel_rfl) (by kernel_rfl) (by kernel_rfl) (fun _ _ _ h => h) (Or.inl ⟨by rfl, fun _ => by go_simp⟩) ?_
              simp only [Act.put, List.setIfInBounds_toArray, List.set_cons_zero, List.set_cons_succ]
              refine wpAny_take (i := 9) (oi := ⟨some 32, _, _, _, _, _⟩) (v := frC pf) rfl (by kernel_rfl) (by kernel_rfl) (by kernel_rfl) (fun _ _ _ h => h) (Or.inl ⟨by rfl, fun _ => by go_simp⟩) ?_
              simp only [Act.put, List.setIfInBounds_toArray, List.set_cons_zero, List.set_cons_succ]
              refine wpAny_take (i := 10) (oi := ⟨some 33, _, _, _, _, _⟩) (v := .int .i64 (sn : Int)) rfl (by kernel_rfl) (by kernel_rfl) (by kernel_rfl) (fun _ _ _ h => h) (Or.inl ⟨by rfl, fun _ => by go_simp⟩) ?_
              simp only [Act.put, List.setIfInBounds_toArray, List.set_cons_zero, List.set_cons_succ]
              refine wpAny_ready (rs := [11]) (by kernel_rfl) (by simp) (AllReady.cons (o := ⟨none, _, _, _, _, _⟩) rfl (fun K hK => ?_) AllReady.nil)
              refine step_storeR rfl 28 _ _ rfl G (by rfl) (frL pf) (by rfl) _ HG6.out (by rw [frL_len HPO.out, frL_len HO.out]) (sizeFrL HPO.out) (frL_one _) ?_
              refine hK _ _ ?_
              clear hK K
              have HR7 := Lib.hid (HR6.out.setRow_far (b := G) (Nat.ne_of_lt HG.out) (frL pf).toArray)
              have HG7 := Lib.hid (HG6.out.setRow_ (frL pf))
              have HB7 := Lib.hid (below_setRow HB6.out (Nat.le_of_lt HG.out) (frL pf).toArray)
              clear HR6 HG6 HB6
              refine wpAny_take (i := 12) (oi := ⟨some 6, _, _, _, _, _⟩) (v := .int .i64 (sn : Int)) rfl (by kernel_rfl) (by kernel_rfl) (by kernel_rfl) (fun _ _ _ h => h) (Or.inl ⟨by rfl, fun _ => by go_simp⟩) ?_
              simp only [Act.put, List.setIfInBounds_toArray, List.set_cons_zero, List.set_cons_succ]
              refine wpAny_done (by kernel_rfl) ?_ _
              generalize w6.setRow G (frL pf).toArray = w7 at *
              by_cases hsn : sn = 0
              · have n0 : ((sn : Int) != 0) = false := by simp; omega
                go_wp2_with fail
                go_roundg (gk - 1)
                case measure => have := HGH.out; have := HST.out hsn; omega
                case rel => exact ⟨stepK xs k, by have := HGH.out; have := HST.out hsn; show k.exts + 1 + (gk - 1) = 9; omega, HNX.out hsn, HFX.out hsn, HR7.out, by rw [← HPF.out hsn]; exact HG7.out, HB7.out⟩
              · have n1 : ((sn : Int) != 0) = true := by simp; omega
                have Q := Lib.hid (HSB.out hsn)
                go_wp2_with (first
                  | ((with_reducible show wpList _ _ _ _ _ _); refine wpList_buildTo rfl 28 _ rfl (some 36) rfl (frL Fr.zero).toArray (by kernel_rfl) ?_)
                  | ((with_reducible show wpList _ _ _ _ _ _); refine wpList_storeR rfl 28 (.tmp 2) (.tmp 36) rfl w.heap.size (by rfl) (frL Fr.zero) (by rfl) _ HR7.out rfl (sizeFrL HZO.out) (frL_one _) ?_))
                refine bodyPost_ret (v := .tuple #[frC Fr.zero, .int .i64 (sn : Int)]) (results_fr rfl _ _ w.heap.size (by rfl) _ HZO.out (HR7.out.setRow_ _) _ (by rfl)) rfl ?_
                exact ⟨by rw [Q.out.1, Q.out.2], below_setRow HB7.out (Nat.le_refl _) _⟩
            exact AllReady.nil
          refine AllReady.cons (o := ⟨some 27, _, _, _, _, _⟩) rfl (fun K hK => ?_) ?_
          · go_simp
            refine hK _ _ ?_
            clear hK K
            refine wpAny_take (i := 6) (oi := ⟨some 30, _, _, _, _, _⟩) (v := .slice (cutA (some ⟨b, off, none⟩) cap hd) n (cap - hd)) rfl (by kernel_rfl) (by kernel_rfl) (by kernel_rfl) (fun _ _ _ h => h) (Or.inl ⟨by rfl, fun _ => by go_simp⟩) ?_
            simp only [Act.put, List.setIfInBounds_toArray, List.set_cons_zero, List.set_cons_succ]
            refine wpAny_ready (rs := [0]) (by kernel_rfl) (by simp) ?_
            refine AllReady.cons (o := ⟨some 24, _, _, _, _, _⟩) rfl (fun K hK => ?_) ?_
            · rw [if_pos (by rfl)]
              refine wp_load_mid 28 _ rfl G 0 (by rfl) (frL h) _ HBH.out.drew.range Try.underlying28 rfl (sizeFrL HO.out) (hK _ _ ?_)
              simp only [Act.put, List.setIfInBounds_toArray, List.set_cons_zero, List.set_cons_succ]
              clear hK K
              refine wpAny_ready (rs := [7]) (by kernel_rfl) (by simp) (AllReady.cons (o := ⟨some 31, _, _, _, _, _⟩) rfl (fun K hK => ?_) AllReady.nil)
              go_simp
              refine (HP.out _ HZD.out).mono ?_
              rintro e6 w6 ⟨rfl, hb6⟩
              refine hK _ _ ?_
              clear hK K
              have HR6 := Lib.hid (HBR.out.drew.below HBR.out.lt hb6)
              have HG6 := Lib.hid (HBH.out.drew.below HBH.out.lt hb6)
              have HB6 := Lib.hid (HBB.out.trans (HZD.out.trans (hb6.mono HBB.out.size)))
              clear hb6
              refine wpAny_take (i := 8) (oi := ⟨some 23, _, _, _, _, _⟩) (v := .tuple #[frC pf, .int .i64 (sn : Int)]) rfl (by kernel_rfl) (by kernel_rfl) (by kernel_rfl) (fun _ _ _ h => h) (Or.inl ⟨by rfl, fun _ => by go_simp⟩) ?_
              simp only [Act.put, List.setIfInBounds_toArray, List.set_cons_zero, List.set_cons_succ]
              refine wpAny_take (i := 9) (oi := ⟨some 32, _, _, _, _, _⟩) (v := frC pf) rfl (by kernel_rfl) (by kernel_rfl) (by kernel_rfl) (fun _ _ _ h => h) (Or.inl ⟨by rfl, fun _ => by go_simp⟩) ?_
              simp only [Act.put, List.setIfInBounds_toArray, List.set_cons_zero, List.set_cons_succ]
              refine wpAny_take (i := 10) (oi := ⟨some 33, _, _, _, _, _⟩) (v := .int .i64 (sn : Int)) rfl (by kernel_rfl) (by kernel_rfl) (by kernel_rfl) (fun _ _ _ h => h) (Or.inl ⟨by rfl, fun _ => by go_simp⟩) ?_
              simp only [Act.put, List.setIfInBounds_toArray, List.set_cons_zero, List.set_cons_succ]
              refine wpAny_ready (rs := [11]) (by kernel_rfl) (by simp) (AllReady.cons (o := ⟨none, _, _, _, _, _⟩) rfl (fun K hK => ?_) AllReady.nil)
              refine step_storeR rfl 28 _ _ rfl G (by rfl) (frL pf) (by rfl) _ HG6.out (by rw [frL_len HPO.out, frL_len HO.out]) (sizeFrL HPO.out) (frL_one _) ?_
              refine hK _ _ ?_
              clear hK K
              have HR7 := Lib.hid (HR6.out.setRow_far (b := G) (Nat.ne_of_lt HG.out) (frL pf).toArray)
              have HG7 := Lib.hid (HG6.out.setRow_ (frL pf))
              have HB7 := Lib.hid (below_setRow HB6.out (Nat.le_of_lt HG.out) (frL pf).toArray)
              clear HR6 HG6 HB6
              refine wpAny_take (i := 12) (oi := ⟨some 6, _, _, _, _, _⟩) (v := .int .i64 (sn : Int)) rfl (by kernel_rfl) (by kernel_rfl) (by kernel_rfl) (fun _ _ _ h => h) (Or.inl ⟨by rfl, fun _ => by go_simp⟩) ?_
              simp only [Act.put, List.setIfInBounds_toArray, List.set_cons_zero, List.set_cons_succ]
              refine wpAny_done (by kernel_rfl) ?_ _
              generalize w6.setRow G (frL pf).toArray = w7 at *
              by_cases hsn : sn = 0
              · have n0 : ((sn : Int) != 0) = false := by simp; omega
                go_wp2_with fail
                go_roundg (gk - 1)
                case measure => have := HGH.out; have := HST.out hsn; omega
                case rel => exact ⟨stepK xs k, by have := HGH.out; have := HST.out hsn; show k.exts + 1 + (gk - 1) = 9; omega, HNX.out hsn, HFX.out hsn, HR7.out, by rw [← HPF.out hsn]; exact HG7.out, HB7.out⟩
              · have n1 : ((sn : Int) != 0) = true := by simp; omega
                have Q := Lib.hid (HSB.out hsn)
                go_wp2_with (first
                  | ((with_reducible show wpList _ _ _ _ _ _); refine wpList_buildTo rfl 28 _ rfl (some 36) rfl (frL Fr.zero).toArray (by kernel_rfl) ?_)
                  | ((with_reducible show wpList _ _ _ _ _ _); refine wpList_storeR rfl 28 (.tmp 2) (.tmp 36) rfl w.heap.size (by rfl) (frL Fr.zero) (by rfl) _ HR7.out rfl (sizeFrL HZO.out) (frL_one _) ?_))
                refine bodyPost_ret (v := .tuple #[frC Fr.zero, .int .i64 (sn : Int)]) (results_fr rfl _ _ w.heap.size (by rfl) _ HZO.out (HR7.out.setRow_ _) _ (by rfl)) rfl ?_
                exact ⟨by rw [Q.out.1, Q.out.2], below_setRow HB7.out (Nat.le_refl _) _⟩
            exact AllReady.nil
          exact AllReady.nil
        exact AllReady.nil
      · have Q := Lib.hid (rd_end HF0.out HWK.out (Bool.eq_false_iff.2 hg))
        cases hx : extB k.proto with
        | false =>
          rw [hx] at HX
          clear hx hg HWK HFIT
          obtain ⟨h, hh⟩ : ∃ h, hdAt xs k = h := ⟨_, rfl⟩
          rw [hh] at HO HBH Q
          clear hh
          go_wp2_with fail
          refine (HX.out _).mono ?_
          rintro e w5 ⟨rfl, rfl⟩
          go_wp2_with (first
            | ((with_reducible show wpList _ _ _ _ _ _); refine wpList_loadF rfl (.tmp 5) rfl G (by rfl) h HO.out HBH.out ?_)
            | ((with_reducible show wpList _ _ _ _ _ _); refine wpList_storeR rfl 28 (.tmp 2) (.tmp 38) rfl w.heap.size (by rfl) (frL h) (by rfl) _ HBR.out (by rw [frL_len HO.out]; rfl) (sizeFrL HO.out) (frL_one _) ?_))
          refine bodyPost_ret (v := .tuple #[frC h, .int .i64 0]) (results_fr rfl _ _ w.heap.size (by rfl) _ HO.out (HBR.out.setRow_ _) _ (by rfl)) rfl ?_
          exact ⟨by rw [Q.out.1, Q.out.2]; rfl, below_setRow HBB.out (Nat.le_refl _) _⟩
        | true =>
          have hfr : k.frag = true := by
            unfold goB at hg
            rw [hx] at hg
            simpa using hg
          rw [hfr] at c3
          rw [hx] at HX
          clear hx hg hfr HWK HFIT
          obtain ⟨h, hh⟩ : ∃ h, hdAt xs k = h := ⟨_, rfl⟩
          rw [hh] at HO HBH Q
          clear hh
          go_wp2_with fail
          refine (HX.out _).mono ?_
          rintro e w5 ⟨rfl, rfl⟩
          go_wp2_with (first
            | ((with_reducible show wpList _ _ _ _ _ _); refine wpList_loadF rfl (.tmp 5) rfl G (by rfl) h HO.out HBH.out ?_)
            | ((with_reducible show wpList _ _ _ _ _ _); refine wpList_storeR rfl 28 (.tmp 2) (.tmp 38) rfl w.heap.size (by rfl) (frL h) (by rfl) _ HBR.out (by rw [frL_len HO.out]; rfl) (sizeFrL HO.out) (frL_one _) ?_))
          refine bodyPost_ret (v := .tuple #[frC h, .int .i64 0]) (results_fr rfl _ _ w.heap.size (by rfl) _ HO.out (HBR.out.setRow_ _) _ (by rfl)) rfl ?_
          exact ⟨by rw [Q.out.1, Q.out.2]; rfl, below_setRow HBB.out (Nat.le_refl _) _⟩
  · rw [rdF_bad h0, rdN_bad h0]
    have hle := faultN_le xs
    obtain ⟨F, hF⟩ : ∃ F, faultN xs = F := ⟨_, rfl⟩
    rw [hF] at h0 HF hle ⊢
    have n1 : ((F : Int) != 0) = true := by simp; omega
    clear hF
    go_enter Try.func10, Try.ntmps10
    go_wp2_with fail
    rw [HZ.out]
    refine HF.out.mono ?_
    rintro e w0 ⟨rfl, hb0⟩
    have HR1 := Lib.hid (HR0.out.below HR0.out.lt hb0)
    have HB1 := Lib.hid (HB0.out.trans (hb0.mono HB0.out.size))
    clear hb0
    go_wp2_with (first
      | ((with_reducible show wpList _ _ _ _ _ _); refine wpList_buildTo rfl 28 _ rfl (some 11) rfl (frL Fr.zero).toArray (by kernel_rfl) ?_)
      | ((with_reducible show wpList _ _ _ _ _ _); refine wpList_storeR rfl 28 (.tmp 2) (.tmp 11) rfl w.heap.size (by rfl) (frL Fr.zero) (by rfl) _ HR1.out rfl (sizeFrL HZO.out) (frL_one _) ?_))
    refine bodyPost_ret (v := .tuple #[frC Fr.zero, .int .i64 (F : Int)]) (results_fr rfl _ _ w.heap.size (by rfl) _ HZO.out (HR1.out.setRow_ _) _ (by rfl)) rfl ?_
    exact ⟨rfl, below_setRow HB1.out (Nat.le_refl _) _⟩
end Go.Proofs.Ythicbdjambmnpaa
