/-
  The program: fill (a flow into the first empty slot from its home on).
  The program: empty (a flow out of its slot; those behind it moved back).
  Plain mathematics between the program's slots and a table's flows: what find, fill, empty come to. No program is walked here.
  The program's table as a law asks for it; Drop, Get.
  The program: Put.
-/
import Derived.Test.YtfbiinipiklkaaaFLP8
import Derived.Test.YtfbiinipiklkaaaStEl
namespace Go.Proofs.Ytfbiinipiklkaaa
set_option maxRecDepth 100000
open Go.RowKit Go.Shelf Go.Lib

attribute [local go_sem] Oper.semAt_some

theorem step_storeEG {α : Type} (E : Enc α) {w : World} {ops : Array Oper} {op : Oper} {a : Act} {K : Act → World → Prop} {Q : Exit → Act → World → Prop} {D : Prop} (hgd : op.guard = none) (x y : Operand) (ho : op.op = .store E.T x y)
    (g j o : Nat) (hq : o = j * E.k) (hx : a.eval x = .pointer (some ⟨g, o, none⟩)) (e : α) (C : Array Value) (hC : (E.f e).toArray = C) (hy : a.eval y = .agg C) (xs : List α) (n c base : Nat) (hown : OwnG E w base (.slice (some ⟨g, 0, none⟩) n c) xs) (e0 : α) (he : xs[j]? = some e0)
    (h : ∀ w', OwnG E w' base (.slice (some ⟨g, 0, none⟩) n c) (xs.set j e) → w.grownBy w' (some g) → K (a.put op.dst undef) w') : if Region.wanted op (yielded ops a.tmps) = true then Oper.wp Try.prog op a w K Q else D := by
  have hw : Region.wanted op (yielded ops a.tmps) = true := by simp [Region.wanted, hgd]
  rw [if_pos hw]
  subst hC hq
  obtain ⟨i0, hi, _, hz1, _⟩ := E.parts
  have hn := hown.lenEq
  have hj := (List.getElem?_eq_some_iff.1 he).1
  have hth := there_own hown
  have hlt : j * E.k + E.k ≤ n * E.k := by rw [hn, ← Nat.succ_mul]; exact Nat.mul_le_mul_right _ hj
  refine wp_store_mid E.T x y ho g (j * E.k) (E.f e).toArray hx hy (fun i hi2 => ?_) (by rw [hi, List.size_toArray, E.len]; show some i0.size = _; rw [hz1]) (all_oneCell_toArray (E.one e)) (h _ (OwnG.storedE E hown he e) (gb_setCells g _ _ w))
  rw [List.size_toArray, E.len] at hi2
  have := hth (j * E.k + i) (by omega)
  rwa [Nat.zero_add] at this
section
variable {w w' : World} {g gs room m cnt : Nat} {key : List UInt8} {ss : List Fw}
theorem TabR.put (h : TabR w g gs key room m cnt ss) {ss' : List Fw} (ho : OwnG eF w' 0 (slV gs m) ss') (hg : w.grownBy w' (some gs)) (hl : ss'.length = m) : TabR w' g gs key room m cnt ss' :=
  ⟨(hg.block g h.ltg (fun e => h.ne (by cases e; rfl))).trans h.blk, ho, h.ne, h.klen, hl⟩
theorem tbE_set {key : List UInt8} (hk : key.length = 16) (room cnt c : Nat) (sv : Value) : (tbE key room cnt sv).set 17 (.int .i64 (c : Int)) = tbE key room c sv := by
  obtain ⟨b0, b1, b2, b3, b4, b5, b6, b7, b8, b9, b10, b11, b12, b13, b14, b15, rfl⟩ := sixteen hk
  rfl
theorem TabR.count (h : TabR w g gs key room m cnt ss) (c : Nat) : TabR (w.setCell ⟨g, 17, none⟩ (.int .i64 (c : Int))) g gs key room m c ss :=
  ⟨by have := Blk_10.set h.blk 17 (.int .i64 (c : Int)); rwa [tbE_set h.klen] at this, h.own.keeps (fun b hb => by cases hb; exact (gb_setCell w g 17 _).block gs h.lts (fun e => h.ne (by cases e; rfl))), h.ne, h.klen, h.len⟩
end
/-- The table's own blocks. -/
def fpT (g gs : Nat) (k : Nat) : Prop := k = g ∨ k = gs
theorem Keep.of_set {fp : Nat → Prop} {w : World} {g i : Nat} (u : Value) (h : fp g) : Keep fp w (w.setCell ⟨g, i, none⟩ u) := Keep.of_grown (gb_setCell w g i u) h
theorem Keep.tr {fp : Nat → Prop} {a b c : World} (h : Keep fp a b) (k : Keep fp b c) : Keep fp a c := h.trans k (fun _ _ e => e) (fun _ _ e => e)
/-- In the slot of this place stands a flow. -/
def FullT (ss : List Fw) (m : Nat) (x : Nat) : Prop := ∃ f, ss[x % m]? = some f ∧ f.st ≠ 0
/-- What fill leaves. -/
def FillG (w : World) (g gs : Nat) (key : List UInt8) (room m cnt : Nat) (ss : List Fw) (h : Nat) (f : Fw) (w' : World) : Prop :=
  Keep (fpT g gs) w w' ∧ ((∃ d f0, d < m ∧ (∀ e, e < d → FullT ss m (h + e)) ∧ ss[(h + d) % m]? = some f0 ∧ f0.st = 0 ∧ TabR w' g gs key room m (cnt + 1) (ss.set ((h + d) % m) f)) ∨ ∀ e, e < m → FullT ss m (h + e))
def FillX (w : World) (g gs : Nat) (key : List UInt8) (room m cnt : Nat) (ss : List Fw) (f : Fw) (c : Code) (pre : List Nat) (W : World) : Prop :=
  c = .ret ∧ ∃ pre0 x f0, pre = pre0 ++ [x] ∧ (∀ y, y ∈ pre0 → FullT ss m y) ∧ ss[x % m]? = some f0 ∧ f0.st = 0 ∧ TabR W g gs key room m (cnt + 1) (ss.set (x % m) f) ∧ Keep (fpT g gs) w W
theorem keep_turn {C : Nat} {fp : Nat → Prop} {w0 w w' : World} {row : Option Nat} (h : Keep fp w0 w) (hC : w0.heap.size ≤ C) (hg : w.grownBy w' row) (hr : ∀ r, row = some r → C ≤ r) : Keep fp w0 w' :=
  ⟨hg.os.trans h.os, hg.tape.trans h.tape, hg.output.trans h.output, Nat.le_trans h.size hg.size, fun k hk hn => (hg.block k (Nat.lt_of_lt_of_le hk h.size) (fun e => by have := hr k e.symm; omega)).trans (h.block k hk hn)⟩
theorem tab_turn {w w' : World} {g gs room m cnt : Nat} {key : List UInt8} {ss : List Fw} {row : Option Nat} (h : TabR w g gs key room m cnt ss) (hg : w.grownBy w' row) (hr : ∀ r, row = some r → ∃ o : Obj, w.heap[r]? = some o ∧ o.isCells = false) : TabR w' g gs key room m cnt ss :=
  ⟨blk_turn h.blk hg hr, by
    have h2 : w'.heap[gs]? = w.heap[gs]? := hg.block gs h.lts (fun e => by
      obtain ⟨o, h1, h2⟩ := hr gs e.symm
      rcases h.own.2 with ⟨e2, _⟩ | ⟨g', cap, cur, e2, _, h3, _⟩
      · cases e2
      · cases e2
        rw [h3] at h1
        cases h1
        cases h2)
    exact h.own.keeps (fun b hb => by cases hb; exact h2), h.ne, h.klen, h.len⟩
theorem fillX_own (w : World) (C : Nat) (g gs : Nat) (key : List UInt8) (room m cnt : Nat) (ss : List Fw) (f : Fw) (hC : w.heap.size ≤ C) (c : Code) : OwnFrom C (FillX w g gs key room m cnt ss f c) := by
  rintro pre W W' row ⟨hc, pre0, x, f0, h1, h2, h3, h4, h5, h6⟩ hg hr
  exact ⟨hc, pre0, x, f0, h1, h2, h3, h4, tab_turn h5 hg (fun r e => (hr r e).2), keep_turn h6 hC hg (fun r e => (hr r e).1)⟩

set_option maxHeartbeats 16000000 in
theorem pfill_any {g gs room m cnt : Nat} {key : List UInt8} {ss : List Fw} (w : World) (hT : TabR w g gs key room m cnt ss) (h0 : 0 < m) (hm : m ≤ 100000) (hcnt : cnt ≤ 100000) {f : Fw} (hrf : rightF f = true) :
    Calls Try.prog 41 #[.pointer (some ⟨g, 0, none⟩), fwC f] w fun e w' => (∃ v, e = .returned v) ∧ FillG w g gs key room m cnt ss (homeN key m f.k) f w' := by
  obtain ⟨B, hB⟩ : ∃ B, w.heap.size = B := ⟨_, rfl⟩
  obtain ⟨C, hC⟩ : ∃ C, (fwL f).toArray = C := ⟨_, rfl⟩
  have hfc : fwC f = .agg C := by unfold fwC; rw [hC]
  rw [hfc]
  obtain ⟨Y, hY⟩ : ∃ Y, (w.alloc (.cells #[.pointer (some ⟨g, 0, none⟩)] 30)).alloc (.cells C 28) = Y := ⟨_, rfl⟩
  have hz1 : (w.alloc (.cells #[.pointer (some ⟨g, 0, none⟩)] 30)).heap.size = B + 1 := by rw [World.size_alloc, hB]
  have hYz : Y.heap.size = B + 1 + 1 := by rw [← hY, World.size_alloc, hz1]
  have y0 : Blk Y 30 B [.pointer (some ⟨g, 0, none⟩)] := by rw [← hY, ← hB]; exact Blk_10.alloc (Blk_10.new w _ _) _
  have y1 : Blk Y 28 (B + 1) (fwL f) := by rw [← hY, ← hC, ← hz1]; exact Blk_10.new _ _ _
  have hBY : Below B w Y := by
    rw [← hY, ← hB]
    exact ((Below.refl _ w).alloc (Nat.le_refl _) _).alloc (by rw [hz1, hB]; omega) _
  have HTT := Lib.hid (hT.below (by rw [hB]; exact hBY))
  have hgB : g < B := by rw [← hB]; exact hT.ltg
  have hsB : gs < B := by rw [← hB]; exact hT.lts
  have HGB := Lib.hid hgB
  have HSB := Lib.hid hsB
  have HSL := Lib.hid hT.len
  have HC := Lib.hid hC
  have HB := Lib.hid hB
  have HY := Lib.hid hY
  have HYZ := Lib.hid hYz
  have HY0 := Lib.hid y0
  have HY1 := Lib.hid y1
  have HBY := Lib.hid hBY
  have HM0 := Lib.hid h0
  have HMM := Lib.hid hm
  have HCN := Lib.hid hcnt
  have HFK := Lib.hid f.ok
  obtain ⟨h, hh⟩ : ∃ h, homeN key m f.k = h := ⟨_, rfl⟩
  have HHL := Lib.hid (homeN_lt key h0 f.k)
  obtain ⟨TC, hTC⟩ : ∃ T, tuC f.k = T := ⟨_, rfl⟩
  have HTC := Lib.hid hTC
  have HHM : Hid (∀ W, Below Y.heap.size Y W → Calls Try.prog 56 #[.pointer (some ⟨g, 0, none⟩), TC] W fun e w' => e = .returned (.int .i64 (h : Int)) ∧ Below W.heap.size W w') := Lib.hid (fun W hW => by
    have := phome_any W (HTT.out.below hW) h0 hm f.ok (right_fit hrf)
    rwa [hTC, hh] at this)
  rw [hh] at HHL ⊢
  clear hY hYz y0 y1 hBY hgB hsB hT hC hz1 h0 hm hh hTC hrf hfc hB hcnt
  refine (callsIn_wide (n := 6)).1 ?_
  refine callsIn_of_wp_marks Try.func41 rfl trivial ?_ rfl
  simp only [Try.ntmps41, List.size_toArray, List.length_cons, List.length_nil, Nat.reduceAdd, Nat.reduceSub, Array.replicate_succ, Array.replicate_zero, List.push_toArray, List.append_toArray, List.nil_append, List.cons_append]
  gi_upto_region 1 with fail
  rw [HY.out, HB.out]
  have HQ0 : Hid (∀ W, Below Y.heap.size Y W → W.cell? ⟨B, 0, none⟩ = some (.pointer (some ⟨g, 0, none⟩))) := Lib.hid (fun W hW => Blk_10.cell (Blk_10.below HY0.out (Blk_10.lt HY0.out) hW) rfl)
  have HQ1 : Hid (∀ W, Below Y.heap.size Y W → W.rangeAt (B + 1) 0 (tuL f.k)) := Lib.hid (fun W hW => fw_key (Blk_10.range (Blk_10.below HY1.out (Blk_10.lt HY1.out) hW)))
  refine wpIn_of_held (r := none) (S := fun W => Below Y.heap.size Y W) (by kernel_rfl) (by kernel_rfl) ((Below.refl Y.heap.size Y).drew) (fun hHeld => ?_)
  obtain ⟨X0, hX0⟩ : ∃ X, Y.drew = X := ⟨_, rfl⟩
  rw [hX0] at hHeld ⊢
  clear hX0
  refine tkY 0 5 (.pointer (some ⟨g, 0, none⟩)) rfl (Or.inl ⟨by rfl, fun W hW => by have hc := HQ0.out W hW; go_simp⟩) hHeld ?_
  simp only [Act.put, sA, sZ, sS]
  refine tkY 1 6 (.pointer (some ⟨g, 0, none⟩)) rfl (Or.inl ⟨by rfl, fun W hW => by have hc := HQ0.out W hW; go_simp⟩) hHeld ?_
  simp only [Act.put, sA, sZ, sS]
  refine tk 2 7 (.pointer (some ⟨B + 1, 0, none⟩)) rfl hHeld ?_
  simp only [Act.put, sA, sZ, sS]
  refine tkY 3 8 TC rfl (yields_loadTuL (by rfl) _ rfl (B + 1) 0 rfl f.k HFK.out TC HTC.out HQ1.out) hHeld ?_
  simp only [Act.put, sA, sZ, sS]
  refine wpAnyH_ready (rs := [4]) (by kernel_rfl) (by simp) (AllReadyH.cons (o := ⟨some 9, _, _, _, _, _⟩) rfl (fun K hK => ?_) AllReadyH.nil)
  go_simp
  refine (HHM.out X0 hHeld).mono ?_
  rintro e W2 ⟨rfl, hb2⟩
  have HB2 := Lib.hid (hHeld.trans (hb2.mono hHeld.size))
  clear hb2
  refine hK.out _ _ HB2.out (fun hHeld => ?_)
  clear hK K
  refine wpAnyH_ready (rs := [5]) (by kernel_rfl) (by simp) (AllReadyH.cons (o := ⟨some 10, _, _, _, _, _⟩) rfl (fun K hK => ?_) AllReadyH.nil)
  go_simp
  refine (pfrom_any g h W2).mono ?_
  rintro e W3 ⟨rfl, hW3⟩
  obtain ⟨D, hD⟩ : ∃ D, W2.heap.size = D := ⟨_, rfl⟩
  rw [hD]
  have HD1 := Lib.hid (show W3.heap.size = D + 1 + 1 by rw [hW3, World.size_alloc, World.size_alloc, hD])
  have HD2 := Lib.hid (show W3.cell? ⟨D, 0, none⟩ = some (.pointer (some ⟨g, 0, none⟩)) by rw [hW3, ← hD]; exact Blk_10.cell (Blk_10.alloc (Blk_10.new W2 30 [.pointer (some ⟨g, 0, none⟩)]) _) rfl)
  have HD3 := Lib.hid (show W3.cell? ⟨D + 1, 0, none⟩ = some (.int .i64 (h : Int)) by
    rw [hW3, ← hD]
    have := Blk_10.new (W2.alloc (.cells #[.pointer (some ⟨g, 0, none⟩)] 30)) 3 [.int .i64 (h : Int)]
    rw [World.size_alloc] at this
    exact Blk_10.cell this rfl)
  have HB3 : Hid (Below Y.heap.size Y W3) := Lib.hid (by
    rw [hW3]
    exact (HB2.out.alloc HB2.out.size _).alloc (by rw [World.size_alloc]; exact Nat.le_succ_of_le HB2.out.size) _)
  have HDB := Lib.hid (show B + 1 + 1 ≤ D by rw [← hD, ← HYZ.out]; exact HB2.out.size)
  clear hW3 hD
  refine hK.out _ _ HB3.out (fun hHeld => ?_)
  clear hK K
  refine wpAnyH_done (by kernel_rfl) ?_ _
  clear hHeld
  dsimp only [Only]
  gi_wp2
  have HW0 := Lib.hid (show B + 1 + 1 ≤ W3.heap.size by rw [HD1.out]; have := HDB.out; omega)
  have HWB : Hid (Below B w W3) := Lib.hid (HBY.out.trans (HB3.out.mono (by rw [HYZ.out]; omega)))
  refine wpIn_rangeFunc_ownG rfl (by omega) (gf := 69) (lb := #[.pointer (some ⟨D, 0, none⟩), .pointer (some ⟨D + 1, 0, none⟩)]) rfl trivial (enters_of Try.func69 (by kernel_rfl) rfl)
    (from_stops Fence.wide _ trivial rfl (by omega) D (D + 1) g gs m h HM0.out (Nat.le_of_lt HHL.out) HMM.out W3 (by rw [HD1.out]; omega) (by rw [HD1.out]; omega) (by have := HGB.out; have := HW0.out; omega) HD2.out HD3.out ((HTT.out.below HB3.out).cSl)) (fun h k => h.trans k) (kpF_b (by rw [HD1.out]; omega) (by rw [HD1.out]; omega) (by have := HGB.out; have := HW0.out; omega)) (Below.refl _ _) (fun _ => rfl)
    (fun (pre : List Nat) W => (∀ y, y ∈ pre → FullT ss m y) ∧ Below W3.heap.size W3 W)
    (FillX w g gs key room m cnt ss f)
    (OwnFrom.and (ownFrom_pure _ (fun pre : List Nat => ∀ y, y ∈ pre → FullT ss m y)) (ownFrom_below (Nat.le_refl _) (Nat.le_refl _)))
    (fun c => fillX_own w _ g gs key room m cnt ss f (by rw [HB.out]; have := HW0.out; omega) c)
    ⟨fun y hy => (by cases hy), Below.refl _ _⟩
    (fun (x : Nat) => { tmps := #[.pointer (some ⟨g, 0, none⟩), .agg C, .pointer (some ⟨B, 0, none⟩), .pointer (some ⟨B + 1, 0, none⟩), .int .i64 ((x % m : Nat) : Int), .pointer (some ⟨g, 0, none⟩), .pointer (some ⟨g, 0, none⟩), .pointer (some ⟨B + 1, 0, none⟩), TC, .int .i64 (h : Int), .func (.func 69) #[] #[.pointer (some ⟨D, 0, none⟩), .pointer (some ⟨D + 1, 0, none⟩)], .int .i64 ((x % m : Nat) : Int), undef, undef, undef, undef, undef, undef, undef, undef, undef, undef, undef, undef, undef, undef, undef, undef, undef, undef, undef, undef, undef, undef, undef], defers := [] }) ?assign ?body ?done ?stop
  case assign =>
    intro l x W K hK
    dsimp only [encF]
    gi_wp2
    exact hK
  case done =>
    rintro Q ys W hQ rfl ⟨hmiss, hbel⟩ hK
    have hbx : Below B w W := HWB.out.trans (hbel.mono (by have := HW0.out; omega))
    gi_wp2
    refine ⟨by simp, .inl ⟨_, _, rfl, run_takeDeferred hK, ?_⟩⟩
    refine ⟨_, results_none rfl _ _ _, ⟨_, rfl⟩, ?_, .inr (fun e he => hmiss _ (fromL_mem.2 ⟨e, he, rfl⟩))⟩
    refine Keep.of_below (by rw [HB.out]; exact hbx.trans (belowK_b (w := w) (by rw [HB.out]; exact Nat.le_refl _) W Q _ _ (by rw [HB.out]; have := HW0.out; omega) hK rfl rfl))
  case stop =>
    rintro Q c pre W hQ ⟨kk, hkk, hpre⟩ ⟨rfl, pre0, x, f0, h1, h2, h3, h4, h5, h6⟩ hK
    obtain ⟨d, rfl, rfl, rfl⟩ := fromL_last (h1.symm.trans hpre)
    have hres : FillG w g gs key room m cnt ss h f (W.putObj Q (.deferred none)) := ⟨keep_turn h6 (Nat.le_refl _) (grownBy_putObj' W Q _) (fun r e => by cases e; rw [HB.out]; have := HW0.out; omega), .inl ⟨d, f0, hkk, fun e he => h2 _ (fromL_mem.2 ⟨e, he, rfl⟩), h3, h4, tab_turn h5 (grownBy_putObj' W Q _) (fun r e => by cases e; exact ⟨_, hK, rfl⟩)⟩⟩
    have HRES := Lib.hid hres
    have HK := Lib.hid hK
    clear hpre h1 h2 h3 h4 h5 h6 hres hK hQ hkk
    gi_wp2
    refine ⟨by simp, .inl ⟨_, _, rfl, run_takeDeferred HK.out, ?_⟩⟩
    exact ⟨_, results_none rfl _ _ _, ⟨_, rfl⟩, HRES.out⟩

  case body =>
    rintro l pre x W ⟨hmiss, hbel⟩ hlt
    have HMISS := Lib.hid hmiss
    have HBEL := Lib.hid hbel
    have HBW : Hid (Below Y.heap.size Y W) := Lib.hid (HB3.out.trans (hbel.mono HB3.out.size))
    obtain ⟨p, hp⟩ : ∃ p, x % m = p := ⟨_, rfl⟩
    have HP := Lib.hid hp
    have hpm : p < m := by rw [← hp]; exact Nat.mod_lt _ HM0.out
    rw [hp]
    obtain ⟨f0, hf⟩ : ∃ f, ss[p]? = some f := ⟨_, List.getElem?_eq_getElem (by rw [HSL.out]; exact hpm)⟩
    have HF := Lib.hid hf
    have HTB := Lib.hid (HTT.out.below HBW.out)
    have q0 := HQ0.out W HBW.out
    have q1 := HTB.out.cSl
    have q2 := HTB.out.slotC hf (fw_st f0)
    have hpi : (p : Int) < (m : Int) := by omega
    have hp0 : (0 : Int) ≤ (p : Int) := by omega
    clear hmiss hbel hlt hp hf
    gi_upto_if 20 with fail
    by_cases hz : f0.st = 0
    · have hzb : (f0.st == 0) = true := by simp [hz]
      gi_upto_region 4 with fail
      have HFZ := Lib.hid hz
      have HPI := Lib.hid hpi
      have hBz : B + 1 < W.heap.size := by have := HBW.out.size; rw [HYZ.out] at this; omega
      have HW0B := Lib.hid (show Blk W 30 B [.pointer (some ⟨g, 0, none⟩)] from Blk_10.below HY0.out (Blk_10.lt HY0.out) HBW.out)
      have HW1B := Lib.hid (show Blk W 28 (B + 1) (fwL f) from Blk_10.below HY1.out (Blk_10.lt HY1.out) HBW.out)
      have S0 : Hid (∀ X, KpF B (B + 1) g W X → X.cell? ⟨B, 0, none⟩ = some (.pointer (some ⟨g, 0, none⟩))) := Lib.hid (fun X hX => Blk_10.cell (show Blk X 30 B _ from hX.t.trans HW0B.out) rfl)
      have S1 : Hid (∀ X, KpF B (B + 1) g W X → X.cell? ⟨g, 18, none⟩ = some (.slice (some ⟨gs, 0, none⟩) m m)) := Lib.hid (fun X hX => (World.cell?_of_block (a := ⟨g, 18, none⟩) hX.g).trans HTB.out.cSl)
      have S2 : Hid (∀ X, KpF B (B + 1) g W X → X.rangeAt (B + 1) 0 (fwL f)) := Lib.hid (fun X hX => Blk_10.range (show Blk X 28 (B + 1) _ from hX.f.trans HW1B.out))
      clear q0 q1 q2 hz hzb hBz
      refine wpIn_of_held (r := some l) (S := fun X => KpF B (B + 1) g W X) (by kernel_rfl) (by kernel_rfl) ⟨rfl, rfl, rfl⟩ (fun hHeld => ?_)
      obtain ⟨X0, hX0⟩ : ∃ X, W.drew = X := ⟨_, rfl⟩
      rw [hX0] at hHeld ⊢
      have HTX := Lib.hid (show TabR X0 g gs key room m cnt ss by rw [← hX0]; exact HTB.out.drew)
      have HX0 := Lib.hid hX0
      clear hX0
      refine tkY 0 21 (.pointer (some ⟨g, 0, none⟩)) rfl (Or.inl ⟨by rfl, fun X hX => by have hc := S0.out X hX; go_simp⟩) hHeld ?_
      simp only [Act.put, sA, sZ, sS]
      refine tk 1 22 (.pointer (some ⟨g, 0, none⟩)) rfl hHeld ?_
      simp only [Act.put, sA, sZ, sS]
      refine tk 2 23 (.pointer (some ⟨g, 18, none⟩)) rfl hHeld ?_
      simp only [Act.put, sA, sZ, sS]
      refine tkY 3 24 (.slice (some ⟨gs, 0, none⟩) m m) rfl (Or.inl ⟨by rfl, fun X hX => by have hc := S1.out X hX; go_simp⟩) hHeld ?_
      simp only [Act.put, sA, sZ, sS]
      refine tk 4 25 (.int .i64 (p : Int)) rfl hHeld ?_
      simp only [Act.put, sA, sZ, sS]
      refine tkY 5 26 (.agg C) rfl (yields_loadFw (by rfl) _ rfl (B + 1) 0 rfl f S2.out C HC.out) hHeld ?_
      simp only [Act.put, sA, sZ, sS]
      refine tk 6 27 (.pointer (some ⟨gs, p * 41, none⟩)) rfl hHeld ?_
      simp only [Act.put, sA, sZ, sS]
      refine wpAnyH_ready (rs := [7]) (by kernel_rfl) (by simp) (AllReadyH.cons (o := ⟨none, .store 28 (.tmp 27) (.tmp 26), _, _, _, _⟩) rfl (fun K hK => ?_) AllReadyH.nil)
      refine step_storeEG eF rfl _ _ rfl gs p (p * 41) rfl (by rfl) f C HC.out (by rfl) ss m m 0 HTX.out.own f0 HF.out ?_
      intro w7 ho7 hg7
      have HO7 := Lib.hid ho7
      have HG7 := Lib.hid hg7
      have hx0 : X0.heap.size = W.heap.size := by rw [← HX0.out]; rfl
      have k1 : KpF B (B + 1) g X0 w7 := ⟨hg7.block B (by rw [hx0]; exact Blk_10.lt HW0B.out) (fun e => by have := HSB.out; cases e; omega), hg7.block (B + 1) (by rw [hx0]; exact Blk_10.lt HW1B.out) (fun e => by have := HSB.out; cases e; omega), hg7.block g HTX.out.ltg (fun e => by cases e; exact HTX.out.ne rfl)⟩
      have HS7 := Lib.hid (hHeld.trans k1)
      clear ho7 hg7 k1 hx0
      refine hK.out _ _ HS7.out (fun hHeld => ?_)
      clear hK K
      refine wpAnyH_done (by kernel_rfl) ?_ _
      dsimp only [Only]
      clear hHeld
      have HT7 : Hid (TabR w7 g gs key room m cnt (ss.set p f)) := Lib.hid (HTX.out.put HO7.out HG7.out (by rw [List.length_set]; exact HTX.out.len))
      have q0 := S0.out w7 HS7.out
      have q1 := HT7.out.cCnt
      have q2 := Blk_10.frozen HT7.out.blk 17
      have hw1 : IntKind.i64.wrap ((cnt : Int) + 1) = (cnt : Int) + 1 := by have := HCN.out; rw [IntKind.wrap_i64]; omega
      gi_wp2
      have hc1 : ((cnt + 1 : Nat) : Int) = (cnt : Int) + 1 := by omega
      refine ⟨?_, rfl, pre, x, f0, rfl, HMISS.out, (by rw [HP.out]; exact HF.out), HFZ.out, ?_, ?_⟩
      · have k1 : KeepsFrom W3.heap.size W X0 := by rw [← HX0.out]; exact (KeepsOthers.drew W).from _
        have k2 : KeepsFrom W3.heap.size X0 w7 := KeepsFrom.of_grownBy HG7.out (fun j e => by cases e; have := HSB.out; have := HW0.out; omega)
        exact (k1.trans k2).trans ((KeepsOthers.setCell _ _ _).from _)
      · rw [HP.out, ← hc1]
        exact HT7.out.count (cnt + 1)
      · have k0 : Keep (fpT g gs) w W := Keep.of_below (by rw [HB.out]; exact HWB.out.trans (HBEL.out.mono (by have := HW0.out; omega)))
        have k1 : Keep (fpT g gs) W X0 := by rw [← HX0.out]; exact Keep.of_below (Below.refl _ W).drew
        have k2 : Keep (fpT g gs) X0 w7 := Keep.of_grown HG7.out (.inr rfl)
        exact ((k0.tr k1).tr k2).tr (Keep.of_set _ (.inl rfl))
    · have hzb : (f0.st == 0) = false := beq_eq_false_iff_ne.2 hz
      gi_wp2
      refine ⟨KeepsFrom.refl _ _, ⟨rfl, rfl, rfl⟩, fun y hy => ?_, HBEL.out⟩
      rcases List.mem_append.1 hy with hy | hy
      · exact HMISS.out y hy
      · obtain rfl : y = x := by simpa using hy
        exact ⟨f0, (by rw [HP.out]; exact HF.out), hz⟩
end Go.Proofs.Ytfbiinipiklkaaa
namespace Go.Proofs.Ytfbiinipiklkaaa
set_option maxRecDepth 100000
open Go.RowKit Go.Shelf Go.Lib

attribute [local go_sem] Oper.semAt_some

/-- Slots and the hole, as places come one behind the other. -/
inductive WentT (m : Nat) (home : Fw → Nat) (ss : List Fw) (a0 : Nat) : List Nat → List Fw → Nat → Prop
  | nil : WentT m home ss a0 [] ss a0
  | stay {pre cs a x f} : WentT m home ss a0 pre cs a → cs[x % m]? = some f → f.st ≠ 0 → ¬ dst m a (x % m) ≤ dst m (home f) (x % m) → WentT m home ss a0 (pre ++ [x]) cs a
  | move {pre cs a x f} : WentT m home ss a0 pre cs a → cs[x % m]? = some f → f.st ≠ 0 → dst m a (x % m) ≤ dst m (home f) (x % m) → WentT m home ss a0 (pre ++ [x]) (cs.set a f) (x % m)
theorem WentT.inv {m : Nat} {home : Fw → Nat} {ss : List Fw} {a0 : Nat} (h0 : 0 < m) (hl : ss.length = m) (hR : SlotsR ss) (ha : a0 < m) {pre : List Nat} {cs : List Fw} {a : Nat} (h : WentT m home ss a0 pre cs a) : cs.length = m ∧ SlotsR cs ∧ a < m := by
  induction h with
  | nil => exact ⟨hl, hR, ha⟩
  | stay _ _ _ _ ih => exact ih
  | move _ hf _ _ ih =>
    obtain ⟨h1, h2, _⟩ := ih
    refine ⟨by rw [List.length_set]; exact h1, fun x hx => ?_, Nat.mod_lt _ h0⟩
    rcases List.mem_or_eq_of_mem_set hx with hx | rfl
    · exact h2 x hx
    · exact h2 _ (List.mem_of_getElem? hf)
/-- What empty's cells hold. -/
structure EmpI (w : World) (B : Nat) (g gs : Nat) (key : List UInt8) (room m cnt : Nat) (cs : List Fw) (a : Nat) (W : World) : Prop where
  tab : TabR W g gs key room m cnt cs
  at_ : Blk W 3 (B + 1) [.int .i64 (a : Int)]
  box : Blk W 30 B [.pointer (some ⟨g, 0, none⟩)]
  keep : Keep (fpT g gs) w W
theorem EmpI.turn {w W W' : World} {B g gs room m cnt a : Nat} {key : List UInt8} {cs : List Fw} {row : Option Nat} (h : EmpI w B g gs key room m cnt cs a W) {C : Nat} (hC : w.heap.size ≤ C) (hg : W.grownBy W' row) (hr : ∀ r, row = some r → C ≤ r ∧ ∃ o : Obj, W.heap[r]? = some o ∧ o.isCells = false) : EmpI w B g gs key room m cnt cs a W' :=
  ⟨tab_turn h.tab hg (fun r e => (hr r e).2), blk_turn h.at_ hg (fun r e => (hr r e).2), blk_turn h.box hg (fun r e => (hr r e).2), keep_turn h.keep hC hg (fun r e => (hr r e).1)⟩
theorem EmpI.below {w W W' : World} {B g gs room m cnt a : Nat} {key : List UInt8} {cs : List Fw} (h : EmpI w B g gs key room m cnt cs a W) (hb : Below W.heap.size W W') : EmpI w B g gs key room m cnt cs a W' :=
  ⟨h.tab.below hb, Blk_10.below h.at_ (Blk_10.lt h.at_) hb, Blk_10.below h.box (Blk_10.lt h.box) hb, h.keep.tr (Keep.of_below hb)⟩
def EmpP (n3 : Nat) (w : World) (B : Nat) (home : Fw → Nat) (ss : List Fw) (a0 : Nat) (g gs : Nat) (key : List UInt8) (room m cnt : Nat) (pre : List Nat) (W : World) : Prop :=
  ∃ cs a, WentT m home ss a0 pre cs a ∧ EmpI w B g gs key room m cnt cs a W ∧ n3 ≤ W.heap.size
def EmpX (w : World) (B : Nat) (home : Fw → Nat) (ss : List Fw) (a0 : Nat) (g gs : Nat) (key : List UInt8) (room m cnt : Nat) (c : Code) (pre : List Nat) (W : World) : Prop :=
  c = .exit 0 ∧ ∃ pre0 x cs a f, pre = pre0 ++ [x] ∧ WentT m home ss a0 pre0 cs a ∧ cs[x % m]? = some f ∧ f.st = 0 ∧ EmpI w B g gs key room m cnt cs a W
theorem empP_own (w : World) (B C : Nat) (home : Fw → Nat) (ss : List Fw) (a0 g gs : Nat) (key : List UInt8) (room m cnt : Nat) (hC : w.heap.size ≤ C) : OwnFrom C (EmpP C w B home ss a0 g gs key room m cnt) := by
  rintro pre W W' row ⟨cs, a, h1, h2, h3⟩ hg hr
  exact ⟨cs, a, h1, h2.turn hC hg hr, Nat.le_trans h3 hg.size⟩
theorem empX_own (w : World) (B C : Nat) (home : Fw → Nat) (ss : List Fw) (a0 g gs : Nat) (key : List UInt8) (room m cnt : Nat) (hC : w.heap.size ≤ C) (c : Code) : OwnFrom C (EmpX w B home ss a0 g gs key room m cnt c) := by
  rintro pre W W' row ⟨hc, pre0, x, cs, a, f, h1, h2, h3, h4, h5⟩ hg hr
  exact ⟨hc, pre0, x, cs, a, f, h1, h2, h3, h4, h5.turn hC hg hr⟩
/-- Why it ends: the next slot is empty, or all have come. -/
def EndT (m : Nat) (cs : List Fw) (x d : Nat) : Prop := (d < m ∧ ∃ f, cs[x % m]? = some f ∧ f.st = 0) ∨ d = m
/-- What empty leaves. -/
def EmptyG (w : World) (g gs : Nat) (key : List UInt8) (room m cnt : Nat) (home : Fw → Nat) (ss : List Fw) (a0 first : Nat) (w' : World) : Prop :=
  ∃ d cs a, WentT m home ss a0 (fromL first d) cs a ∧ EndT m cs (first + d) d ∧ TabR w' g gs key room m (cnt - 1) (cs.set a fw0) ∧ Keep (fpT g gs) w w'

set_option maxHeartbeats 32000000 in
theorem pempty_any {g gs room m cnt a0 : Nat} {key : List UInt8} {ss : List Fw} (w : World) (hT : TabR w g gs key room m cnt ss) (h0 : 0 < m) (hm : m ≤ 100000) (hcnt : cnt ≤ 100000) (hc1 : 1 ≤ cnt) (hR : SlotsR ss) (ha : a0 < m) :
    Calls Try.prog 43 #[.pointer (some ⟨g, 0, none⟩), .int .i64 (a0 : Int)] w fun e w' => (∃ v, e = .returned v) ∧ EmptyG w g gs key room m cnt (fun f => homeN key m f.k) ss a0 (a0 + 1) w' := by
  obtain ⟨B, hB⟩ : ∃ B, w.heap.size = B := ⟨_, rfl⟩
  obtain ⟨Y, hY⟩ : ∃ Y, (w.alloc (.cells #[.pointer (some ⟨g, 0, none⟩)] 30)).alloc (.cells #[.int .i64 (a0 : Int)] 3) = Y := ⟨_, rfl⟩
  have hz1 : (w.alloc (.cells #[.pointer (some ⟨g, 0, none⟩)] 30)).heap.size = B + 1 := by rw [World.size_alloc, hB]
  have hYz : Y.heap.size = B + 1 + 1 := by rw [← hY, World.size_alloc, hz1]
  have y0 : Blk Y 30 B [.pointer (some ⟨g, 0, none⟩)] := by rw [← hY, ← hB]; exact Blk_10.alloc (Blk_10.new w _ _) _
  have y1 : Blk Y 3 (B + 1) [.int .i64 (a0 : Int)] := by rw [← hY, ← hz1]; exact Blk_10.new _ _ _
  have hBY : Below B w Y := by
    rw [← hY, ← hB]
    exact ((Below.refl _ w).alloc (Nat.le_refl _) _).alloc (by rw [hz1, hB]; omega) _
  have HI : Hid (EmpI w B g gs key room m cnt ss a0 Y) := Lib.hid ⟨hT.below (by rw [hB]; exact hBY), y1, y0, Keep.of_below (by rw [hB]; exact hBY)⟩
  have HGB := Lib.hid (show g < B by rw [← hB]; exact hT.ltg)
  have HSB := Lib.hid (show gs < B by rw [← hB]; exact hT.lts)
  have HSL := Lib.hid hT.len
  have HB := Lib.hid hB
  have HY := Lib.hid hY
  have HYZ := Lib.hid hYz
  have HM0 := Lib.hid h0
  have HMM := Lib.hid hm
  have HCN := Lib.hid hcnt
  have HC1 := Lib.hid hc1
  have HR := Lib.hid hR
  have HA := Lib.hid ha
  obtain ⟨home, hhome⟩ : ∃ home : Fw → Nat, (fun f : Fw => homeN key m f.k) = home := ⟨_, rfl⟩
  have HHO := Lib.hid hhome
  rw [hhome]
  have hwa : IntKind.i64.wrap ((a0 : Int) + 1) = (a0 : Int) + 1 := by rw [IntKind.wrap_i64]; omega
  have q0 : Y.cell? ⟨B, 0, none⟩ = some (.pointer (some ⟨g, 0, none⟩)) := Blk_10.cell y0 rfl
  have q1 : Y.cell? ⟨B + 1, 0, none⟩ = some (.int .i64 (a0 : Int)) := Blk_10.cell y1 rfl
  have hfr := fun W => pfrom_any g (a0 + 1) W
  rw [show ((a0 + 1 : Nat) : Int) = (a0 : Int) + 1 by omega] at hfr
  have HFR := Lib.hid hfr
  have f1 : Fence.wide.fn 55 := trivial
  clear hY hYz y0 y1 hBY hT hz1 h0 hm hB hcnt hc1 hR ha hhome hfr
  refine (callsIn_wide (n := 6)).1 ?_
  refine callsIn_of_wp_marks Try.func43 rfl trivial ?_ rfl
  simp only [Try.ntmps43, List.size_toArray, List.length_cons, List.length_nil, Nat.reduceAdd, Nat.reduceSub, Array.replicate_succ, Array.replicate_zero, List.push_toArray, List.append_toArray, List.nil_append, List.cons_append]
  gi_upto_region 1 with fail
  rw [HY.out, HB.out]
  gi_wp2_with (gi_at_call 55; refine (callsIn_wide.2 (HFR.out Y)).mono ?_; rintro e W3 ⟨rfl, hW3⟩; have HW3 := Lib.hid hW3; clear hW3)
  rw [HYZ.out]
  obtain ⟨D, hD⟩ : ∃ D, B + 1 + 1 = D := ⟨_, rfl⟩
  rw [hD]
  have HD := Lib.hid hD
  have hyd : Y.heap.size = D := by rw [HYZ.out, hD]
  have HD1 := Lib.hid (show W3.heap.size = D + 1 + 1 by rw [HW3.out, World.size_alloc, World.size_alloc, hyd])
  have HD2 := Lib.hid (show W3.cell? ⟨D, 0, none⟩ = some (.pointer (some ⟨g, 0, none⟩)) by rw [HW3.out, ← hyd]; exact Blk_10.cell (Blk_10.alloc (Blk_10.new Y 30 [.pointer (some ⟨g, 0, none⟩)]) _) rfl)
  have HD3 := Lib.hid (show W3.cell? ⟨D + 1, 0, none⟩ = some (.int .i64 ((a0 + 1 : Nat) : Int)) by
    rw [HW3.out, ← hyd]
    have := Blk_10.new (Y.alloc (.cells #[.pointer (some ⟨g, 0, none⟩)] 30)) 3 [.int .i64 ((a0 : Int) + 1)]
    rw [World.size_alloc] at this
    exact Blk_10.cell this rfl)
  have HB3 : Hid (Below Y.heap.size Y W3) := Lib.hid (by
    rw [HW3.out]
    exact ((Below.refl Y.heap.size Y).alloc (Nat.le_refl _) _).alloc (by rw [World.size_alloc]; exact Nat.le_succ _) _)
  have HI3 := Lib.hid (HI.out.below HB3.out)
  clear hD hyd q0 q1 hwa
  have hwd : w.heap.size ≤ W3.heap.size := by rw [HB.out, HD1.out, ← HD.out]; omega
  have HWD := Lib.hid hwd
  clear hwd
  refine wpIn_rangeFunc_ownG rfl (by omega) (gf := 69) (lb := #[.pointer (some ⟨D, 0, none⟩), .pointer (some ⟨D + 1, 0, none⟩)]) rfl trivial (enters_of Try.func69 (by kernel_rfl) rfl)
    (from_stops Fence.wide _ trivial rfl (by omega) D (D + 1) g gs m (a0 + 1) HM0.out HA.out HMM.out W3 (by rw [HD1.out]; omega) (by rw [HD1.out]; omega) HI3.out.tab.ltg HD2.out HD3.out HI3.out.tab.cSl) (fun h k => h.trans k) (kpF_b (by rw [HD1.out]; omega) (by rw [HD1.out]; omega) HI3.out.tab.ltg) (Below.refl _ _) (fun _ => rfl)
    (EmpP W3.heap.size w B home ss a0 g gs key room m cnt)
    (EmpX w B home ss a0 g gs key room m cnt)
    (empP_own w B _ home ss a0 g gs key room m cnt HWD.out)
    (fun c => empX_own w B _ home ss a0 g gs key room m cnt HWD.out c)
    ⟨ss, a0, .nil, HI3.out, Nat.le_refl _⟩
    (fun (x : Nat) => { tmps := #[.pointer (some ⟨g, 0, none⟩), .int .i64 (a0 : Int), .pointer (some ⟨B, 0, none⟩), .pointer (some ⟨B + 1, 0, none⟩), .int .i64 ((x % m : Nat) : Int), undef, .pointer (some ⟨g, 0, none⟩), .int .i64 (a0 : Int), .int .i64 ((a0 : Int) + 1), .func (.func 69) #[] #[.pointer (some ⟨D, 0, none⟩), .pointer (some ⟨D + 1, 0, none⟩)], .int .i64 ((x % m : Nat) : Int), undef, undef, undef, undef, undef, undef, undef, undef, undef, undef, undef, undef, undef, undef, undef, undef, undef, undef, undef, undef, undef, undef, undef, undef, undef, undef, undef, undef, undef, undef, undef, undef, undef, undef, undef, undef, undef, undef, undef, undef, undef, undef, undef, undef], defers := [] }) ?assign ?body ?done ?stop
  case assign =>
    intro l x W K hK
    dsimp only [encF]
    gi_wp2
    exact hK
  case done =>
    rintro Q ys W hQ rfl ⟨cs, a, hwe, hE, _⟩ hK
    have HWE := Lib.hid hwe
    have HE := Lib.hid hE
    have HQK := Lib.hid hK
    have HEND : Hid (EndT m cs (a0 + 1 + m) m) := Lib.hid (.inr rfl)
    have hQW : B + 1 < Q := by have := HD1.out; have := HD.out; omega
    clear hwe hE hK hQ
    have HQW := Lib.hid hQW
    have S0 : Hid (∀ X, KpF B (B + 1) g W X → X.cell? ⟨B, 0, none⟩ = some (.pointer (some ⟨g, 0, none⟩))) := Lib.hid (fun X hX => Blk_10.cell (show Blk X 30 B _ from hX.t.trans HE.out.box) rfl)
    have S1 : Hid (∀ X, KpF B (B + 1) g W X → X.cell? ⟨g, 18, none⟩ = some (.slice (some ⟨gs, 0, none⟩) m m)) := Lib.hid (fun X hX => (World.cell?_of_block (a := ⟨g, 18, none⟩) hX.g).trans HE.out.tab.cSl)
    have S2 : Hid (∀ X, KpF B (B + 1) g W X → X.cell? ⟨B + 1, 0, none⟩ = some (.int .i64 (a : Int))) := Lib.hid (fun X hX => Blk_10.cell (show Blk X 3 (B + 1) _ from hX.f.trans HE.out.at_) rfl)
    obtain ⟨hcl, hcr, ham⟩ := HWE.out.inv HM0.out HSL.out HR.out HA.out
    obtain ⟨f0, hf0⟩ : ∃ f, cs[a]? = some f := ⟨_, List.getElem?_eq_getElem (by rw [hcl]; exact ham)⟩
    have HF0 := Lib.hid hf0
    have HCL := Lib.hid hcl
    have hai : (a : Int) < (m : Int) := by omega
    have ha0' : (0 : Int) ≤ (a : Int) := by omega
    obtain ⟨Z, hZ⟩ : ∃ Z, (fwL fw0).toArray = Z := ⟨_, rfl⟩
    have HZ := Lib.hid hZ
    have HBZ : Hid (Try.prog.built 28 [] = some Z) := Lib.hid (by rw [← hZ]; kernel_rfl)
    clear hcl hcr ham hf0 hZ hQW
    gi_upto_region 7 with fail
    refine wpIn_of_held (r := none) (S := fun X => KpF B (B + 1) g W X) (by kernel_rfl) (by kernel_rfl) ⟨rfl, rfl, rfl⟩ (fun hHeld => ?_)
    obtain ⟨X0, hX0⟩ : ∃ X, W.drew = X := ⟨_, rfl⟩
    rw [hX0] at hHeld ⊢
    have HTX := Lib.hid (show TabR X0 g gs key room m cnt cs by rw [← hX0]; exact HE.out.tab.drew)
    have HX0 := Lib.hid hX0
    clear hX0
    refine tkY 0 41 (.pointer (some ⟨g, 0, none⟩)) rfl (Or.inl ⟨by rfl, fun X hX => by have hc := S0.out X hX; go_simp⟩) hHeld ?_
    simp only [Act.put, sA, sZ, sS]
    refine tk 1 42 (.pointer (some ⟨g, 0, none⟩)) rfl hHeld ?_
    simp only [Act.put, sA, sZ, sS]
    refine tk 2 43 (.pointer (some ⟨g, 18, none⟩)) rfl hHeld ?_
    simp only [Act.put, sA, sZ, sS]
    refine tkY 3 44 (.slice (some ⟨gs, 0, none⟩) m m) rfl (Or.inl ⟨by rfl, fun X hX => by have hc := S1.out X hX; go_simp⟩) hHeld ?_
    simp only [Act.put, sA, sZ, sS]
    refine tkY 4 45 (.int .i64 (a : Int)) rfl (Or.inl ⟨by rfl, fun X hX => by have hc := S2.out X hX; go_simp⟩) hHeld ?_
    simp only [Act.put, sA, sZ, sS]
    refine tkY 5 46 (.agg Z) rfl (yields_bldF (by rfl) 28 #[] rfl [] (by simp) Z HBZ.out) hHeld ?_
    simp only [Act.put, sA, sZ, sS]
    refine tk 6 47 (.pointer (some ⟨gs, a * 41, none⟩)) rfl hHeld ?_
    simp only [Act.put, sA, sZ, sS]
    refine wpAnyH_ready (rs := [7]) (by kernel_rfl) (by simp) (AllReadyH.cons (o := ⟨none, .store 28 (.tmp 47) (.tmp 46), _, _, _, _⟩) rfl (fun K hK => ?_) AllReadyH.nil)
    refine step_storeEG eF rfl _ _ rfl gs a (a * 41) rfl (by rfl) fw0 Z HZ.out (by rfl) cs m m 0 HTX.out.own f0 HF0.out ?_
    intro w7 ho7 hg7
    have HO7 := Lib.hid ho7
    have HG7 := Lib.hid hg7
    have hx0 : X0.heap.size = W.heap.size := by rw [← HX0.out]; rfl
    have k1 : KpF B (B + 1) g X0 w7 := ⟨hg7.block B (by rw [hx0]; exact Blk_10.lt HE.out.box) (fun e => by have := HSB.out; cases e; omega), hg7.block (B + 1) (by rw [hx0]; exact Blk_10.lt HE.out.at_) (fun e => by have := HSB.out; cases e; omega), hg7.block g HTX.out.ltg (fun e => by cases e; exact HTX.out.ne rfl)⟩
    have HS7 := Lib.hid (hHeld.trans k1)
    clear ho7 hg7 k1 hx0
    refine hK.out _ _ HS7.out (fun hHeld => ?_)
    clear hK K
    refine wpAnyH_done (by kernel_rfl) ?_ _
    dsimp only [Only]
    clear hHeld
    have HT7 : Hid (TabR w7 g gs key room m cnt (cs.set a fw0)) := Lib.hid (HTX.out.put HO7.out HG7.out (by rw [List.length_set]; exact HTX.out.len))
    have hQ7 : w7.heap[Q]? = some (.deferred (some [])) := (HG7.out.block Q (by rw [show X0.heap.size = W.heap.size by rw [← HX0.out]; rfl]; exact (Array.getElem?_eq_some_iff.1 HQK.out).1) (fun e => by have := HSB.out; have := HQW.out; cases e; omega)).trans ((show X0.heap[Q]? = W.heap[Q]? by rw [← HX0.out]; rfl).trans HQK.out)
    have HQ7 := Lib.hid (show (w7.setCell ⟨g, 17, none⟩ (.int .i64 ((cnt : Int) - 1))).heap[Q]? = some (.deferred (some [])) from ((gb_setCell w7 g 17 _).block Q (Array.getElem?_eq_some_iff.1 hQ7).1 (fun e => by have := HGB.out; have := HQW.out; cases e; omega)).trans hQ7)
    have hcz : ((cnt - 1 : Nat) : Int) = (cnt : Int) - 1 := by have := HC1.out; omega
    have HT8 : Hid (TabR (w7.setCell ⟨g, 17, none⟩ (.int .i64 ((cnt : Int) - 1))) g gs key room m (cnt - 1) (cs.set a fw0)) := Lib.hid (by rw [← hcz]; exact HT7.out.count (cnt - 1))
    have HK8 : Hid (Keep (fpT g gs) w (w7.setCell ⟨g, 17, none⟩ (.int .i64 ((cnt : Int) - 1)))) := Lib.hid (by
      have k1 : Keep (fpT g gs) W X0 := by rw [← HX0.out]; exact Keep.of_below (Below.refl _ W).drew
      have k2 : Keep (fpT g gs) X0 w7 := Keep.of_grown HG7.out (.inr rfl)
      exact ((HE.out.keep.tr k1).tr k2).tr (Keep.of_set _ (.inl rfl)))
    have q0 := S0.out w7 HS7.out
    have q1 := HT7.out.cCnt
    have q2 := Blk_10.frozen HT7.out.blk 17
    have hw1 : IntKind.i64.wrap ((cnt : Int) - 1) = (cnt : Int) - 1 := by have := HCN.out; rw [IntKind.wrap_i64]; omega
    clear hQ7 hcz
    gi_wp2
    refine ⟨by simp, .inl ⟨_, _, rfl, run_takeDeferred HQ7.out, ?_⟩⟩
    exact ⟨_, results_none rfl _ _ _, ⟨_, rfl⟩, _, cs, a, HWE.out, HEND.out, tab_turn HT8.out (grownBy_putObj' _ Q _) (fun r e => by cases e; exact ⟨_, HQ7.out, rfl⟩), keep_turn HK8.out (Nat.le_refl _) (grownBy_putObj' _ Q _) (fun r e => by cases e; rw [HB.out]; have := HQW.out; omega)⟩
  case stop =>
    rintro Q c pre W hQ ⟨kk, hkk, hpre⟩ ⟨rfl, pre0, x, cs, a, f, h1, hwe, h3, h4, hE⟩ hK
    obtain ⟨d, rfl, rfl, rfl⟩ := fromL_last (h1.symm.trans hpre)
    have HWE := Lib.hid hwe
    have HE := Lib.hid hE
    have HQK := Lib.hid hK
    have HEND : Hid (EndT m cs (a0 + 1 + d) d) := Lib.hid (.inl ⟨hkk, f, h3, h4⟩)
    have hQW : B + 1 < Q := by have := HD1.out; have := HD.out; omega
    clear hpre h1 hwe h3 h4 hE hK hQ hkk
    have HQW := Lib.hid hQW
    have S0 : Hid (∀ X, KpF B (B + 1) g W X → X.cell? ⟨B, 0, none⟩ = some (.pointer (some ⟨g, 0, none⟩))) := Lib.hid (fun X hX => Blk_10.cell (show Blk X 30 B _ from hX.t.trans HE.out.box) rfl)
    have S1 : Hid (∀ X, KpF B (B + 1) g W X → X.cell? ⟨g, 18, none⟩ = some (.slice (some ⟨gs, 0, none⟩) m m)) := Lib.hid (fun X hX => (World.cell?_of_block (a := ⟨g, 18, none⟩) hX.g).trans HE.out.tab.cSl)
    have S2 : Hid (∀ X, KpF B (B + 1) g W X → X.cell? ⟨B + 1, 0, none⟩ = some (.int .i64 (a : Int))) := Lib.hid (fun X hX => Blk_10.cell (show Blk X 3 (B + 1) _ from hX.f.trans HE.out.at_) rfl)
    obtain ⟨hcl, hcr, ham⟩ := HWE.out.inv HM0.out HSL.out HR.out HA.out
    obtain ⟨f0, hf0⟩ : ∃ f, cs[a]? = some f := ⟨_, List.getElem?_eq_getElem (by rw [hcl]; exact ham)⟩
    have HF0 := Lib.hid hf0
    have HCL := Lib.hid hcl
    have hai : (a : Int) < (m : Int) := by omega
    have ha0' : (0 : Int) ≤ (a : Int) := by omega
    obtain ⟨Z, hZ⟩ : ∃ Z, (fwL fw0).toArray = Z := ⟨_, rfl⟩
    have HZ := Lib.hid hZ
    have HBZ : Hid (Try.prog.built 28 [] = some Z) := Lib.hid (by rw [← hZ]; kernel_rfl)
    clear hcl hcr ham hf0 hZ hQW
    gi_upto_region 7 with fail
    refine wpIn_of_held (r := none) (S := fun X => KpF B (B + 1) g W X) (by kernel_rfl) (by kernel_rfl) ⟨rfl, rfl, rfl⟩ (fun hHeld => ?_)
    obtain ⟨X0, hX0⟩ : ∃ X, W.drew = X := ⟨_, rfl⟩
    rw [hX0] at hHeld ⊢
    have HTX := Lib.hid (show TabR X0 g gs key room m cnt cs by rw [← hX0]; exact HE.out.tab.drew)
    have HX0 := Lib.hid hX0
    clear hX0
    refine tkY 0 41 (.pointer (some ⟨g, 0, none⟩)) rfl (Or.inl ⟨by rfl, fun X hX => by have hc := S0.out X hX; go_simp⟩) hHeld ?_
    simp only [Act.put, sA, sZ, sS]
    refine tk 1 42 (.pointer (some ⟨g, 0, none⟩)) rfl hHeld ?_
    simp only [Act.put, sA, sZ, sS]
    refine tk 2 43 (.pointer (some ⟨g, 18, none⟩)) rfl hHeld ?_
    simp only [Act.put, sA, sZ, sS]
    refine tkY 3 44 (.slice (some ⟨gs, 0, none⟩) m m) rfl (Or.inl ⟨by rfl, fun X hX => by have hc := S1.out X hX; go_simp⟩) hHeld ?_
    simp only [Act.put, sA, sZ, sS]
    refine tkY 4 45 (.int .i64 (a : Int)) rfl (Or.inl ⟨by rfl, fun X hX => by have hc := S2.out X hX; go_simp⟩) hHeld ?_
    simp only [Act.put, sA, sZ, sS]
    refine tkY 5 46 (.agg Z) rfl (yields_bldF (by rfl) 28 #[] rfl [] (by simp) Z HBZ.out) hHeld ?_
    simp only [Act.put, sA, sZ, sS]
    refine tk 6 47 (.pointer (some ⟨gs, a * 41, none⟩)) rfl hHeld ?_
    simp only [Act.put, sA, sZ, sS]
    refine wpAnyH_ready (rs := [7]) (by kernel_rfl) (by simp) (AllReadyH.cons (o := ⟨none, .store 28 (.tmp 47) (.tmp 46), _, _, _, _⟩) rfl (fun K hK => ?_) AllReadyH.nil)
    refine step_storeEG eF rfl _ _ rfl gs a (a * 41) rfl (by rfl) fw0 Z HZ.out (by rfl) cs m m 0 HTX.out.own f0 HF0.out ?_
    intro w7 ho7 hg7
    have HO7 := Lib.hid ho7
    have HG7 := Lib.hid hg7
    have hx0 : X0.heap.size = W.heap.size := by rw [← HX0.out]; rfl
    have k1 : KpF B (B + 1) g X0 w7 := ⟨hg7.block B (by rw [hx0]; exact Blk_10.lt HE.out.box) (fun e => by have := HSB.out; cases e; omega), hg7.block (B + 1) (by rw [hx0]; exact Blk_10.lt HE.out.at_) (fun e => by have := HSB.out; cases e; omega), hg7.block g HTX.out.ltg (fun e => by cases e; exact HTX.out.ne rfl)⟩
    have HS7 := Lib.hid (hHeld.trans k1)
    clear ho7 hg7 k1 hx0
    refine hK.out _ _ HS7.out (fun hHeld => ?_)
    clear hK K
    refine wpAnyH_done (by kernel_rfl) ?_ _
    dsimp only [Only]
    clear hHeld
    have HT7 : Hid (TabR w7 g gs key room m cnt (cs.set a fw0)) := Lib.hid (HTX.out.put HO7.out HG7.out (by rw [List.length_set]; exact HTX.out.len))
    have hQ7 : w7.heap[Q]? = some (.deferred (some [])) := (HG7.out.block Q (by rw [show X0.heap.size = W.heap.size by rw [← HX0.out]; rfl]; exact (Array.getElem?_eq_some_iff.1 HQK.out).1) (fun e => by have := HSB.out; have := HQW.out; cases e; omega)).trans ((show X0.heap[Q]? = W.heap[Q]? by rw [← HX0.out]; rfl).trans HQK.out)
    have HQ7 := Lib.hid (show (w7.setCell ⟨g, 17, none⟩ (.int .i64 ((cnt : Int) - 1))).heap[Q]? = some (.deferred (some [])) from ((gb_setCell w7 g 17 _).block Q (Array.getElem?_eq_some_iff.1 hQ7).1 (fun e => by have := HGB.out; have := HQW.out; cases e; omega)).trans hQ7)
    have hcz : ((cnt - 1 : Nat) : Int) = (cnt : Int) - 1 := by have := HC1.out; omega
    have HT8 : Hid (TabR (w7.setCell ⟨g, 17, none⟩ (.int .i64 ((cnt : Int) - 1))) g gs key room m (cnt - 1) (cs.set a fw0)) := Lib.hid (by rw [← hcz]; exact HT7.out.count (cnt - 1))
    have HK8 : Hid (Keep (fpT g gs) w (w7.setCell ⟨g, 17, none⟩ (.int .i64 ((cnt : Int) - 1)))) := Lib.hid (by
      have k1 : Keep (fpT g gs) W X0 := by rw [← HX0.out]; exact Keep.of_below (Below.refl _ W).drew
      have k2 : Keep (fpT g gs) X0 w7 := Keep.of_grown HG7.out (.inr rfl)
      exact ((HE.out.keep.tr k1).tr k2).tr (Keep.of_set _ (.inl rfl)))
    have q0 := S0.out w7 HS7.out
    have q1 := HT7.out.cCnt
    have q2 := Blk_10.frozen HT7.out.blk 17
    have hw1 : IntKind.i64.wrap ((cnt : Int) - 1) = (cnt : Int) - 1 := by have := HCN.out; rw [IntKind.wrap_i64]; omega
    clear hQ7 hcz
    gi_wp2
    refine ⟨by simp, .inl ⟨_, _, rfl, run_takeDeferred HQ7.out, ?_⟩⟩
    exact ⟨_, results_none rfl _ _ _, ⟨_, rfl⟩, _, cs, a, HWE.out, HEND.out, tab_turn HT8.out (grownBy_putObj' _ Q _) (fun r e => by cases e; exact ⟨_, HQ7.out, rfl⟩), keep_turn HK8.out (Nat.le_refl _) (grownBy_putObj' _ Q _) (fun r e => by cases e; rw [HB.out]; have := HQW.out; omega)⟩
  case body =>
    rintro l pre x W ⟨cs, a, hwe, hE, hn3⟩ hlt
    have HN3 := Lib.hid hn3
    clear hn3
    have HWE := Lib.hid hwe
    have HE := Lib.hid hE
    obtain ⟨hcl, hcr, ham⟩ := hwe.inv HM0.out HSL.out HR.out HA.out
    obtain ⟨p, hp⟩ : ∃ p, x % m = p := ⟨_, rfl⟩
    have HP := Lib.hid hp
    have hpm : p < m := by rw [← hp]; exact Nat.mod_lt _ HM0.out
    rw [hp]
    obtain ⟨f, hf⟩ : ∃ f, cs[p]? = some f := ⟨_, List.getElem?_eq_getElem (by rw [hcl]; exact hpm)⟩
    obtain ⟨f1, hf1⟩ : ∃ f, cs[a]? = some f := ⟨_, List.getElem?_eq_getElem (by rw [hcl]; exact ham)⟩
    have HF := Lib.hid hf
    have HF1 := Lib.hid hf1
    have HCR := Lib.hid hcr
    have HCL := Lib.hid hcl
    have HAM := Lib.hid ham
    have HPM := Lib.hid hpm
    have q0 : W.cell? ⟨B, 0, none⟩ = some (.pointer (some ⟨g, 0, none⟩)) := Blk_10.cell hE.box rfl
    have q1 := hE.tab.cSl
    have HSR := Lib.hid (hE.tab.slot hf)
    have hpi : (p : Int) < (m : Int) := by omega
    have hp0 : (0 : Int) ≤ (p : Int) := by omega
    obtain ⟨C, hC⟩ : ∃ C, (fwL f).toArray = C := ⟨_, rfl⟩
    have HC := Lib.hid hC
    obtain ⟨E, hEz⟩ : ∃ E, W.heap.size = E := ⟨_, rfl⟩
    have HEZ := Lib.hid hEz
    clear hwe hE hcl hcr ham hp hf hf1 hlt hC hEz
    gi_upto_region 3 with fail
    refine wpIn_of_list (r := some l) (by kernel_rfl) ?_
    go_wp2_with (first
      | ((with_reducible show wpList _ _ _ (⟨some 17, _, _, _, _, _⟩ :: _) _ _); refine wpList_loadFw (op := ⟨some 17, _, _, _, _, _⟩) _ rfl (by rfl) gs (p * 41) (by rfl) f HSR.out C HC.out ?_)
      | ((with_reducible show wpList _ _ _ (⟨none, .store _ _ _, _, _, _, _⟩ :: _) _ _); refine wpList_storeNewL rfl _ _ _ rfl (by rfl) (fwL f) C HC.out (by rfl) (by rw [fwL_len]; rfl) (sizeFwL f) (fwL_one f) ?_; intro w2 hb2 hbel2 hsz2; rw [HEZ.out] at hb2; have HB2 := Lib.hid hb2; have HBEL2 := Lib.hid hbel2; clear hb2 hbel2 hsz2))
    dsimp only [Only]
    rw [HEZ.out]
    have HE2 := Lib.hid (HE.out.below HBEL2.out)
    have HK2 := Lib.hid (keeps_below W3.heap.size HBEL2.out)
    have q2 : w2.cell? ⟨E, 38, none⟩ = some (.int .i64 f.st) := Blk_10.cell HB2.out (fw_st f)
    clear q0 q1 hpi hp0
    gi_upto_if 20 with fail
    by_cases hz : f.st = 0
    · have hzb : (f.st == 0) = true := by simp [hz]
      gi_wp2
      exact ⟨HK2.out, rfl, pre, x, cs, a, f, rfl, HWE.out, (by rw [HP.out]; exact HF.out), hz, HE2.out⟩
    · have hzb : (f.st == 0) = false := beq_eq_false_iff_ne.2 hz
      gi_upto_region 5 with fail
      have hrf : rightF f = true := HCR.out f (List.mem_of_getElem? HF.out) hz
      obtain ⟨TC, hTC⟩ : ∃ T, tuC f.k = T := ⟨_, rfl⟩
      have HTC := Lib.hid hTC
      obtain ⟨h, hh⟩ : ∃ h, home f = h := ⟨_, rfl⟩
      have hhm : homeN key m f.k = h := by rw [← hh, ← HHO.out]
      have hhl : h < m := by rw [← hhm]; exact homeN_lt key HM0.out f.k
      have HHL := Lib.hid hhl
      have HH := Lib.hid hh
      have HFZ := Lib.hid hz
      have HTB : Hid (∀ X, Below w2.heap.size w2 X → TabR X g gs key room m cnt cs) := Lib.hid (fun X hX => HE2.out.tab.below hX)
      have HHM : Hid (∀ X, Below w2.heap.size w2 X → Calls Try.prog 56 #[.pointer (some ⟨g, 0, none⟩), TC] X fun e w' => e = .returned (.int .i64 (h : Int)) ∧ Below X.heap.size X w') := Lib.hid (fun X hX => by
        have := phome_any X (HTB.out X hX) HM0.out HMM.out f.ok (right_fit hrf)
        rwa [hTC, hhm] at this)
      obtain ⟨d1, hd1⟩ : ∃ d, dst m h p = d := ⟨_, rfl⟩
      obtain ⟨d2, hd2⟩ : ∃ d, dst m a p = d := ⟨_, rfl⟩
      have HG1 : Hid (∀ X, Below w2.heap.size w2 X → Calls Try.prog 57 #[.pointer (some ⟨g, 0, none⟩), .int .i64 (h : Int), .int .i64 (p : Int)] X fun e w' => e = .returned (.int .i64 (d1 : Int)) ∧ Below X.heap.size X w') := Lib.hid (fun X hX => by
        have := pgap_any X (HTB.out X hX) HHL.out HPM.out HMM.out
        rwa [hd1] at this)
      have HG2 : Hid (∀ X, Below w2.heap.size w2 X → Calls Try.prog 57 #[.pointer (some ⟨g, 0, none⟩), .int .i64 (a : Int), .int .i64 (p : Int)] X fun e w' => e = .returned (.int .i64 (d2 : Int)) ∧ Below X.heap.size X w') := Lib.hid (fun X hX => by
        have := pgap_any X (HTB.out X hX) HAM.out HPM.out HMM.out
        rwa [hd2] at this)
      have HD12 := Lib.hid (show dst m (home f) (x % m) = d1 by rw [hh, HP.out]; exact hd1)
      have HD22 := Lib.hid (show dst m a (x % m) = d2 by rw [HP.out]; exact hd2)
      have HFOK := Lib.hid f.ok
      have S0 : Hid (∀ X, Below w2.heap.size w2 X → X.cell? ⟨B, 0, none⟩ = some (.pointer (some ⟨g, 0, none⟩))) := Lib.hid (fun X hX => Blk_10.cell (Blk_10.below HE2.out.box (Blk_10.lt HE2.out.box) hX) rfl)
      have S1 : Hid (∀ X, Below w2.heap.size w2 X → X.cell? ⟨B + 1, 0, none⟩ = some (.int .i64 (a : Int))) := Lib.hid (fun X hX => Blk_10.cell (Blk_10.below HE2.out.at_ (Blk_10.lt HE2.out.at_) hX) rfl)
      have S2 : Hid (∀ X, Below w2.heap.size w2 X → X.rangeAt E 0 (tuL f.k)) := Lib.hid (fun X hX => fw_key (Blk_10.range (Blk_10.below HB2.out (Blk_10.lt HB2.out) hX)))
      obtain ⟨mv, hmv⟩ : ∃ mv : Bool, decide (d2 ≤ d1) = mv := ⟨_, rfl⟩
      have HMV := Lib.hid hmv
      have hge : decide ((d1 : Int) ≥ (d2 : Int)) = mv := by rw [← hmv]; apply decide_eq_decide.2; omega
      have hge2 : decide ((d2 : Int) ≤ (d1 : Int)) = mv := hge
      have hge3 : decide (d2 ≤ d1) = mv := hmv
      clear hz hzb hTC hh hhm hhl hrf hd1 hd2 hmv q2
      refine wpIn_of_held (r := some l) (S := fun X => Below w2.heap.size w2 X) (by kernel_rfl) (by kernel_rfl) ((Below.refl w2.heap.size w2).drew) (fun hHeld => ?_)
      obtain ⟨X0, hX0⟩ : ∃ X, w2.drew = X := ⟨_, rfl⟩
      rw [hX0] at hHeld ⊢
      clear hX0
      refine tkY 0 21 (.pointer (some ⟨g, 0, none⟩)) rfl (Or.inl ⟨by rfl, fun X hX => by have hc := S0.out X hX; go_simp⟩) hHeld ?_
      simp only [Act.put, sA, sZ, sS]
      refine tkY 1 22 (.pointer (some ⟨g, 0, none⟩)) rfl (Or.inl ⟨by rfl, fun X hX => by have hc := S0.out X hX; go_simp⟩) hHeld ?_
      simp only [Act.put, sA, sZ, sS]
      refine tk 2 23 (.pointer (some ⟨E, 0, none⟩)) rfl hHeld ?_
      simp only [Act.put, sA, sZ, sS]
      refine tkY 3 24 TC rfl (yields_loadTuL (by rfl) _ rfl E 0 rfl f.k HFOK.out TC HTC.out S2.out) hHeld ?_
      simp only [Act.put, sA, sZ, sS]
      refine tk 5 26 (.int .i64 (p : Int)) rfl hHeld ?_
      simp only [Act.put, sA, sZ, sS]
      refine tkY 7 28 (.pointer (some ⟨g, 0, none⟩)) rfl (Or.inl ⟨by rfl, fun X hX => by have hc := S0.out X hX; go_simp⟩) hHeld ?_
      simp only [Act.put, sA, sZ, sS]
      refine tkY 8 29 (.int .i64 (a : Int)) rfl (Or.inl ⟨by rfl, fun X hX => by have hc := S1.out X hX; go_simp⟩) hHeld ?_
      simp only [Act.put, sA, sZ, sS]
      refine tk 9 30 (.int .i64 (p : Int)) rfl hHeld ?_
      simp only [Act.put, sA, sZ, sS]
      refine wpAnyH_ready (rs := [4]) (by kernel_rfl) (by simp) (AllReadyH.cons (o := ⟨some 25, _, _, _, _, _⟩) rfl (fun K hK => ?_) AllReadyH.nil)
      go_simp
      refine (HHM.out X0 hHeld).mono ?_
      rintro e X1 ⟨rfl, hb1⟩
      have HX1 := Lib.hid (hHeld.trans (hb1.mono hHeld.size))
      clear hb1
      refine hK.out _ _ HX1.out (fun hHeld => ?_)
      clear hK K
      refine wpAnyH_ready (rs := [6]) (by kernel_rfl) (by simp) (AllReadyH.cons (o := ⟨some 27, _, _, _, _, _⟩) rfl (fun K hK => ?_) AllReadyH.nil)
      go_simp
      refine (HG1.out X1 HX1.out).mono ?_
      rintro e X2 ⟨rfl, hb1⟩
      have HX2 := Lib.hid (HX1.out.trans (hb1.mono HX1.out.size))
      clear hb1
      refine hK.out _ _ HX2.out (fun hHeld => ?_)
      clear hK K
      refine wpAnyH_ready (rs := [10]) (by kernel_rfl) (by simp) (AllReadyH.cons (o := ⟨some 31, _, _, _, _, _⟩) rfl (fun K hK => ?_) AllReadyH.nil)
      go_simp
      refine (HG2.out X2 HX2.out).mono ?_
      rintro e X3 ⟨rfl, hb1⟩
      have HX3 := Lib.hid (HX2.out.trans (hb1.mono HX2.out.size))
      clear hb1
      refine hK.out _ _ HX3.out (fun hHeld => ?_)
      clear hK K
      refine tk 11 32 (.bool mv) rfl hHeld ?_
      simp only [Act.put, sA, sZ, sS]
      refine wpAnyH_done (by kernel_rfl) ?_ _
      dsimp only [Only]
      clear hHeld hge hge2 hge3
      have HE3 := Lib.hid (HE2.out.below HX3.out)
      have HB3' := Lib.hid (Blk_10.below HB2.out (Blk_10.lt HB2.out) HX3.out)
      have HK3 := Lib.hid (HK2.out.trans (keeps_below W3.heap.size HX3.out))
      have HKB : Hid (Below W.heap.size W X3) := Lib.hid (HBEL2.out.trans (HX3.out.mono HBEL2.out.size))
      cases mv with
      | false =>
        have hng : ¬ d2 ≤ d1 := of_decide_eq_false HMV.out
        gi_wp2
        refine ⟨HK3.out, ⟨HKB.out.block D (Nat.lt_of_lt_of_le (by rw [HD1.out]; omega) HN3.out), HKB.out.block (D + 1) (Nat.lt_of_lt_of_le (by rw [HD1.out]; omega) HN3.out), HKB.out.block g HE.out.tab.ltg⟩, cs, a, ?_, HE3.out, Nat.le_trans HN3.out HKB.out.size⟩
        exact WentT.stay HWE.out (by rw [HP.out]; exact HF.out) HFZ.out (by rw [HD12.out, HD22.out]; exact hng)
      | true =>
        have HMG := Lib.hid (show d2 ≤ d1 from of_decide_eq_true HMV.out)
        have hai : (a : Int) < (m : Int) := by have := HAM.out; omega
        have ha0' : (0 : Int) ≤ (a : Int) := by omega
        gi_upto_region 6 with fail
        have T0 : Hid (∀ X, KpF B E g X3 X → X.cell? ⟨B, 0, none⟩ = some (.pointer (some ⟨g, 0, none⟩))) := Lib.hid (fun X hX => Blk_10.cell (show Blk X 30 B _ from hX.t.trans HE3.out.box) rfl)
        have T1 : Hid (∀ X, KpF B E g X3 X → X.cell? ⟨g, 18, none⟩ = some (.slice (some ⟨gs, 0, none⟩) m m)) := Lib.hid (fun X hX => (World.cell?_of_block (a := ⟨g, 18, none⟩) hX.g).trans HE3.out.tab.cSl)
        have T2 : Hid (∀ X, KpF B E g X3 X → X.rangeAt E 0 (fwL f)) := Lib.hid (fun X hX => Blk_10.range (show Blk X 28 E _ from hX.f.trans HB3'.out))
        refine wpIn_of_held (r := some l) (S := fun X => KpF B E g X3 X) (by kernel_rfl) (by kernel_rfl) ⟨rfl, rfl, rfl⟩ (fun hHeld => ?_)
        obtain ⟨X4, hX4⟩ : ∃ X, X3.drew = X := ⟨_, rfl⟩
        rw [hX4] at hHeld ⊢
        have HE4 := Lib.hid (show EmpI w B g gs key room m cnt cs a X4 by rw [← hX4]; exact HE3.out.below (Below.refl _ X3).drew)
        have HX4 := Lib.hid hX4
        have HX4z := Lib.hid (show X4.heap.size = X3.heap.size by rw [← hX4]; rfl)
        clear hX4
        refine tkY 0 33 (.pointer (some ⟨g, 0, none⟩)) rfl (Or.inl ⟨by rfl, fun X hX => by have hc := T0.out X hX; go_simp⟩) hHeld ?_
        simp only [Act.put, sA, sZ, sS]
        refine tk 1 34 (.pointer (some ⟨g, 0, none⟩)) rfl hHeld ?_
        simp only [Act.put, sA, sZ, sS]
        refine tk 2 35 (.pointer (some ⟨g, 18, none⟩)) rfl hHeld ?_
        simp only [Act.put, sA, sZ, sS]
        refine tkY 3 36 (.slice (some ⟨gs, 0, none⟩) m m) rfl (Or.inl ⟨by rfl, fun X hX => by have hc := T1.out X hX; go_simp⟩) hHeld ?_
        simp only [Act.put, sA, sZ, sS]
        refine tkY 5 38 (.agg C) rfl (yields_loadFw (by rfl) _ rfl E 0 rfl f T2.out C HC.out) hHeld ?_
        simp only [Act.put, sA, sZ, sS]
        refine tk 6 39 (.int .i64 (p : Int)) rfl hHeld ?_
        simp only [Act.put, sA, sZ, sS]
        have qa : X4.cell? ⟨B + 1, 0, none⟩ = some (.int .i64 (a : Int)) := Blk_10.cell HE4.out.at_ rfl
        refine wpAnyH_ready (rs := [4]) (by kernel_rfl) (by simp) (AllReadyH.cons (o := ⟨some 37, _, _, _, _, _⟩) rfl (fun K hK => ?_) AllReadyH.nil)
        go_simp
        refine hK.out _ _ hHeld (fun hHeld => ?_)
        clear hK K qa
        refine tk 7 40 (.pointer (some ⟨gs, a * 41, none⟩)) rfl hHeld ?_
        simp only [Act.put, sA, sZ, sS]
        refine wpAnyH_ready (rs := [8]) (by kernel_rfl) (by simp) (AllReadyH.cons (o := ⟨none, .store 28 (.tmp 40) (.tmp 38), _, _, _, _⟩) rfl (fun K hK => ?_) AllReadyH.nil)
        refine step_storeEG eF rfl _ _ rfl gs a (a * 41) rfl (by rfl) f C HC.out (by rfl) cs m m 0 HE4.out.tab.own f1 HF1.out ?_
        intro w7 ho7 hg7
        have HO7 := Lib.hid ho7
        have HG7 := Lib.hid hg7
        have hEB : B + 1 < E := by rw [← HEZ.out]; exact Blk_10.lt HE.out.at_
        have HEB := Lib.hid hEB
        have HS7 : Hid (KpF B E g X3 w7) := Lib.hid (hHeld.trans ⟨hg7.block B (Blk_10.lt HE4.out.box) (fun e => by have := HSB.out; cases e; omega), hg7.block E (by rw [HX4z.out]; exact Blk_10.lt HB3'.out) (fun e => by have := HSB.out; have := HEB.out; cases e; omega), hg7.block g HE4.out.tab.ltg (fun e => by cases e; exact HE4.out.tab.ne rfl)⟩)
        have HA7 : Hid (Blk w7 3 (B + 1) [.int .i64 (a : Int)]) := Lib.hid (Blk.gb HE4.out.at_ hg7 (fun e => by have := HSB.out; cases e; omega))
        clear ho7 hg7 hEB
        refine hK.out _ _ HS7.out (fun hHeld => ?_)
        clear hK K
        refine wpAnyH_ready (rs := [9]) (by kernel_rfl) (by simp) (AllReadyH.cons (o := ⟨none, .store 3 (.tmp 3) (.tmp 39), _, _, _, _⟩) rfl (fun K hK => ?_) AllReadyH.nil)
        refine step_storeB1 rfl 3 _ _ rfl (B + 1) 0 (by rfl) (.int .i64 (p : Int)) (by rfl) 3 [.int .i64 (a : Int)] HA7.out (by simp) (by kernel_rfl) rfl rfl ?_
        intro w8 hb8 hg8
        have HB8 := Lib.hid (show Blk w8 3 (B + 1) [.int .i64 (p : Int)] from hb8)
        have HG8 := Lib.hid hg8
        have h7z : X3.heap.size ≤ w7.heap.size := by rw [← HX4z.out]; exact HG7.out.size
        have HS8 : Hid (KpF B E g X3 w8) := Lib.hid (HS7.out.trans ⟨hg8.block B (Nat.lt_of_lt_of_le (Blk_10.lt HE3.out.box) h7z) (fun e => by cases e), hg8.block E (Nat.lt_of_lt_of_le (Blk_10.lt HB3'.out) h7z) (fun e => by have := HEB.out; cases e; omega), hg8.block g (Nat.lt_of_lt_of_le HE3.out.tab.ltg h7z) (fun e => by have := HGB.out; cases e; omega)⟩)
        clear hb8 hg8 h7z
        refine hK.out _ _ HS8.out (fun hHeld => ?_)
        clear hK K
        refine wpAnyH_done (by kernel_rfl) ?_ _
        dsimp only [Only]
        clear hHeld
        have HT7 : Hid (TabR w7 g gs key room m cnt (cs.set a f)) := Lib.hid (HE4.out.tab.put HO7.out HG7.out (by rw [List.length_set]; exact HE4.out.tab.len))
        have HT8 : Hid (TabR w8 g gs key room m cnt (cs.set a f)) := Lib.hid (HT7.out.keep (HG8.out.block g HT7.out.ltg (fun e => by have := HGB.out; cases e; omega)) (HG8.out.block gs HT7.out.lts (fun e => by have := HSB.out; cases e; omega)))
        gi_wp2
        have hwB : w.heap.size ≤ B := by rw [HB.out]; exact Nat.le_refl _
        have k8 : Keep (fpT g gs) w w8 := by
          have k1 : Keep (fpT g gs) X4 w7 := Keep.of_grown HG7.out (.inr rfl)
          have k2 := HE4.out.keep.tr k1
          exact ⟨HG8.out.os.trans k2.os, HG8.out.tape.trans k2.tape, HG8.out.output.trans k2.output, Nat.le_trans k2.size HG8.out.size, fun k hk hn => (HG8.out.block k (Nat.lt_of_lt_of_le hk k2.size) (fun e => by cases e; omega)).trans (k2.block k hk hn)⟩
        have kf : KeepsFrom W3.heap.size X4 w8 := (KeepsFrom.of_grownBy HG7.out (fun j e => by cases e; have := HSB.out; have := HD1.out; have := HD.out; omega)).trans (KeepsFrom.of_grownBy HG8.out (fun j e => by cases e; have := HD1.out; have := HD.out; omega))
        have kx : KeepsFrom W3.heap.size X3 X4 := by rw [← HX4.out]; exact (KeepsOthers.drew X3).from _
        have hbk : ∀ k, k < W.heap.size → k ≠ gs → k ≠ B + 1 → w8.heap[k]? = W.heap[k]? := fun k hk h1 h2 => by
          have e1 := HKB.out.block k hk
          have e2 : X4.heap[k]? = X3.heap[k]? := by rw [← HX4.out]; rfl
          have hk3 : k < X4.heap.size := by rw [HX4z.out]; exact Nat.lt_of_lt_of_le hk HKB.out.size
          have e3 := HG7.out.block k hk3 (fun e => h1 (by cases e; rfl))
          have e4 := HG8.out.block k (Nat.lt_of_lt_of_le hk3 HG7.out.size) (fun e => h2 (by cases e; rfl))
          exact e4.trans (e3.trans (e2.trans e1))
        have hz8 : W.heap.size ≤ w8.heap.size := Nat.le_trans (Nat.le_trans HKB.out.size (by rw [← HX4z.out]; exact HG7.out.size)) HG8.out.size
        have hdw : D + 1 < W.heap.size := Nat.lt_of_lt_of_le (by rw [HD1.out]; omega) HN3.out
        have hsd : gs < D := by have := HSB.out; have := HD.out; omega
        have hbd : B + 1 < D := by have := HD.out; omega
        refine ⟨(HK3.out.trans kx).trans kf, ⟨hbk D (by omega) (by omega) (by omega), hbk (D + 1) hdw (by omega) (by omega), hbk g HE.out.tab.ltg HE.out.tab.ne (by have := HGB.out; omega)⟩, cs.set a f, p, ?_, ⟨HT8.out, HB8.out, ?_, k8⟩, Nat.le_trans HN3.out hz8⟩
        · have := WentT.move HWE.out (x := x) (by rw [HP.out]; exact HF.out) HFZ.out (by rw [HD12.out, HD22.out]; exact HMG.out)
          rwa [HP.out] at this
        · exact (show w8.heap[B]? = X3.heap[B]? from HS8.out.t).trans HE3.out.box

end Go.Proofs.Ytfbiinipiklkaaa
namespace Go.Proofs.Ytfbiinipiklkaaa
set_option maxRecDepth 100000
open Go.RowKit Go.Lib

/-- What stands in a slot. -/
def slotF (ss : List Fw) (i : Nat) : Option Fw := match ss[i]? with
  | some f => if f.st = 0 then none else some f
  | none => none
theorem slotF_some {ss : List Fw} {i : Nat} {f : Fw} : slotF ss i = some f ↔ ss[i]? = some f ∧ f.st ≠ 0 := by
  unfold slotF
  cases h : ss[i]? with
  | none => simp
  | some x =>
    by_cases hz : x.st = 0
    · simp only [hz, if_true]
      constructor
      · intro e
        cases e
      · rintro ⟨e, h2⟩
        cases e
        exact absurd hz h2
    · simp only [hz, if_false]
      constructor
      · intro e
        cases e
        exact ⟨rfl, hz⟩
      · rintro ⟨e, _⟩
        exact e
theorem slotF_hole {ss : List Fw} {i : Nat} {f : Fw} (h : ss[i]? = some f) (hz : f.st = 0) : slotF ss i = none := by
  unfold slotF
  rw [h]
  simp [hz]
theorem slotF_set {ss : List Fw} {p : Nat} {f : Fw} (hp : p < ss.length) (hz : f.st ≠ 0) : slotF (ss.set p f) = upd (slotF ss) p (some f) := by
  funext i
  by_cases hi : i = p
  · subst hi
    rw [upd_at]
    exact slotF_some.2 ⟨List.getElem?_set_self hp, hz⟩
  · rw [upd_ne _ hi]
    unfold slotF
    rw [List.getElem?_set_ne (fun e => hi e.symm)]
theorem slotF_clear {ss : List Fw} {p : Nat} (hp : p < ss.length) : slotF (ss.set p fw0) = upd (slotF ss) p none := by
  funext i
  by_cases hi : i = p
  · subst hi
    rw [upd_at]
    exact slotF_hole (List.getElem?_set_self hp) rfl
  · rw [upd_ne _ hi]
    unfold slotF
    rw [List.getElem?_set_ne (fun e => hi e.symm)]
theorem mod_slot {m h d : Nat} (hh : h < m) (hd : d < m) : (h + d) % m = slotAt m h d := by
  unfold slotAt
  split
  · rename_i hlt
    exact Nat.mod_eq_of_lt hlt
  · rename_i hge
    rw [Nat.mod_eq_sub_mod (by omega), Nat.mod_eq_of_lt (by omega)]
/-- What the slots are to the flows. -/
structure RepH (key : List UInt8) (m : Nat) (ss : List Fw) (l : List Fw) : Prop where
  live : (liveL (slotF ss) m).Perm l
  prob : Probed m (fun f => homeN key m f.k) (slotF ss)
  right : SlotsR ss
  len : ss.length = m
  pos : 0 < m
theorem RepH.mem {key : List UInt8} {m : Nat} {ss l : List Fw} (h : RepH key m ss l) {x : Fw} : x ∈ l ↔ ∃ i, i < m ∧ ss[i]? = some x ∧ x.st ≠ 0 := by
  rw [← h.live.mem_iff, live_mem]
  constructor
  · rintro ⟨i, hi, hx⟩
    obtain ⟨h1, h2⟩ := slotF_some.1 hx
    exact ⟨i, hi, h1, h2⟩
  · rintro ⟨i, hi, h1, h2⟩
    exact ⟨i, hi, slotF_some.2 ⟨h1, h2⟩⟩
theorem RepH.found {key : List UInt8} {m room : Nat} {ss l : List Fw} (h : RepH key m ss l) (hr : RightT room l) {p : Nat} {f : Fw} (hp : ss[p]? = some f) (hz : f.st ≠ 0) : hasK l f.k = some f := by
  have hlt := (List.getElem?_eq_some_iff.1 hp).1
  exact hasK_of hr.apart (h.mem.2 ⟨p, by rw [← h.len]; exact hlt, hp, hz⟩)
/-- What find answers. -/
theorem RepH.find {key : List UInt8} {m room : Nat} {ss l : List Fw} (h : RepH key m ss l) (hr : RightT room l) {k : Tu} {p : Nat} {b : Bool} (hf : FindG ss m (homeN key m k) k p b) :
    (b = true ∧ p < m ∧ ∃ f, ss[p]? = some f ∧ f.st ≠ 0 ∧ f.k = k ∧ hasK l k = some f) ∨ (b = false ∧ hasK l k = none) := by
  have hh := homeN_lt key h.pos k
  rcases hf with ⟨hb, d, f, hd, _, rfl, h1, h2, rfl⟩ | ⟨hb, _, h3⟩
  · exact .inl ⟨hb, Nat.mod_lt _ h.pos, f, h1, h2, rfl, h.found hr h1 h2⟩
  · refine .inr ⟨hb, hasK_no fun x hx e => ?_⟩
    obtain ⟨i, hi, hx1, hx2⟩ := h.mem.1 hx
    have hs := slotF_some.2 ⟨hx1, hx2⟩
    have hme : ∀ e', e' < m → slotAt m (homeN key m k) e' = i → MissT ss m k (homeN key m k + e') → False := by
      rintro e' he' hsl ⟨f, hf1, _, hf3⟩
      rw [mod_slot hh he', hsl, hx1] at hf1
      cases hf1
      exact hf3 e
    have hdi := dst_lt hh hi
    rcases h3 with ⟨d, f, hd, hm, hf1, hf2⟩ | hm
    · have hn : slotF ss ((homeN key m k + d) % m) = none := slotF_hole hf1 hf2
      rw [mod_slot hh hd] at hn
      have := probe_none h.prob (slotAt_lt hh hd) hn hi hs (by show homeN key m x.k = homeN key m k; rw [e]) hh
      rw [dst_slotAt hh hd] at this
      exact hme _ hdi (slotAt_dst hh hi) (hm _ this)
    · exact hme _ hdi (slotAt_dst hh hi) (hm _ hdi)
/-- All the others. -/
theorem out_perm {room : Nat} {l L : List Fw} {f : Fw} (hr : RightT room l) (h : l.Perm (f :: L)) : (outK l f.k).Perm L := by
  have ha : (f :: L).Pairwise fun a b => a.k ≠ b.k := h.pairwise hr.apart (fun h e => h e.symm)
  obtain ⟨h1, _⟩ := List.pairwise_cons.1 ha
  have h2 : (outK l f.k).Perm (outK (f :: L) f.k) := h.filter _
  have h3 : outK (f :: L) f.k = L := by
    unfold outK
    rw [List.filter_cons_of_neg (by rw [tuQ_self]; decide), List.filter_eq_self.2 (fun z hz => by rw [tuQ_ne (fun e => h1 z hz e.symm)]; rfl)]
  rw [h3] at h2
  exact h2
theorem set_right {ss : List Fw} {p : Nat} {f : Fw} (h : SlotsR ss) (hf : f.st ≠ 0 → rightF f = true) : SlotsR (ss.set p f) := fun x hx hz => by
  rcases List.mem_or_eq_of_mem_set hx with hx | rfl
  · exact h x hx hz
  · exact hf hz
/-- Another flow of the same key, in its place. -/
theorem RepH.set {key : List UInt8} {m room : Nat} {ss l : List Fw} (h : RepH key m ss l) (hr : RightT room l) {p : Nat} {f0 f : Fw} (hp : ss[p]? = some f0) (hz : f0.st ≠ 0) (hk : f0.k = f.k) (hf : rightF f = true) : RepH key m (ss.set p f) (insF f (outK l f.k)) := by
  have hlt := (List.getElem?_eq_some_iff.1 hp).1
  have hpm : p < m := by rw [← h.len]; exact hlt
  have hs := slotF_some.2 ⟨hp, hz⟩
  have e := slotF_set hlt (right_st hf)
  refine ⟨?_, ?_, set_right h.right (fun _ => hf), by rw [List.length_set]; exact h.len, h.pos⟩
  · rw [e]
    have h1 : (liveL (upd (slotF ss) p (some f)) m).Perm (f :: liveL (upd (slotF ss) p none) m) := live_at (some f) hpm
    have h2 := live_out hpm hs
    have h3 := out_perm hr (h.live.symm.trans h2)
    rw [hk] at h3
    exact h1.trans ((h3.symm.cons f).trans (insF_perm f _).symm)
  · rw [e]
    exact probe_set h.prob hpm hs (by show homeN key m f.k = homeN key m f0.k; rw [hk])
/-- One more flow, in the first empty slot from its home on. -/
theorem RepH.fill {key : List UInt8} {m : Nat} {ss l : List Fw} (h : RepH key m ss l) {d : Nat} {f f0 : Fw} (hd : d < m) (hfull : ∀ e, e < d → FullT ss m (homeN key m f.k + e)) (h0 : ss[(homeN key m f.k + d) % m]? = some f0) (hz : f0.st = 0) (hf : rightF f = true) : RepH key m (ss.set ((homeN key m f.k + d) % m) f) (insF f l) := by
  have hh := homeN_lt key h.pos f.k
  obtain ⟨p, hp⟩ : ∃ p, (homeN key m f.k + d) % m = p := ⟨_, rfl⟩
  have hps : p = slotAt m (homeN key m f.k) d := by rw [← hp]; exact mod_slot hh hd
  rw [hp] at h0 ⊢
  have hlt := (List.getElem?_eq_some_iff.1 h0).1
  have hpm : p < m := by rw [← h.len]; exact hlt
  have hn := slotF_hole h0 hz
  have e := slotF_set hlt (right_st hf)
  refine ⟨?_, ?_, set_right h.right (fun _ => hf), by rw [List.length_set]; exact h.len, h.pos⟩
  · rw [e]
    exact (live_put hpm hn).trans ((h.live.cons f).trans (insF_perm f _).symm)
  · rw [e]
    refine probe_put h.prob hpm hn (fun q hq hdq => ?_)
    have hdq' : dst m (homeN key m f.k) q < dst m (homeN key m f.k) p := hdq
    rw [hps, dst_slotAt hh hd] at hdq'
    obtain ⟨x, hx1, hx2⟩ := hfull _ hdq'
    rw [mod_slot hh (dst_lt hh hq), slotAt_dst hh hq] at hx1
    rw [slotF_some.2 ⟨hx1, hx2⟩]
    exact nofun
/-- There is an empty slot. -/
theorem RepH.room {key : List UInt8} {m : Nat} {ss l : List Fw} (h : RepH key m ss l) (hl : l.length < m) {x : Nat} (hx : x < m) (hfull : ∀ e, e < m → FullT ss m (x + e)) : False := by
  obtain ⟨p, hp, hn⟩ := live_hole (s := slotF ss) (n := m) (by rw [h.live.length_eq]; exact hl)
  obtain ⟨f, h1, h2⟩ := hfull _ (dst_lt hx hp)
  rw [mod_slot hx (dst_lt hx hp), slotAt_dst hx hp] at h1
  rw [slotF_some.2 ⟨h1, h2⟩] at hn
  cases hn
/-- The hole is on the way. -/
theorem gap_iff {m a j h : Nat} (ha : a < m) (hj : j < m) (hh : h < m) (hne : a ≠ j) : dst m a j ≤ dst m h j ↔ dst m h a < dst m h j := by
  unfold dst
  repeat' split
  all_goals omega
/-- Where the places stand behind a0. -/
theorem dst_from {m a0 d : Nat} (ha : a0 < m) (hd : d + 1 < m) : (a0 + 1 + d) % m < m ∧ dst m a0 ((a0 + 1 + d) % m) = d + 1 := by
  have e : a0 + 1 + d = a0 + (d + 1) := by omega
  rw [e, mod_slot ha hd]
  exact ⟨slotAt_lt ha hd, dst_slotAt ha hd⟩
theorem nxt_from {m a0 d : Nat} (ha : a0 < m) (hd : d + 2 < m) : nxt m ((a0 + 1 + d) % m) = (a0 + 1 + (d + 1)) % m := by
  have e : a0 + 1 + d = a0 + (d + 1) := by omega
  have e2 : a0 + 1 + (d + 1) = a0 + (d + 2) := by omega
  rw [e, e2, mod_slot ha (by omega), mod_slot ha hd]
  exact nxt_slotAt ha (by omega)
/-- While places come one behind the other. -/
structure InvE (m : Nat) (home : Fw → Nat) (ss : List Fw) (a0 d : Nat) (cs : List Fw) (a : Nat) : Prop where
  same : ∀ d', d ≤ d' → d' + 1 < m → cs[(a0 + 1 + d') % m]? = ss[(a0 + 1 + d') % m]?
  lt : a < m
  near : dst m a0 a ≤ d
  hole : Holed m home (upd (slotF cs) a none) a
  pass : Passed m home (upd (slotF cs) a none) a ((a0 + 1 + d) % m)
  live : (liveL (upd (slotF cs) a none) m).Perm (liveL (upd (slotF ss) a0 none) m)
  len : cs.length = m
theorem inv_zero {m : Nat} {home : Fw → Nat} {ss : List Fw} {a0 : Nat} (ha : a0 < m) (h1 : 1 < m) (hl : ss.length = m) (hp : Probed m home (slotF ss)) : InvE m home ss a0 0 ss a0 where
  same _ _ _ := rfl
  lt := ha
  near := by rw [dst_self]; exact Nat.le_refl _
  hole := hole_new hp a0
  pass := by
    have e : (a0 + 1 + 0) % m = nxt m a0 := by
      unfold nxt
      split
      · rename_i h
        exact Nat.mod_eq_of_lt h
      · rename_i h
        obtain rfl : m = a0 + 1 := by omega
        exact Nat.mod_self _
    rw [e]
    exact passed_new _ ha h1
  live := List.Perm.refl _
  len := hl
theorem inv_succ {m : Nat} {home : Fw → Nat} {ss cs : List Fw} {a0 a d : Nat} (ha0 : a0 < m) (hhm : ∀ f, home f < m) (hd : d + 2 < m) (h : InvE m home ss a0 d cs a) {f : Fw} (hf : cs[(a0 + 1 + d) % m]? = some f) (hz : f.st ≠ 0) :
    (¬ dst m a ((a0 + 1 + d) % m) ≤ dst m (home f) ((a0 + 1 + d) % m) → InvE m home ss a0 (d + 1) cs a) ∧
    (dst m a ((a0 + 1 + d) % m) ≤ dst m (home f) ((a0 + 1 + d) % m) → InvE m home ss a0 (d + 1) (cs.set a f) ((a0 + 1 + d) % m)) := by
  obtain ⟨hj, hdj⟩ := dst_from ha0 (show d + 1 < m by omega)
  have hnx := nxt_from ha0 hd
  obtain ⟨hj2, hdj2⟩ := dst_from ha0 (d := d + 1) (by omega)
  obtain ⟨j, hjd⟩ : ∃ j, (a0 + 1 + d) % m = j := ⟨_, rfl⟩
  rw [hjd] at hj hdj hnx hf ⊢
  have haj : a ≠ j := fun e => by have := h.near; rw [e, hdj] at this; omega
  have hs : upd (slotF cs) a none j = some f := by
    rw [upd_ne _ (fun e => haj e.symm)]
    exact slotF_some.2 ⟨hf, hz⟩
  have hg := gap_iff h.lt hj (hhm f) haj
  have hpass := h.pass
  rw [hjd] at hpass
  constructor
  · intro hn
    refine ⟨fun d' h1 h2 => h.same d' (by omega) h2, h.lt, Nat.le_succ_of_le h.near, h.hole, ?_, h.live, h.len⟩
    rw [← hnx]
    exact passed_more h.lt hj hs (fun e => hn (hg.2 e)) (fun e => by
      have := h.near
      rw [← e, hnx, hdj2] at this
      omega) hpass
  · intro hy
    have hlt : a < cs.length := by rw [h.len]; exact h.lt
    have e1 : upd (slotF (cs.set a f)) j none = upd (upd (upd (slotF cs) a none) a (some f)) j none := by
      rw [slotF_set hlt hz, upd_twice]
    refine ⟨fun d' h1 h2 => ?_, hj, by rw [hdj]; exact Nat.le_refl _, ?_, ?_, ?_, by rw [List.length_set]; exact h.len⟩
    · obtain ⟨hq, hdq⟩ := dst_from ha0 h2
      rw [List.getElem?_set_ne (fun e => by have := h.near; rw [e, hdq] at this; omega)]
      exact h.same d' (by omega) h2
    · rw [e1]
      exact hole_move h.lt hj hs (hg.1 hy) h.hole
    · rw [e1, ← hnx]
      exact passed_new _ hj (by omega)
    · rw [e1]
      exact (live_move h.lt hj hs (upd_at a none)).trans h.live
/-- Up to the first empty slot behind a0 at the furthest. -/
theorem went_inv {m : Nat} {home : Fw → Nat} {ss : List Fw} {a0 dq : Nat} (ha0 : a0 < m) (h1 : 1 < m) (hl : ss.length = m) (hp : Probed m home (slotF ss)) (hhm : ∀ f, home f < m) (hdq : dq + 1 < m) (hq : slotF ss ((a0 + 1 + dq) % m) = none) {pre : List Nat} {cs : List Fw} {a : Nat} (hw : WentT m home ss a0 pre cs a) :
    ∀ d, pre = fromL (a0 + 1) d → d ≤ dq ∧ InvE m home ss a0 d cs a := by
  have hstop : ∀ {d : Nat} {cs : List Fw} {a : Nat} {f : Fw}, d ≤ dq → InvE m home ss a0 d cs a → cs[(a0 + 1 + d) % m]? = some f → f.st ≠ 0 → d < dq := by
    intro d cs a f hd hi hf hz
    rcases Nat.lt_or_ge d dq with h2 | h2
    · exact h2
    · obtain rfl : d = dq := by omega
      rw [hi.same d (Nat.le_refl _) hdq] at hf
      rw [slotF_some.2 ⟨hf, hz⟩] at hq
      cases hq
  induction hw with
  | nil =>
    intro d hd
    cases d with
    | zero => exact ⟨Nat.zero_le _, inv_zero ha0 h1 hl hp⟩
    | succ d =>
      rw [fromL_succ] at hd
      have := congrArg List.length hd
      simp at this
  | stay hw hf hz hn ih =>
    intro d hd
    obtain ⟨d, rfl, hpre, rfl⟩ := fromL_last hd
    obtain ⟨h2, h3⟩ := ih d hpre
    have h4 := hstop h2 h3 hf hz
    exact ⟨h4, (inv_succ ha0 hhm (by omega) h3 hf hz).1 hn⟩
  | move hw hf hz hy ih =>
    intro d hd
    obtain ⟨d, rfl, hpre, rfl⟩ := fromL_last hd
    obtain ⟨h2, h3⟩ := ih d hpre
    have h4 := hstop h2 h3 hf hz
    exact ⟨h4, (inv_succ ha0 hhm (by omega) h3 hf hz).2 hy⟩
/-- What empty comes to. -/
theorem RepH.empty {key : List UInt8} {m room : Nat} {ss l : List Fw} (h : RepH key m ss l) (hr : RightT room l) (hl : l.length < m) {a0 : Nat} {f0 : Fw} (h0 : ss[a0]? = some f0) (hz : f0.st ≠ 0) {d a : Nat} {cs : List Fw} (hw : WentT m (fun f => homeN key m f.k) ss a0 (fromL (a0 + 1) d) cs a) (he : EndT m cs (a0 + 1 + d) d) :
    RepH key m (cs.set a fw0) (outK l f0.k) := by
  have hlt := (List.getElem?_eq_some_iff.1 h0).1
  have ha0 : a0 < m := by rw [← h.len]; exact hlt
  have hs := slotF_some.2 ⟨h0, hz⟩
  obtain ⟨q, hqm, hqn⟩ := live_hole (s := slotF ss) (n := m) (by rw [h.live.length_eq]; exact hl)
  have hq0 : q ≠ a0 := fun e => by rw [e, hs] at hqn; cases hqn
  have hdq0 : dst m a0 q ≠ 0 := fun e => hq0 (dst_zero ha0 hqm e).symm
  have hdqm := dst_lt ha0 hqm
  obtain ⟨dq, hdq⟩ : ∃ dq, dst m a0 q = dq + 1 := ⟨dst m a0 q - 1, by omega⟩
  have hqp : (a0 + 1 + dq) % m = q := by
    rw [show a0 + 1 + dq = a0 + (dq + 1) by omega, mod_slot ha0 (by omega), ← hdq]
    exact slotAt_dst ha0 hqm
  obtain ⟨h1, h2⟩ := went_inv (dq := dq) ha0 (by omega) h.len h.prob (fun f => homeN_lt key h.pos f.k) (by omega) (by rw [hqp]; exact hqn) hw d rfl
  have hal : a < cs.length := by rw [h2.len]; exact h2.lt
  have e := slotF_clear hal
  obtain ⟨hi1, hi2, hi3⟩ := hw.inv h.pos h.len h.right ha0
  refine ⟨?_, ?_, set_right hi2 (fun e => absurd rfl e), by rw [List.length_set]; exact h2.len, h.pos⟩
  · rw [e]
    exact h2.live.trans (out_perm hr (h.live.symm.trans (live_out ha0 hs))).symm
  · rw [e]
    obtain ⟨hj, hdj⟩ := dst_from ha0 (d := d) (by omega)
    have haj : a ≠ (a0 + 1 + d) % m := fun e => by have := h2.near; rw [e, hdj] at this; omega
    rcases he with ⟨_, f, hf1, hf2⟩ | he
    · refine hole_end h2.lt hj (fun q x _ _ => homeN_lt key h.pos x.k) h2.hole h2.pass ?_ haj
      rw [upd_ne _ (fun e => haj e.symm)]
      exact slotF_hole hf1 hf2
    · omega
/-- What there is, slot by slot. -/
theorem live_filter {ss : List Fw} (hR : SlotsR ss) : ∀ n, liveL (slotF ss) n = (ss.take n).filter rightF
  | 0 => rfl
  | n + 1 => by
    unfold liveL
    rw [live_filter hR n, List.take_add_one, List.filter_append]
    congr 1
    cases h : ss[n]? with
    | none =>
      unfold slotF
      rw [h]
      rfl
    | some f =>
      by_cases hz : f.st = 0
      · rw [slotF_hole h hz, Option.toList_some, List.filter_cons_of_neg (fun e => right_st e hz), List.filter_nil]
        rfl
      · rw [slotF_some.2 ⟨h, hz⟩, Option.toList_some, List.filter_cons_of_pos (hR f (List.mem_of_getElem? h) hz), List.filter_nil]
theorem RepH.vals {key : List UInt8} {m : Nat} {ss l : List Fw} (h : RepH key m ss l) : ((liveR ss).map (·.1)).Perm l := by
  rw [liveR_val]
  have h1 := h.live
  rw [live_filter h.right, List.take_of_length_le (by rw [h.len]; exact Nat.le_refl _)] at h1
  exact h1
/-- The oldest one. -/
theorem minR_min : ∀ pre : List RF, (pre = [] ∧ minR pre = fw0) ∨ (minR pre ∈ pre.map (·.1) ∧ ∀ x, x ∈ pre → olderF x.1 (minR pre) = false) := by
  have h : ∀ n (pre : List RF), pre.length = n → (pre = [] ∧ minR pre = fw0) ∨ (minR pre ∈ pre.map (·.1) ∧ ∀ x, x ∈ pre → olderF x.1 (minR pre) = false) := by
    intro n
    induction n with
    | zero => exact fun pre hn => .inl ⟨List.eq_nil_of_length_eq_zero hn, by rw [List.eq_nil_of_length_eq_zero hn]; rfl⟩
    | succ n ih =>
      intro pre hn
      obtain ⟨p, x, rfl⟩ : ∃ p x, pre = p ++ [x] := ⟨pre.dropLast, pre.getLast (fun e => by rw [e] at hn; cases hn), (List.dropLast_concat_getLast _).symm⟩
      have hp : p.length = n := by simpa using hn
      right
      rw [minR_snoc, List.map_append]
      rcases ih p hp with ⟨rfl, h2⟩ | ⟨h1, h2⟩
      · rw [h2, if_pos (show fw0.st = 0 from rfl)]
        refine ⟨by simp, fun y hy => ?_⟩
        obtain rfl : y = x := by simpa using hy
        exact older_irr _
      · obtain ⟨y, _, hy2⟩ := List.mem_map.1 h1
        have hst : (minR p).st ≠ 0 := by rw [← hy2]; exact right_st y.2
        rw [if_neg hst]
        by_cases ho : olderF x.1 (minR p) = true
        · rw [if_pos ho]
          refine ⟨List.mem_append.2 (.inr (by simp)), fun z hz => ?_⟩
          rcases List.mem_append.1 hz with hz | hz
          · apply Bool.eq_false_iff.2
            intro e
            have := older_trans e ho
            rw [h2 z hz] at this
            cases this
          · obtain rfl : z = x := by simpa using hz
            exact older_irr _
        · rw [if_neg ho]
          refine ⟨List.mem_append.2 (.inl h1), fun z hz => ?_⟩
          rcases List.mem_append.1 hz with hz | hz
          · exact h2 z hz
          · obtain rfl : z = x := by simpa using hz
            exact Bool.eq_false_iff.2 ho
  exact fun pre => h pre.length pre rfl
theorem RepH.oldest {key : List UInt8} {m room : Nat} {ss : List Fw} {a : Fw} {t : List Fw} (h : RepH key m ss (a :: t)) (hr : RightT room (a :: t)) : minR (liveR ss) = a := by
  have hv := h.vals
  rcases minR_min (liveR ss) with ⟨h1, _⟩ | ⟨h1, h2⟩
  · rw [h1] at hv
    have := hv.length_eq
    simp at this
  · rcases List.mem_cons.1 (hv.mem_iff.1 h1) with h3 | h3
    · exact h3
    · have h4 := (List.pairwise_cons.1 hr.sort).1 _ h3
      obtain ⟨x, hx, hx2⟩ := List.mem_map.1 (hv.mem_iff.2 List.mem_cons_self)
      have := h2 x hx
      rw [show x.1 = a from hx2, h4] at this
      cases this
end Go.Proofs.Ytfbiinipiklkaaa
namespace Go.Proofs.Ytfbiinipiklkaaa
set_option maxRecDepth 100000
open Go.RowKit Go.Lib

/-- The table at v, of room r, holds l. -/
def RepT (w : World) (fp : Nat → Prop) (v : Value) (r : Nat) (l : List Fw) : Prop :=
  ∃ g gs key ss, v = .pointer (some ⟨g, 0, none⟩) ∧ fp = fpT g gs ∧ TabR w g gs key r (2 * r) l.length ss ∧ RepH key (2 * r) ss l
def FoundT (ss l : List Fw) (m : Nat) (k : Tu) (p : Nat) (b : Bool) : Prop :=
  (b = true ∧ p < m ∧ ∃ f, ss[p]? = some f ∧ f.st ≠ 0 ∧ f.k = k ∧ hasK l k = some f) ∨ (b = false ∧ hasK l k = none)
theorem hasK_unknown {room : Nat} {l : List Fw} (hr : RightT room l) {k : Tu} (h : knownB k = false) : hasK l k = none := hasK_no fun x hx e => by
  have := hr.right x hx
  unfold rightF at this
  rw [e, h] at this
  cases this
theorem pfind_rep {g gs room m cnt : Nat} {key : List UInt8} {ss l : List Fw} (w : World) (hT : TabR w g gs key room m cnt ss) (hH : RepH key m ss l) {rm : Nat} (hr : RightT rm l) (hm : m ≤ 100000) {k : Tu} (ho : k.Ok) :
    Calls Try.prog 39 #[.pointer (some ⟨g, 0, none⟩), tuC k] w fun e w' => ∃ (p : Nat) (b : Bool), e = .returned (.tuple #[.int .i64 (p : Int), .bool b]) ∧ FoundT ss l m k p b ∧ Below w.heap.size w w' := by
  cases hk : knownB k with
  | true =>
    refine (pfind_yes w hT hH.pos hm ho hk).mono ?_
    rintro e w' ⟨p, b, rfl, hf, hb⟩
    exact ⟨p, b, rfl, hH.find hr hf, hb⟩
  | false =>
    refine (pfind_no w ho hk).mono ?_
    rintro e w' ⟨rfl, hb⟩
    exact ⟨0, false, rfl, .inr ⟨rfl, hasK_unknown hr hk⟩, hb⟩
theorem outK_none {l : List Fw} {k : Tu} (h : hasK l k = none) : outK l k = l := by
  unfold outK
  exact List.filter_eq_self.2 (fun x hx => by rw [tuQ_ne (hasK_none h x hx)]; rfl)
theorem hasK_len {l : List Fw} {k : Tu} {f : Fw} (h : hasK l k = some f) : 1 ≤ l.length := List.length_pos_of_mem (hasK_some h).1
theorem results_fwb {fn : Func} {p u : Tmp} (hr : fn.results = #[.cell p 28, .tmp u]) (tmps : Array Value) (w : World) (g : Nat) (hp : tmps.getD p undef = .pointer (some ⟨g, 0, none⟩)) (x : Fw) (hb : Blk w 28 g (fwL x))
    (a : Value) (hu : tmps.getD u undef = a) : (results fn tmps).run Try.prog w = .ok (.tuple #[fwC x, a]) w := by
  have hz := run_loadVar_mid (P := Try.prog) w g 0 28 (fwL x) _ (Blk_10.range hb) Try.underlying28 rfl (sizeFwL x)
  have hc : (results fn tmps).run Try.prog w = ((asAddr (tmps.getD p undef)).run Try.prog w).andThen fun a w₁ => ((loadVar 28 a).run Try.prog w₁).andThen fun x w₂ => .ok (.tuple #[x, tmps.getD u undef]) w₂ := by
    simp only [results, hr]
    simp [Sem.run_bind, Result.andThen]
  rw [hc, hp, hu]
  simp [Result.andThen, asAddr, hz, fwC]
theorem results_fwc {fn : Func} {p u v : Tmp} (hr : fn.results = #[.cell p 28, .tmp u, .tmp v]) (tmps : Array Value) (w : World) (g : Nat) (hp : tmps.getD p undef = .pointer (some ⟨g, 0, none⟩)) (x : Fw) (hb : Blk w 28 g (fwL x))
    (a b : Value) (hu : tmps.getD u undef = a) (hv : tmps.getD v undef = b) : (results fn tmps).run Try.prog w = .ok (.tuple #[fwC x, a, b]) w := results_fw3 hr tmps w g hp x hb a b hu hv
set_option maxHeartbeats 8000000 in
theorem pdrop_any {w : World} {fp : Nat → Prop} {v : Value} {r : Nat} {l : List Fw} (h : RepT w fp v r l) (hr : RightT r l) (h1 : 1 ≤ r) (h2 : r ≤ 4096) {k : Tu} (hk : k.Ok) :
    Calls Try.prog 21 #[v, tuC k] w fun e w' => e = .returned (.bool (hasK l k).isSome) ∧ Left RepT w fp v r (outK l k) w' fp := by
  obtain ⟨g, gs, key, ss, rfl, rfl, hT, hH⟩ := h
  obtain ⟨m, hm⟩ : ∃ m, 2 * r = m := ⟨_, rfl⟩
  rw [hm] at hT hH
  obtain ⟨Y, hY, hb, hbel, hys⟩ := box_tu1 w k
  obtain ⟨C0, hC0⟩ : ∃ C, (tuL k).toArray = C := ⟨_, rfl⟩
  have HY := Lib.hid (show w.alloc (.cells C0 26) = Y by rw [← hC0]; exact hY)
  have hte : tuC k = .agg C0 := by unfold tuC; rw [hC0]
  have HTE := Lib.hid hte
  have HBY := Lib.hid hbel
  have HKR := Lib.hid (Blk_10.range hb)
  have HOK := Lib.hid hk
  have HM := Lib.hid hm
  have hll : l.length ≤ 4096 := Nat.le_trans hr.fits h2
  have HTY := Lib.hid (hT.below hbel)
  have HH := Lib.hid hH
  have HR := Lib.hid hr
  have HFD := Lib.hid (pfind_rep Y (hT.below hbel) hH hr (by omega) hk)
  have HLL := Lib.hid hll
  have HMM := Lib.hid (show m ≤ 100000 by omega)
  have HLM := Lib.hid (show l.length < m by have := hr.fits; omega)
  have HLT := Lib.hid hT.ltg
  have HLS := Lib.hid hT.lts
  rw [hte] at HFD ⊢
  clear hY hb hbel hys hC0 hte hk hm hll hT hH hr h1 h2
  go_enter Try.func21, Try.ntmps21
  go_upto_region 1 with (fail)
  rw [HY.out]
  go_upto_region 2 with (first
    | ((with_reducible show wpList _ _ _ (⟨some 9, _, _, _, _, _⟩ :: _) _ _); refine wpList_loadTuL (op := ⟨some 9, _, _, _, _, _⟩) _ rfl (by rfl) w.heap.size 0 (by rfl) k HOK.out HKR.out (.agg C0) HTE.out ?_)
    | ((with_reducible refine HFD.out.mono ?_); rintro e W1 ⟨p, b, rfl, hf, hb1⟩; have HF := Lib.hid hf; have HB1 := Lib.hid hb1; clear hf hb1))
  cases b with
  | false =>
    have hn : hasK l k = none := by
      rcases HF.out with ⟨e, _⟩ | ⟨_, e⟩
      · cases e
      · exact e
    have HN := Lib.hid hn
    clear hn
    go_wp2_with fail
    go_ret
    refine ⟨(by rw [HN.out]; rfl), ?_⟩
    rw [outK_none HN.out]
    have hbx : Below w.heap.size w W1 := HBY.out.trans (HB1.out.mono HBY.out.size)
    exact ⟨⟨g, gs, key, ss, rfl, rfl, by rw [HM.out]; exact HTY.out.below HB1.out, by rw [HM.out]; exact HH.out⟩, Keep.of_below hbx, fun _ h => .inl h⟩
  | true =>
    have hsome : p < m ∧ ∃ f, ss[p]? = some f ∧ f.st ≠ 0 ∧ f.k = k ∧ hasK l k = some f := by
      rcases HF.out with ⟨_, e⟩ | ⟨e, _⟩
      · exact e
      · cases e
    obtain ⟨hpm, f, hf1, hf2, hf3, hf4⟩ := hsome
    have HF1 := Lib.hid hf1
    have HF2 := Lib.hid hf2
    have HF3 := Lib.hid hf3
    have HF4 := Lib.hid hf4
    have HEM := Lib.hid (pempty_any W1 (HTY.out.below HB1.out) HH.out.pos HMM.out (by have := HLL.out; omega) (hasK_len hf4) HH.out.right hpm)
    clear hpm hf1 hf2 hf3 hf4
    go_wp2_with ((with_reducible refine HEM.out.mono ?_); rintro e W2 ⟨⟨u, rfl⟩, he⟩; have HE := Lib.hid he; clear he)
    go_ret
    refine ⟨(by rw [HF4.out]; rfl), ?_⟩
    obtain ⟨d, cs, a, hw, hend, hT2, hK2⟩ := HE.out
    have hbx : Below w.heap.size w W1 := HBY.out.trans (HB1.out.mono HBY.out.size)
    have hH2 := HH.out.empty HR.out HLM.out HF1.out HF2.out hw hend
    rw [HF3.out] at hH2
    have hlen : (outK l k).length = l.length - 1 := by
      obtain ⟨hm1, hm2⟩ := hasK_some HF4.out
      have := outK_len HR.out.apart hm1
      rw [hm2] at this
      omega
    exact ⟨⟨g, gs, key, _, rfl, rfl, by rw [HM.out, hlen]; exact hT2, by rw [HM.out]; exact hH2⟩, (Keep.of_below hbx).tr hK2, fun _ h => .inl h⟩

set_option maxHeartbeats 8000000 in
theorem pget_any {w : World} {fp : Nat → Prop} {v : Value} {r : Nat} {l : List Fw} (h : RepT w fp v r l) (hr : RightT r l) (h2 : r ≤ 4096) {k : Tu} (hk : k.Ok) :
    Calls Try.prog 26 #[v, tuC k] w fun e w' => e = .returned (getV l k) ∧ Left RepT w fp v r l w' fp := by
  obtain ⟨g, gs, key, ss, rfl, rfl, hT, hH⟩ := h
  obtain ⟨m, hm⟩ : ∃ m, 2 * r = m := ⟨_, rfl⟩
  rw [hm] at hT hH
  obtain ⟨B, hB⟩ : ∃ B, w.heap.size = B := ⟨_, rfl⟩
  obtain ⟨C0, hC0⟩ : ∃ C, (tuL k).toArray = C := ⟨_, rfl⟩
  obtain ⟨Z, hZ⟩ : ∃ Z, (fwL fw0).toArray = Z := ⟨_, rfl⟩
  obtain ⟨Y, hY⟩ : ∃ Y, (w.alloc (.cells C0 26)).alloc (.cells Z 28) = Y := ⟨_, rfl⟩
  have hz1 : (w.alloc (.cells C0 26)).heap.size = B + 1 := by rw [World.size_alloc, hB]
  have hYz : Y.heap.size = B + 1 + 1 := by rw [← hY, World.size_alloc, hz1]
  have y0 : Blk Y 26 B (tuL k) := by rw [← hY, ← hB, ← hC0]; exact Blk_10.alloc (Blk_10.new w _ _) _
  have y1 : Blk Y 28 (B + 1) (fwL fw0) := by rw [← hY, ← hz1, ← hZ]; exact Blk_10.new _ _ _
  have hbel : Below w.heap.size w Y := by rw [← hY]; exact ((Below.refl _ w).alloc (Nat.le_refl _) _).alloc (by rw [World.size_alloc]; omega) _
  have HY := Lib.hid hY
  have HZ := Lib.hid hZ
  have HYZ := Lib.hid hYz
  have HBZ : Hid (Try.prog.built 28 [] = some Z) := Lib.hid (by rw [← hZ]; kernel_rfl)
  have hte : tuC k = .agg C0 := by unfold tuC; rw [hC0]
  have HTE := Lib.hid hte
  have HBY := Lib.hid hbel
  have HKR := Lib.hid (Blk_10.range y0)
  have HY1 := Lib.hid y1
  have HOK := Lib.hid hk
  have HM := Lib.hid hm
  have HB := Lib.hid hB
  have HTY := Lib.hid (hT.below hbel)
  have HH := Lib.hid hH
  have HFD := Lib.hid (pfind_rep Y (hT.below hbel) hH hr (by omega) hk)
  have HLS := Lib.hid (show gs < B by rw [← hB]; exact hT.lts)
  have HLG := Lib.hid (show g < B by rw [← hB]; exact hT.ltg)
  rw [hte] at HFD ⊢
  clear hY hYz y0 y1 hbel hC0 hZ hte hk hm hT hH hr h2 hz1
  go_enter Try.func26, Try.ntmps26
  go_upto_region 1 with (fail)
  rw [zerF, HZ.out, HY.out]
  go_upto_region 2 with (first
    | ((with_reducible show wpList _ _ _ (⟨some 10, _, _, _, _, _⟩ :: _) _ _); refine wpList_loadTuL (op := ⟨some 10, _, _, _, _, _⟩) _ rfl (by rfl) B 0 (by rfl) k HOK.out HKR.out (.agg C0) HTE.out ?_)
    | ((with_reducible refine HFD.out.mono ?_); rintro e W1 ⟨p, b, rfl, hf, hb1⟩; have HF := Lib.hid hf; have HB1 := Lib.hid hb1; clear hf hb1))
  have HT1 := Lib.hid (HTY.out.below HB1.out)
  have HY2 := Lib.hid (show Blk W1 28 (B + 1) (fwL fw0) from Blk_10.below HY1.out (Blk_10.lt HY1.out) HB1.out)
  have HBW : Hid (Below B w W1) := Lib.hid (by rw [← hB]; exact HBY.out.trans (HB1.out.mono HBY.out.size))
  have fin : ∀ w' : World, W1.grownBy w' (some (B + 1)) → Left RepT w (fpT g gs) (.pointer (some ⟨g, 0, none⟩)) r l w' (fpT g gs) := fun w' hg => by
    have hk : Keep (fpT g gs) w w' := by
      have k1 := HBW.out
      rw [← hB] at k1
      exact Keep.of_below (k1.grown hg (by rw [hB]; have := HBW.out.size; rw [hB] at this; exact this) (fun q e => by cases e; rw [hB]; omega))
    exact ⟨⟨g, gs, key, ss, rfl, rfl, by rw [HM.out]; exact HT1.out.keep (hg.block g HT1.out.ltg (fun e => by have := HLG.out; cases e; omega)) (hg.block gs HT1.out.lts (fun e => by have := HLS.out; cases e; omega)), by rw [HM.out]; exact HH.out⟩, hk, fun _ h => .inl h⟩
  have FIN := Lib.hid fin
  clear fin hB
  cases b with
  | false =>
    have hn : hasK l k = none := by
      rcases HF.out with ⟨e, _⟩ | ⟨_, e⟩
      · cases e
      · exact e
    have HN := Lib.hid hn
    clear hn
    go_wp2_with (first
      | ((with_reducible show wpList _ _ _ (⟨some 16, _, _, _, _, _⟩ :: _) _ _); refine wpList_buildw (op := ⟨some 16, _, _, _, _, _⟩) 28 #[] rfl (by rfl) [] (by simp) Z HBZ.out ?_)
      | ((with_reducible show wpList _ _ _ (⟨none, .store 28 _ _, _, _, _, _⟩ :: _) _ _); refine wpList_storeBAL rfl _ _ _ rfl (B + 1) (by rfl) (fwL fw0) Z HZ.out (by rfl) (fwL fw0) HY2.out (by rw [fwL_len]) (sizeFwL fw0) (fwL_one fw0) ?_; intro w6 hb6 hg6; have HB6 := Lib.hid hb6; have HG6 := Lib.hid hg6; clear hb6 hg6))
    refine bodyPost_ret (v := .tuple #[fwC fw0, .bool false]) (results_fwb rfl _ _ (B + 1) rfl fw0 HB6.out (.bool false) rfl) rfl ?_
    refine ⟨?_, FIN.out w6 HG6.out⟩
    unfold getV
    rw [HN.out]
    rfl
  | true =>
    have hsome : p < m ∧ ∃ f, ss[p]? = some f ∧ f.st ≠ 0 ∧ f.k = k ∧ hasK l k = some f := by
      rcases HF.out with ⟨_, e⟩ | ⟨e, _⟩
      · exact e
      · cases e
    obtain ⟨hpm, f, hf1, hf2, hf3, hf4⟩ := hsome
    have HF4 := Lib.hid hf4
    have HSR := Lib.hid (HT1.out.slot hf1)
    have q1 := HT1.out.cSl
    have hpi : (p : Int) < (m : Int) := by omega
    have hp0 : (0 : Int) ≤ (p : Int) := by omega
    obtain ⟨C, hC⟩ : ∃ C, (fwL f).toArray = C := ⟨_, rfl⟩
    have HC := Lib.hid hC
    clear hf1 hf2 hf3 hf4 hC hpm
    go_wp2_with (first
      | ((with_reducible show wpList _ _ _ (⟨some 23, _, _, _, _, _⟩ :: _) _ _); refine wpList_loadFw (op := ⟨some 23, _, _, _, _, _⟩) _ rfl (by rfl) gs (p * 41) (by rfl) f HSR.out C HC.out ?_)
      | ((with_reducible show wpList _ _ _ (⟨none, .store 28 _ _, _, _, _, _⟩ :: _) _ _); refine wpList_storeBAL rfl _ _ _ rfl (B + 1) (by rfl) (fwL f) C HC.out (by rfl) (fwL fw0) HY2.out (by rw [fwL_len, fwL_len]) (sizeFwL f) (fwL_one f) ?_; intro w6 hb6 hg6; have HB6 := Lib.hid hb6; have HG6 := Lib.hid hg6; clear hb6 hg6))
    refine bodyPost_ret (v := .tuple #[fwC f, .bool true]) (results_fwb rfl _ _ (B + 1) rfl f HB6.out (.bool true) rfl) rfl ?_
    refine ⟨?_, FIN.out w6 HG6.out⟩
    unfold getV
    rw [HF4.out]
    rfl
end Go.Proofs.Ytfbiinipiklkaaa
namespace Go.Proofs.Ytfbiinipiklkaaa
set_option maxRecDepth 100000
open Go.RowKit Go.Shelf Go.Lib

theorem fpT_eq {g gs g2 gs2 : Nat} (h : fpT g gs = fpT g2 gs2) (e : g2 = g) (hn : g ≠ gs) : gs2 = gs := by
  subst e
  have h2 : fpT g2 gs2 gs := by
    rw [← h]
    exact .inr rfl
  rcases h2 with h | h
  · exact absurd h.symm hn
  · exact h.symm
theorem rep_lt {w : World} {fp : Nat → Prop} {v : Value} {r : Nat} {l : List Fw} (h : RepT w fp v r l) : ∀ k, fp k → k < w.heap.size := by
  obtain ⟨g, gs, key, ss, rfl, rfl, hT, _⟩ := h
  rintro k (rfl | rfl)
  · exact hT.ltg
  · exact hT.lts
theorem rep_keep {w w' : World} {fp : Nat → Prop} {v : Value} {r : Nat} {l : List Fw} (h : RepT w fp v r l) (hk : ∀ k, fp k → w'.heap[k]? = w.heap[k]?) : RepT w' fp v r l := by
  obtain ⟨g, gs, key, ss, rfl, rfl, hT, hH⟩ := h
  exact ⟨g, gs, key, ss, rfl, rfl, hT.keep (hk g (.inl rfl)) (hk gs (.inr rfl)), hH⟩
/-- What has been made of the table, with room for one more. -/
theorem put_fill {w w' : World} {g gs r m : Nat} {key : List UInt8} {ss l : List Fw} {f : Fw} (hm : 2 * r = m) (hH : RepH key m ss l) (hf : rightF f = true) (hl : l.length < r) (h : FillG w g gs key r m l.length ss (homeN key m f.k) f w') :
    RepT w' (fpT g gs) (.pointer (some ⟨g, 0, none⟩)) r (insF f l) ∧ Keep (fpT g gs) w w' := by
  obtain ⟨hk, ⟨d, f0, hd, hfull, h0, hz, hT⟩ | hbad⟩ := h
  · refine ⟨⟨g, gs, key, ss.set ((homeN key m f.k + d) % m) f, rfl, rfl, ?_, ?_⟩, hk⟩
    · rw [hm, insF_len]
      exact hT
    · rw [hm]
      exact hH.fill hd hfull h0 hz hf
  · exact (hH.room (by omega) (homeN_lt key hH.pos f.k) hbad).elim
theorem outK_head {room : Nat} {a : Fw} {t : List Fw} (hr : RightT room (a :: t)) : outK (a :: t) a.k = t := by
  have h1 := hr.apart
  rw [List.pairwise_cons] at h1
  unfold outK
  rw [List.filter_cons_of_neg (by rw [tuQ_eq.2 rfl]; decide)]
  exact List.filter_eq_self.2 (fun x hx => by rw [tuQ_ne (fun e => h1.1 x hx e.symm)]; rfl)

set_option maxHeartbeats 16000000 in
theorem pput_any {w : World} {fp : Nat → Prop} {v : Value} {r : Nat} {l : List Fw} (h : RepT w fp v r l) (hr : RightT r l) (h1 : 1 ≤ r) (h2 : r ≤ 4096) {f : Fw} (hn : f.nm.length ≤ 1000000) :
    Calls Try.prog 19 #[v, fwC f] w fun e w' => e = .returned (putV r l f) ∧ Left RepT w fp v r (putT r l f) w' fp := by
  obtain ⟨g, gs, key, ss, rfl, rfl, hT, hH⟩ := h
  obtain ⟨m, hm⟩ : ∃ m, 2 * r = m := ⟨_, rfl⟩
  rw [hm] at hT hH
  obtain ⟨B, hB⟩ : ∃ B, w.heap.size = B := ⟨_, rfl⟩
  obtain ⟨C, hC⟩ : ∃ C, (fwL f).toArray = C := ⟨_, rfl⟩
  obtain ⟨Z, hZ⟩ : ∃ Z, (fwL fw0).toArray = Z := ⟨_, rfl⟩
  obtain ⟨TC, hTC⟩ : ∃ T, tuC f.k = T := ⟨_, rfl⟩
  obtain ⟨Y, hY⟩ : ∃ Y, (w.alloc (.cells C 28)).alloc (.cells Z 28) = Y := ⟨_, rfl⟩
  have hz1 : (w.alloc (.cells C 28)).heap.size = B + 1 := by rw [World.size_alloc, hB]
  have hYz : Y.heap.size = B + 1 + 1 := by rw [← hY, World.size_alloc, hz1]
  have y0 : Blk Y 28 B (fwL f) := by rw [← hY, ← hB, ← hC]; exact Blk_10.alloc (Blk_10.new w _ _) _
  have y1 : Blk Y 28 (B + 1) (fwL fw0) := by rw [← hY, ← hz1, ← hZ]; exact Blk_10.new _ _ _
  have hbel : Below w.heap.size w Y := by rw [← hY]; exact ((Below.refl _ w).alloc (Nat.le_refl _) _).alloc (by rw [World.size_alloc]; omega) _
  have hfc : fwC f = .agg C := by unfold fwC; rw [hC]
  have HY := Lib.hid hY
  have HZ := Lib.hid hZ
  have HC := Lib.hid hC
  have HTC := Lib.hid hTC
  have HYZ := Lib.hid hYz
  have HBZ : Hid (Try.prog.built 28 [] = some Z) := Lib.hid (by rw [← hZ]; kernel_rfl)
  have HBY := Lib.hid hbel
  have HY0 := Lib.hid y0
  have HY1 := Lib.hid y1
  have HOK := Lib.hid f.ok
  have HM := Lib.hid hm
  have HB := Lib.hid hB
  have HTY := Lib.hid (hT.below hbel)
  have HH := Lib.hid hH
  have HR := Lib.hid hr
  have HR1 := Lib.hid h1
  have HR2 := Lib.hid h2
  have HLS := Lib.hid (show gs < B by rw [← hB]; exact hT.lts)
  have HLG := Lib.hid (show g < B by rw [← hB]; exact hT.ltg)
  have HGN := Lib.hid hT.ne
  have HSL := Lib.hid hT.len
  have HFD : Hid (∀ W, TabR W g gs key r m l.length ss → Calls Try.prog 39 #[.pointer (some ⟨g, 0, none⟩), TC] W fun e w' => ∃ (p : Nat) (b : Bool), e = .returned (.tuple #[.int .i64 (p : Int), .bool b]) ∧ FoundT ss l m f.k p b ∧ Below W.heap.size W w') := Lib.hid (fun W hW => by
    have := pfind_rep W hW hH hr (by omega) f.ok
    rwa [hTC] at this)
  have HFIL : Hid (∀ (W : World) (gs2 : Nat) (key2 : List UInt8) (ss2 l2 : List Fw), TabR W g gs2 key2 r m l2.length ss2 → RepH key2 m ss2 l2 → l2.length < r → rightF f = true → Calls Try.prog 41 #[.pointer (some ⟨g, 0, none⟩), .agg C] W fun e w' => (∃ v, e = .returned v) ∧ RepT w' (fpT g gs2) (.pointer (some ⟨g, 0, none⟩)) r (insF f l2) ∧ Keep (fpT g gs2) W w') := Lib.hid (fun W gs2 key2 ss2 l2 hW hH2 hl2 hrf => by
    have := pfill_any W hW hH2.pos (by omega) (by omega) hrf
    rw [hfc] at this
    refine this.mono ?_
    rintro e w' ⟨hv, hg⟩
    exact ⟨hv, put_fill hm hH2 hrf hl2 hg⟩)
  have HRI := Lib.hid (fun W => pright_any f W hn)
  rw [hfc] at HRI ⊢
  clear hY hYz y0 y1 hbel hC hZ hTC hm hT hH hr h1 h2 hz1 hn hB hfc
  cases hrf : rightF f with
  | false =>
    rw [hrf] at HRI
    have HPB := Lib.hid (put_bad (rm := r) (l := l) hrf)
    clear hrf
    go_enter Try.func19, Try.ntmps19
    go_upto_region 1 with (fail)
    rw [zerF, HZ.out, HY.out, HB.out]
    go_wp2_with (first
      | ((with_reducible show wpList _ _ _ (⟨some 11, _, _, _, _, _⟩ :: _) _ _); refine wpList_loadFw (op := ⟨some 11, _, _, _, _, _⟩) _ rfl (by rfl) B 0 (by rfl) f (Blk_10.range HY0.out) C HC.out ?_)
      | ((with_reducible refine (HRI.out _).mono ?_); rintro e W1 ⟨rfl, hb1⟩; have HB1 := Lib.hid hb1; clear hb1)
      | ((with_reducible show wpList _ _ _ (⟨some 14, _, _, _, _, _⟩ :: _) _ _); refine wpList_buildw (op := ⟨some 14, _, _, _, _, _⟩) 28 #[] rfl (by rfl) [] (by simp) Z HBZ.out ?_)
      | ((with_reducible show wpList _ _ _ (⟨none, .store 28 _ _, _, _, _, _⟩ :: _) _ _); refine wpList_storeBAL rfl _ _ _ rfl (B + 1) (by rfl) (fwL fw0) Z HZ.out (by rfl) (fwL fw0) (Blk_10.below HY1.out (Blk_10.lt HY1.out) HB1.out) (by rw [fwL_len]) (sizeFwL fw0) (fwL_one fw0) ?_; intro w6 hb6 hg6; have HB6 := Lib.hid hb6; have HG6 := Lib.hid hg6; clear hb6 hg6))
    refine bodyPost_ret (v := .tuple #[fwC fw0, .bool false, .int .i64 1]) (results_fwc rfl _ _ (B + 1) rfl fw0 HB6.out (.bool false) (.int .i64 1) rfl rfl) rfl ?_
    refine ⟨by rw [HPB.out.1], ?_⟩
    rw [HPB.out.2]
    have hT1 := HTY.out.below HB1.out
    refine ⟨⟨g, gs, key, ss, rfl, rfl, by rw [HM.out]; exact hT1.keep (HG6.out.block g hT1.ltg (fun e => by have := HLG.out; cases e; omega)) (HG6.out.block gs hT1.lts (fun e => by have := HLS.out; cases e; omega)), by rw [HM.out]; exact HH.out⟩, ?_, fun _ h => .inl h⟩
    exact keep_turn ((Keep.of_below HBY.out).tr (Keep.of_below HB1.out)) (Nat.le_refl _) HG6.out (fun q e => by cases e; rw [HB.out]; omega)
  | true =>
    rw [hrf] at HRI
    have HRF := Lib.hid hrf
    clear hrf
    go_enter Try.func19, Try.ntmps19
    go_upto_region 1 with (fail)
    rw [zerF, HZ.out, HY.out, HB.out]
    go_upto_region 4 with (first
      | ((with_reducible show wpList _ _ _ (⟨some 11, _, _, _, _, _⟩ :: _) _ _); refine wpList_loadFw (op := ⟨some 11, _, _, _, _, _⟩) _ rfl (by rfl) B 0 (by rfl) f (Blk_10.range HY0.out) C HC.out ?_)
      | ((with_reducible refine (HRI.out _).mono ?_); rintro e W1 ⟨rfl, hb1⟩; have HB1 := Lib.hid hb1; have HT1 := Lib.hid (HTY.out.below HB1.out); clear hb1)
      | ((with_reducible show wpList _ _ _ (⟨some 18, _, _, _, _, _⟩ :: _) _ _); refine wpList_loadTuL (op := ⟨some 18, _, _, _, _, _⟩) _ rfl (by rfl) B 0 (by rfl) f.k HOK.out (fw_key (Blk_10.range (Blk_10.below HY0.out (Blk_10.lt HY0.out) HB1.out))) TC HTC.out ?_)
      | ((with_reducible refine (HFD.out _ HT1.out).mono ?_); rintro e W2 ⟨p, b, rfl, hf, hb2⟩; have HF := Lib.hid hf; have HB2 := Lib.hid hb2; clear hf hb2))
    have HB2Y := Lib.hid (show Below Y.heap.size Y W2 from HB1.out.trans (HB2.out.mono HB1.out.size))
    have HT2 := Lib.hid (HT1.out.below HB2.out)
    have HW0 := Lib.hid (show Blk W2 28 B (fwL f) from Blk_10.below HY0.out (Blk_10.lt HY0.out) HB2Y.out)
    have HW1 := Lib.hid (show Blk W2 28 (B + 1) (fwL fw0) from Blk_10.below HY1.out (Blk_10.lt HY1.out) HB2Y.out)
    have HK2 := Lib.hid (show Keep (fpT g gs) w W2 from (Keep.of_below HBY.out).tr (Keep.of_below HB2Y.out))
    cases b with
    | true =>
      have hsome : p < m ∧ ∃ x, ss[p]? = some x ∧ x.st ≠ 0 ∧ x.k = f.k ∧ hasK l f.k = some x := by
        rcases HF.out with ⟨_, e⟩ | ⟨e, _⟩
        · exact e
        · cases e
      obtain ⟨hpm, f0, hf1, hf2, hf3, hf4⟩ := hsome
      have HF1 := Lib.hid hf1
      have HF2 := Lib.hid hf2
      have HF3 := Lib.hid hf3
      have HF4 := Lib.hid hf4
      have hpi : (p : Int) < (m : Int) := by omega
      have hp0 : (0 : Int) ≤ (p : Int) := by omega
      have S1 : Hid (∀ X, KpF B (B + 1) g W2 X → X.cell? ⟨g, 18, none⟩ = some (.slice (some ⟨gs, 0, none⟩) m m)) := Lib.hid (fun X hX => (World.cell?_of_block (a := ⟨g, 18, none⟩) hX.g).trans HT2.out.cSl)
      have S2 : Hid (∀ X, KpF B (B + 1) g W2 X → X.rangeAt B 0 (fwL f)) := Lib.hid (fun X hX => Blk_10.range (show Blk X 28 B _ from hX.t.trans HW0.out))
      clear hf1 hf2 hf3 hf4 hpm
      go_upto_region 5 with (fail)
      refine wp_region_held_drew (S := fun X => KpF B (B + 1) g W2 X) (by kernel_rfl) ⟨rfl, rfl, rfl⟩ (fun hHeld => ?_)
      obtain ⟨X0, hX0⟩ : ∃ X, W2.drew = X := ⟨_, rfl⟩
      rw [hX0] at hHeld ⊢
      have HTX := Lib.hid (show TabR X0 g gs key r m l.length ss by rw [← hX0]; exact HT2.out.drew)
      have HX0 := Lib.hid hX0
      clear hX0
      refine tk 0 23 (.pointer (some ⟨g, 0, none⟩)) rfl hHeld ?_
      simp only [Act.put, sA, sZ, sS]
      refine tk 1 24 (.pointer (some ⟨g, 0, none⟩)) rfl hHeld ?_
      simp only [Act.put, sA, sZ, sS]
      refine tk 2 25 (.pointer (some ⟨g, 18, none⟩)) rfl hHeld ?_
      simp only [Act.put, sA, sZ, sS]
      refine tkY 3 26 (.slice (some ⟨gs, 0, none⟩) m m) rfl (Or.inl ⟨by rfl, fun X hX => by have hc := S1.out X hX; go_simp⟩) hHeld ?_
      simp only [Act.put, sA, sZ, sS]
      refine tk 4 27 (.int .i64 (p : Int)) rfl hHeld ?_
      simp only [Act.put, sA, sZ, sS]
      refine tkY 5 28 (.agg C) rfl (yields_loadFw (by rfl) _ rfl B 0 rfl f S2.out C HC.out) hHeld ?_
      simp only [Act.put, sA, sZ, sS]
      refine tk 6 29 (.pointer (some ⟨gs, p * 41, none⟩)) rfl hHeld ?_
      simp only [Act.put, sA, sZ, sS]
      refine wpAnyH_ready (rs := [7]) (by kernel_rfl) (by simp) (AllReadyH.cons (o := ⟨none, .store 28 (.tmp 29) (.tmp 28), _, _, _, _⟩) rfl (fun K hK => ?_) AllReadyH.nil)
      refine step_storeEG eF rfl _ _ rfl gs p (p * 41) rfl (by rfl) f C HC.out (by rfl) ss m m 0 HTX.out.own f0 HF1.out ?_
      intro w7 ho7 hg7
      have HO7 := Lib.hid ho7
      have HG7 := Lib.hid hg7
      have hx0 : X0.heap.size = W2.heap.size := by rw [← HX0.out]; rfl
      have k1 : KpF B (B + 1) g X0 w7 := ⟨hg7.block B (by rw [hx0]; exact Blk_10.lt HW0.out) (fun e => by have := HLS.out; cases e; omega), hg7.block (B + 1) (by rw [hx0]; exact Blk_10.lt HW1.out) (fun e => by have := HLS.out; cases e; omega), hg7.block g HTX.out.ltg (fun e => by cases e; exact HGN.out rfl)⟩
      have HS7 := Lib.hid (hHeld.trans k1)
      clear ho7 hg7 k1 hx0
      refine hK.out _ _ HS7.out (fun hHeld => ?_)
      clear hK K
      refine wpAnyH_done (by kernel_rfl) ?_ _
      clear hHeld
      have HT7 := Lib.hid (HTX.out.put HO7.out HG7.out (by rw [List.length_set]; exact HTX.out.len))
      have HR7 := Lib.hid (show Blk w7 28 (B + 1) (fwL fw0) from HS7.out.f.trans HW1.out)
      go_wp2_with (first
        | ((with_reducible show wpList _ _ _ (⟨some 30, _, _, _, _, _⟩ :: _) _ _); refine wpList_buildw (op := ⟨some 30, _, _, _, _, _⟩) 28 #[] rfl (by rfl) [] (by simp) Z HBZ.out ?_)
        | ((with_reducible show wpList _ _ _ (⟨none, .store 28 _ _, _, _, _, _⟩ :: _) _ _); refine wpList_storeBAL rfl _ _ _ rfl (B + 1) (by rfl) (fwL fw0) Z HZ.out (by rfl) (fwL fw0) HR7.out (by rw [fwL_len]) (sizeFwL fw0) (fwL_one fw0) ?_; intro w8 hb8 hg8; have HB8 := Lib.hid hb8; have HG8 := Lib.hid hg8; clear hb8 hg8))
      refine bodyPost_ret (v := .tuple #[fwC fw0, .bool false, .int .i64 0]) (results_fwc rfl _ _ (B + 1) rfl fw0 HB8.out (.bool false) (.int .i64 0) rfl rfl) rfl ?_
      obtain ⟨hp1, hp2⟩ := put_has (rm := r) HRF.out HF4.out
      refine ⟨by rw [hp1], ?_⟩
      rw [hp2]
      have hlen : (insF f (outK l f.k)).length = l.length := by
        rw [insF_len]
        obtain ⟨hm1, hm2⟩ := hasK_some HF4.out
        have := outK_len HR.out.apart hm1
        rwa [hm2] at this
      have hH7 := HH.out.set HR.out HF1.out HF2.out HF3.out HRF.out
      refine ⟨⟨g, gs, key, _, rfl, rfl, ?_, by rw [HM.out]; exact hH7⟩, ?_, fun _ h => .inl h⟩
      · rw [HM.out, hlen]
        exact HT7.out.keep (HG8.out.block g HT7.out.ltg (fun e => by have := HLG.out; cases e; omega)) (HG8.out.block gs HT7.out.lts (fun e => by have := HLS.out; cases e; omega))
      · have k1 : Keep (fpT g gs) W2 X0 := by rw [← HX0.out]; exact Keep.of_below (Below.refl _ W2).drew
        have k2 : Keep (fpT g gs) X0 w7 := Keep.of_grown HG7.out (.inr rfl)
        exact keep_turn ((HK2.out.tr k1).tr k2) (Nat.le_refl _) HG8.out (fun q e => by cases e; rw [HB.out]; omega)
    | false =>
      have hno : hasK l f.k = none := by
        rcases HF.out with ⟨e, _⟩ | ⟨_, e⟩
        · cases e
        · exact e
      have HNO := Lib.hid hno
      obtain ⟨D, hD⟩ : ∃ D, W2.heap.size = D := ⟨_, rfl⟩
      have HD := Lib.hid hD
      have HDB := Lib.hid (show B + 1 + 1 ≤ D by rw [← hD, ← HYZ.out]; exact HB2Y.out.size)
      have S1 : Hid (∀ X, Below W2.heap.size W2 X → X.cell? ⟨g, 17, none⟩ = some (.int .i64 (l.length : Int))) := Lib.hid (fun X hX => (HT2.out.below hX).cCnt)
      have S2 : Hid (∀ X, Below W2.heap.size W2 X → X.cell? ⟨g, 16, none⟩ = some (.int .i64 (r : Int))) := Lib.hid (fun X hX => (HT2.out.below hX).cRoom)
      obtain ⟨full, hfull⟩ : ∃ b, decide (r ≤ l.length) = b := ⟨_, rfl⟩
      have HFU := Lib.hid hfull
      clear hno hD
      go_upto_region 7 with (fail)
      refine wp_region_held_drew (S := fun X => Below W2.heap.size W2 X) (by kernel_rfl) ((Below.refl _ _).drew) (fun hHeld => ?_)
      obtain ⟨X0, hX0⟩ : ∃ X, W2.drew = X := ⟨_, rfl⟩
      rw [hX0] at hHeld ⊢
      have HX0 := Lib.hid hX0
      clear hX0
      refine tkY 0 31 (.agg Z) rfl (yields_bldF (by rfl) 28 #[] rfl [] (by simp) Z HBZ.out) hHeld ?_
      simp only [Act.put, sA, sZ, sS]
      refine tk 1 32 (.pointer (some ⟨g, 0, none⟩)) rfl hHeld ?_
      simp only [Act.put, sA, sZ, sS]
      refine tk 2 33 (.pointer (some ⟨g, 0, none⟩)) rfl hHeld ?_
      simp only [Act.put, sA, sZ, sS]
      refine tk 3 34 (.pointer (some ⟨g, 17, none⟩)) rfl hHeld ?_
      simp only [Act.put, sA, sZ, sS]
      refine tkY 4 35 (.int .i64 (l.length : Int)) rfl (Or.inl ⟨by rfl, fun X hX => by have hc := S1.out X hX; go_simp⟩) hHeld ?_
      simp only [Act.put, sA, sZ, sS]
      refine tk 5 36 (.pointer (some ⟨g, 0, none⟩)) rfl hHeld ?_
      simp only [Act.put, sA, sZ, sS]
      refine tk 6 37 (.pointer (some ⟨g, 0, none⟩)) rfl hHeld ?_
      simp only [Act.put, sA, sZ, sS]
      refine tk 7 38 (.pointer (some ⟨g, 16, none⟩)) rfl hHeld ?_
      simp only [Act.put, sA, sZ, sS]
      refine tkY 8 39 (.int .i64 (r : Int)) rfl (Or.inl ⟨by rfl, fun X hX => by have hc := S2.out X hX; go_simp⟩) hHeld ?_
      simp only [Act.put, sA, sZ, sS]
      refine tkY 9 40 (.bool full) rfl (Or.inl ⟨by rfl, fun X hX => by have hc := HFU.out; go_simp⟩) hHeld ?_
      simp only [Act.put, sA, sZ, sS]
      refine wpAnyH_ready (rs := [10]) (by kernel_rfl) (by simp) (AllReadyH.cons (o := ⟨some 9, _, _, _, _, _⟩) rfl (fun K hK => ?_) AllReadyH.nil)
      go_simp
      rw [zerF, HZ.out]
      obtain ⟨X1, hX1⟩ : ∃ X, X0.alloc (.cells Z 28) = X := ⟨_, rfl⟩
      rw [hX1]
      have HX1 := Lib.hid hX1
      have hs0 : X0.heap.size = D := by rw [← HX0.out]; exact HD.out
      rw [hs0]
      have HN1 := Lib.hid (show Blk X1 28 D (fwL fw0) by rw [← hX1, ← HZ.out, ← hs0]; exact Blk_10.new _ _ _)
      have HS1 := Lib.hid (show Below W2.heap.size W2 X1 by rw [← hX1]; exact hHeld.alloc hHeld.size _)
      clear hX1
      refine hK.out _ _ HS1.out (fun hHeld => ?_)
      clear hK K
      refine wpAnyH_ready (rs := [11]) (by kernel_rfl) (by simp) (AllReadyH.cons (o := ⟨none, .store 28 (.tmp 9) (.tmp 31), _, _, _, _⟩) rfl (fun K hK => ?_) AllReadyH.nil)
      refine step_storeBA rfl _ _ _ rfl D (by rfl) (fwL fw0) (by rw [HZ.out]; rfl) (fwL fw0) HN1.out (by rw [fwL_len]) (sizeFwL fw0) (fwL_one fw0) ?_
      intro X2 hb2 hg2
      have HN2 := Lib.hid hb2
      have HS2 := Lib.hid (show Below W2.heap.size W2 X2 from HS1.out.grown hg2 HS1.out.size (fun q e => by cases e; rw [HD.out]; exact Nat.le_refl _))
      clear hb2 hg2 hs0
      refine hK.out _ _ HS2.out (fun hHeld => ?_)
      clear hK K
      refine tk 12 10 (.bool full) rfl hHeld ?_
      simp only [Act.put, sA, sZ, sS]
      refine wpAnyH_done (by kernel_rfl) ?_ _
      clear hHeld
      have HKX := Lib.hid (show Keep (fpT g gs) w X2 from HK2.out.tr (Keep.of_below HS2.out))
      have HTX := Lib.hid (HT2.out.below HS2.out)
      have HV0 := Lib.hid (show Blk X2 28 B (fwL f) from Blk_10.below HW0.out (Blk_10.lt HW0.out) HS2.out)
      have HV1 := Lib.hid (show Blk X2 28 (B + 1) (fwL fw0) from Blk_10.below HW1.out (Blk_10.lt HW1.out) HS2.out)
      have HNF := Lib.hid (show ∀ k, B ≤ k → ¬ fpT g gs k from fun k hk e => by have := HLG.out; have := HLS.out; rcases e with rfl | rfl <;> omega)
      cases full with
      | false =>
        have hlr : ¬ r ≤ l.length := fun e => by
          have := HFU.out
          rw [decide_eq_false_iff_not] at this
          omega
        have HFI := Lib.hid (HFIL.out X2 gs key ss l HTX.out HH.out (by omega) HRF.out)
        have HPR := Lib.hid (put_room (rm := r) HRF.out HNO.out hlr)
        clear hlr
        go_wp2_with (first
          | ((with_reducible show wpList _ _ _ (⟨some 49, _, _, _, _, _⟩ :: _) _ _); refine wpList_loadFw (op := ⟨some 49, _, _, _, _, _⟩) _ rfl (by rfl) B 0 (by rfl) f (Blk_10.range HV0.out) C HC.out ?_)
          | ((with_reducible refine HFI.out.mono ?_); rintro e W9 ⟨⟨u, rfl⟩, hrep, hk9⟩; have HRP := Lib.hid hrep; have HK9 := Lib.hid hk9; clear hrep hk9)
          | ((with_reducible show wpList _ _ _ (⟨some 51, _, _, _, _, _⟩ :: _) _ _); refine wpList_loadFw (op := ⟨some 51, _, _, _, _, _⟩) _ rfl (by rfl) D 0 (by rfl) fw0 (Blk_10.range (Blk.keep_fp HN2.out HK9.out (HNF.out D (by have := HDB.out; omega)))) Z HZ.out ?_)
          | ((with_reducible show wpList _ _ _ (⟨none, .store 28 _ _, _, _, _, _⟩ :: _) _ _); refine wpList_storeBAL rfl _ _ _ rfl (B + 1) (by rfl) (fwL fw0) Z HZ.out (by rfl) (fwL fw0) (Blk.keep_fp HV1.out HK9.out (HNF.out (B + 1) (by omega))) (by rw [fwL_len]) (sizeFwL fw0) (fwL_one fw0) ?_; intro w8 hb8 hg8; have HB8 := Lib.hid hb8; have HG8 := Lib.hid hg8; clear hb8 hg8))
        refine bodyPost_ret (v := .tuple #[fwC fw0, .bool false, .int .i64 0]) (results_fwc rfl _ _ (B + 1) rfl fw0 HB8.out (.bool false) (.int .i64 0) rfl rfl) rfl ?_
        refine ⟨by rw [HPR.out.1], ?_⟩
        rw [HPR.out.2]
        refine ⟨rep_keep HRP.out (fun k hk => HG8.out.block k (rep_lt HRP.out k hk) (fun e => by cases e; exact HNF.out (B + 1) (by omega) hk)), ?_, fun _ h => .inl h⟩
        exact keep_turn (HKX.out.tr HK9.out) (Nat.le_refl _) HG8.out (fun q e => by cases e; rw [HB.out]; omega)
      | true =>
        have hlr : r ≤ l.length := by
          have := HFU.out
          rw [decide_eq_true_iff] at this
          omega
        obtain ⟨a, t, hl⟩ : ∃ a t, l = a :: t := by
          cases l with
          | nil => exact absurd hlr (by have := HR1.out; simp; omega)
          | cons a t => exact ⟨a, t, rfl⟩
        subst hl
        have hra := HR.out.right a (List.mem_cons_self)
        have HPF := Lib.hid (put_full (rm := r) HRF.out HNO.out hlr rfl)
        have HLL := Lib.hid (show t.length < r by have := HR.out.fits; simp only [List.length_cons] at this; omega)
        obtain ⟨LA, hLA⟩ : ∃ C, (fwL a).toArray = C := ⟨_, rfl⟩
        have HLA := Lib.hid hLA
        obtain ⟨TA, hTA⟩ : ∃ C, tuC a.k = C := ⟨_, rfl⟩
        have HTA := Lib.hid hTA
        have HAK := Lib.hid a.ok
        have hac : fwC a = .agg LA := by unfold fwC; rw [hLA]
        have HOLD : Hid (Calls Try.prog 40 #[.pointer (some ⟨g, 0, none⟩)] X2 fun e w' => e = .returned (.agg LA) ∧ Below X2.heap.size X2 w') := Lib.hid (by
          have := poldest_any X2 HTX.out (by have := HM.out; have := HR2.out; omega) HH.out.right
          rwa [HH.out.oldest HR.out, hac] at this)
        have HDR : Hid (∀ W, RepT W (fpT g gs) (.pointer (some ⟨g, 0, none⟩)) r (a :: t) → Calls Try.prog 21 #[.pointer (some ⟨g, 0, none⟩), TA] W fun e w' => (∃ b, e = .returned (.bool b)) ∧ RepT w' (fpT g gs) (.pointer (some ⟨g, 0, none⟩)) r t ∧ Keep (fpT g gs) W w') := Lib.hid (fun W hW => by
          have := pdrop_any hW HR.out HR1.out HR2.out a.ok
          rw [hTA] at this
          refine this.mono ?_
          rintro e w' ⟨rfl, h1, h2, _⟩
          rw [outK_head HR.out] at h1
          exact ⟨⟨_, rfl⟩, h1, h2⟩)
        clear hLA hTA hac hra hlr
        go_upto_region 11 with (first
          | ((with_reducible refine HOLD.out.mono ?_); rintro e W4 ⟨rfl, hb4⟩; have HB4 := Lib.hid hb4; clear hb4)
          | ((with_reducible show wpList _ _ _ (⟨none, .store 28 _ _, _, _, _, _⟩ :: _) _ _); refine wpList_storeBAL rfl _ _ _ rfl D (by rfl) (fwL a) LA HLA.out (by rfl) (fwL fw0) (Blk_10.below HN2.out (Blk_10.lt HN2.out) HB4.out) (by rw [fwL_len, fwL_len]) (sizeFwL a) (fwL_one a) ?_; intro w5 hb5 hg5; have HB5 := Lib.hid hb5; have HG5 := Lib.hid hg5; clear hb5 hg5
             have HR5 := Lib.hid (show RepT w5 (fpT g gs) (.pointer (some ⟨g, 0, none⟩)) r (a :: t) from rep_keep ⟨g, gs, key, ss, rfl, rfl, by rw [HM.out]; exact HTX.out, by rw [HM.out]; exact HH.out⟩ (fun k hk => (HG5.out.block k (Nat.lt_of_lt_of_le (by rcases hk with rfl | rfl; exact HTX.out.ltg; exact HTX.out.lts) HB4.out.size) (fun e => by cases e; exact HNF.out D (by have := HDB.out; omega) hk)).trans (HB4.out.block k (by rcases hk with rfl | rfl; exact HTX.out.ltg; exact HTX.out.lts)))))
          | ((with_reducible show wpList _ _ _ (⟨some 46, _, _, _, _, _⟩ :: _) _ _); refine wpList_loadTuL (op := ⟨some 46, _, _, _, _, _⟩) _ rfl (by rfl) D 0 (by rfl) a.k HAK.out (fw_key (Blk_10.range HB5.out)) TA HTA.out ?_)
          | ((with_reducible refine (HDR.out _ HR5.out).mono ?_); rintro e W6 ⟨⟨ub, rfl⟩, hr6, hk6⟩; have HR6 := Lib.hid hr6; have HK6 := Lib.hid hk6; clear hr6 hk6))
        obtain ⟨g2, gs2, key2, ss2, he, hfp, hT6, hH6⟩ := HR6.out
        obtain rfl : g2 = g := by injection he with he; injection he with he; injection he with he; exact he.symm
        obtain rfl : gs2 = gs := fpT_eq hfp rfl HGN.out
        rw [HM.out] at hT6 hH6
        have HFI := Lib.hid (HFIL.out W6 gs2 key2 ss2 t hT6 hH6 HLL.out HRF.out)
        have HX5 := Lib.hid (show X2.grownBy w5 (some D) from ⟨HG5.out.os.trans HB4.out.os, HG5.out.tape.trans HB4.out.tape, HG5.out.output.trans HB4.out.output, Nat.le_trans HB4.out.size HG5.out.size, fun k hk hne => (HG5.out.block k (Nat.lt_of_lt_of_le hk HB4.out.size) hne).trans (HB4.out.block k hk)⟩)
        have HK6w : Hid (Keep (fpT g2 gs2) w W6) := Lib.hid ((keep_turn HKX.out (Nat.le_refl _) HX5.out (fun q e => by cases e; rw [HB.out]; have := HDB.out; omega)).tr HK6.out)
        have HU0 := Lib.hid (show Blk W6 28 B (fwL f) from Blk.keep_fp (show Blk w5 28 B (fwL f) from (HX5.out.block B (Blk_10.lt HV0.out) (fun e => by have := HDB.out; cases e; omega)).trans HV0.out) HK6.out (HNF.out B (Nat.le_refl _)))
        have HU1 := Lib.hid (show Blk W6 28 (B + 1) (fwL fw0) from Blk.keep_fp (show Blk w5 28 (B + 1) (fwL fw0) from (HX5.out.block (B + 1) (Blk_10.lt HV1.out) (fun e => by have := HDB.out; cases e; omega)).trans HV1.out) HK6.out (HNF.out (B + 1) (by omega)))
        have HU2 := Lib.hid (show Blk W6 28 D (fwL a) from Blk.keep_fp HB5.out HK6.out (HNF.out D (by have := HDB.out; omega)))
        clear he hfp hT6 hH6
        go_wp2_with (first
          | ((with_reducible show wpList _ _ _ (⟨some 49, _, _, _, _, _⟩ :: _) _ _); refine wpList_loadFw (op := ⟨some 49, _, _, _, _, _⟩) _ rfl (by rfl) B 0 (by rfl) f (Blk_10.range HU0.out) C HC.out ?_)
          | ((with_reducible refine HFI.out.mono ?_); rintro e W9 ⟨⟨u, rfl⟩, hrep, hk9⟩; have HRP := Lib.hid hrep; have HK9 := Lib.hid hk9; clear hrep hk9)
          | ((with_reducible show wpList _ _ _ (⟨some 51, _, _, _, _, _⟩ :: _) _ _); refine wpList_loadFw (op := ⟨some 51, _, _, _, _, _⟩) _ rfl (by rfl) D 0 (by rfl) a (Blk_10.range (Blk.keep_fp HU2.out HK9.out (HNF.out D (by have := HDB.out; omega)))) LA HLA.out ?_)
          | ((with_reducible show wpList _ _ _ (⟨none, .store 28 _ _, _, _, _, _⟩ :: _) _ _); refine wpList_storeBAL rfl _ _ _ rfl (B + 1) (by rfl) (fwL a) LA HLA.out (by rfl) (fwL fw0) (Blk.keep_fp HU1.out HK9.out (HNF.out (B + 1) (by omega))) (by rw [fwL_len, fwL_len]) (sizeFwL a) (fwL_one a) ?_; intro w8 hb8 hg8; have HB8 := Lib.hid hb8; have HG8 := Lib.hid hg8; clear hb8 hg8))
        refine bodyPost_ret (v := .tuple #[fwC a, .bool true, .int .i64 0]) (results_fwc rfl _ _ (B + 1) rfl a HB8.out (.bool true) (.int .i64 0) rfl rfl) rfl ?_
        refine ⟨by rw [HPF.out.1], ?_⟩
        rw [HPF.out.2, List.eraseIdx_zero, List.tail_cons]
        refine ⟨rep_keep HRP.out (fun k hk => HG8.out.block k (rep_lt HRP.out k hk) (fun e => by cases e; exact HNF.out (B + 1) (by omega) hk)), ?_, fun _ h => .inl h⟩
        exact keep_turn (HK6w.out.tr HK9.out) (Nat.le_refl _) HG8.out (fun q e => by cases e; rw [HB.out]; omega)
end Go.Proofs.Ytfbiinipiklkaaa
