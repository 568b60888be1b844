/-
  The program: find.
  The program: flows (all that the table has, slot by slot) as an iterator; oldest.
-/
import Derived.Test.YtfbiinipiklkaaaFLP6
import Derived.Sort.CutIn
import Derived.Test.YtfbiinipiklkaaaFLEx
namespace Go.Proofs.Ytfbiinipiklkaaa
set_option maxRecDepth 100000
open Go.RowKit Go.Shelf Go.Lib

attribute [local go_sem] Oper.semAt_some

/-- In the slot of this place stands a flow of another key. -/
def MissT (ss : List Fw) (m : Nat) (k : Tu) (x : Nat) : Prop := ∃ f, ss[x % m]? = some f ∧ f.st ≠ 0 ∧ f.k ≠ k
/-- What the search answers. -/
def FindG (ss : List Fw) (m h : Nat) (k : Tu) (at_ : Nat) (b : Bool) : Prop :=
  (b = true ∧ ∃ d f, d < m ∧ (∀ e, e < d → MissT ss m k (h + e)) ∧ at_ = (h + d) % m ∧ ss[at_]? = some f ∧ f.st ≠ 0 ∧ f.k = k) ∨
  (b = false ∧ at_ = 0 ∧ ((∃ d f, d < m ∧ (∀ e, e < d → MissT ss m k (h + e)) ∧ ss[(h + d) % m]? = some f ∧ f.st = 0) ∨ ∀ e, e < m → MissT ss m k (h + e)))
theorem fromL_mem {first k y : Nat} : y ∈ fromL first k ↔ ∃ e, e < k ∧ y = first + e := by
  unfold fromL
  rw [List.mem_map]
  constructor
  · rintro ⟨e, he, rfl⟩
    exact ⟨e, List.mem_range.1 he, rfl⟩
  · rintro ⟨e, he, rfl⟩
    exact ⟨e, List.mem_range.2 he, rfl⟩
/-- All but the last one that came. -/
theorem fromL_last {first k x : Nat} {pre : List Nat} (h : pre ++ [x] = fromL first k) : ∃ d, k = d + 1 ∧ pre = fromL first d ∧ x = first + d := by
  cases k with
  | zero => simp [fromL] at h
  | succ d =>
    rw [fromL_succ] at h
    have h1 := List.append_inj' h rfl
    exact ⟨d, rfl, h1.1, by have := h1.2; simpa using this⟩
theorem results_ib {fn : Func} {p q : Tmp} {T1 T2 : TypeId} (hr : fn.results = #[.cell p T1, .cell q T2]) (tmps : Array Value) (w : World) (g1 g2 : Nat) (hp : tmps.getD p undef = .pointer (some ⟨g1, 0, none⟩)) (hq : tmps.getD q undef = .pointer (some ⟨g2, 0, none⟩)) (u v : Value)
    (h1 : ∀ w, (loadVar T1 ⟨g1, 0, none⟩).run Try.prog w = ((load ⟨g1, 0, none⟩ : Sem Value)).run Try.prog w) (h2 : ∀ w, (loadVar T2 ⟨g2, 0, none⟩).run Try.prog w = ((load ⟨g2, 0, none⟩ : Sem Value)).run Try.prog w)
    (hb1 : w.cell? ⟨g1, 0, none⟩ = some u) (hb2 : w.cell? ⟨g2, 0, none⟩ = some v) :
    (results fn tmps).run Try.prog w = .ok (.tuple #[u, v]) w := by
  have hp' : tmps[p]?.getD undef = .pointer (some ⟨g1, 0, none⟩) := by rw [← hp]; simp
  have hq' : tmps[q]?.getD undef = .pointer (some ⟨g2, 0, none⟩) := by rw [← hq]; simp
  simp only [results, hr]
  simp [Sem.run_bind, Result.andThen, hp', hq', asAddr, h1, h2, run_load, hb1, hb2]
theorem ldv_int (g : Nat) (w : World) : (loadVar 3 ⟨g, 0, none⟩).run Try.prog w = ((load ⟨g, 0, none⟩ : Sem Value)).run Try.prog w := by
  simp [loadVar, Try.isAgg3]
theorem ldv_bool (g : Nat) (w : World) : (loadVar 4 ⟨g, 0, none⟩).run Try.prog w = ((load ⟨g, 0, none⟩ : Sem Value)).run Try.prog w := by
  simp [loadVar, Try.isAgg4]
/-- A block of cells stays, where what is turned is none. -/
theorem blk_turn {w w' : World} {T : TypeId} {g : Nat} {cs : List Value} {row : Option Nat} (h : Blk w T g cs) (hg : w.grownBy w' row) (hr : ∀ r, row = some r → ∃ o : Obj, w.heap[r]? = some o ∧ o.isCells = false) : Blk w' T g cs :=
  Blk.gb h hg (fun e => by
    obtain ⟨o, h1, h2⟩ := hr g e
    have h3 : w.heap[g]? = some (.cells cs.toArray T (0, 0)) := h
    rw [h3] at h1
    cases h1
    cases h2)
theorem below_turn {B C : Nat} {w0 w w' : World} {row : Option Nat} (h : Below B w0 w) (hB : B ≤ w0.heap.size) (hBC : B ≤ C) (hg : w.grownBy w' row) (hr : ∀ r, row = some r → C ≤ r) : Below B w0 w' :=
  h.grown hg (Nat.le_trans hB h.size) (fun k hk => Nat.le_trans hBC (hr k hk))
/-- How the search's round leaves. -/
def FindX (w0 w1 : World) (B : Nat) (ss : List Fw) (m : Nat) (k : Tu) (c : Code) (pre : List Nat) (W : World) : Prop :=
  (c = .ret ∧ ∃ pre0 x f, pre = pre0 ++ [x] ∧ (∀ y, y ∈ pre0 → MissT ss m k y) ∧ ss[x % m]? = some f ∧ f.st ≠ 0 ∧ f.k = k ∧ Blk W 3 (B + 1 + 1) [.int .i64 ((x % m : Nat) : Int)] ∧ Blk W 4 (B + 1 + 1 + 1) [.bool true] ∧ Below B w0 W) ∨
  (c = .exit 0 ∧ ∃ pre0 x f, pre = pre0 ++ [x] ∧ (∀ y, y ∈ pre0 → MissT ss m k y) ∧ ss[x % m]? = some f ∧ f.st = 0 ∧ Below w1.heap.size w1 W)
theorem findX_own (w0 w1 : World) (B : Nat) (ss : List Fw) (m : Nat) (k : Tu) (hB : B ≤ w0.heap.size) (hB1 : B ≤ w1.heap.size) (c : Code) : OwnFrom w1.heap.size (FindX w0 w1 B ss m k c) := by
  rintro pre W W' row (⟨hc, pre0, x, f, h1, h2, h3, h4, h5, h6, h7, h8⟩ | ⟨hc, pre0, x, f, h1, h2, h3, h4, h5⟩) hg hr
  · exact .inl ⟨hc, pre0, x, f, h1, h2, h3, h4, h5, blk_turn h6 hg (fun r e => (hr r e).2), blk_turn h7 hg (fun r e => (hr r e).2), below_turn h8 hB hB1 hg (fun r e => (hr r e).1)⟩
  · exact .inr ⟨hc, pre0, x, f, h1, h2, h3, h4, below_turn h5 (Nat.le_refl _) (Nat.le_refl _) hg (fun r e => (hr r e).1)⟩
theorem wpListIn_loadTuL {F : Fence} {n : Nat} {ops : Array Oper} {rest : List Oper} {op : Oper} {a : Act} {w : World} {Q : Exit → Act → World → Prop} (hgd : op.guard = none) (x : Operand) (ho : op.op = .load 26 x)
    (b o : Nat) (hx : a.eval x = .pointer (some ⟨b, o, none⟩)) (t : Tu) (ht : t.Ok) (hc : w.rangeAt b o (tuL t)) (C : Value) (hC : tuC t = C)
    (h : wpListIn F n Try.prog ops Q rest (a.put op.dst C) w) : wpListIn F n Try.prog ops Q (op :: rest) a w := by
  subst hC
  exact wpListIn_load_mid hgd _ x ho b o hx (tuL t) _ hc Try.underlying26 rfl (sizeTuL ht) h

set_option maxHeartbeats 16000000 in
theorem pfind_yes {g gs room m cnt : Nat} {key : List UInt8} {ss : List Fw} (w : World) (hT : TabR w g gs key room m cnt ss) (h0 : 0 < m) (hm : m ≤ 100000) {k : Tu} (ho : k.Ok) (hkn : knownB k = true) :
    Calls Try.prog 39 #[.pointer (some ⟨g, 0, none⟩), tuC k] w fun e w' => ∃ (p : Nat) (b : Bool), e = .returned (.tuple #[.int .i64 (p : Int), .bool b]) ∧ FindG ss m (homeN key m k) k p b ∧ Below w.heap.size w w' := by
  obtain ⟨B, hB⟩ : ∃ B, w.heap.size = B := ⟨_, rfl⟩
  obtain ⟨C0, hC0⟩ : ∃ C, (tuL k).toArray = C := ⟨_, rfl⟩
  have hte : tuC k = .agg C0 := by unfold tuC; rw [hC0]
  rw [hte]
  obtain ⟨Y, hY⟩ : ∃ Y, (((w.alloc (.cells #[.pointer (some ⟨g, 0, none⟩)] 30)).alloc (.cells C0 26)).alloc (.cells #[.int .i64 0] 3)).alloc (.cells #[.bool false] 4) = Y := ⟨_, rfl⟩
  have hz1 : (w.alloc (.cells #[.pointer (some ⟨g, 0, none⟩)] 30)).heap.size = B + 1 := by rw [World.size_alloc, hB]
  have hz2 : ((w.alloc (.cells #[.pointer (some ⟨g, 0, none⟩)] 30)).alloc (.cells C0 26)).heap.size = B + 1 + 1 := by rw [World.size_alloc, hz1]
  have hz3 : (((w.alloc (.cells #[.pointer (some ⟨g, 0, none⟩)] 30)).alloc (.cells C0 26)).alloc (.cells #[.int .i64 0] 3)).heap.size = B + 1 + 1 + 1 := by rw [World.size_alloc, hz2]
  have hYz : Y.heap.size = B + 1 + 1 + 1 + 1 := by rw [← hY, World.size_alloc, hz3]
  have y0 : Blk Y 30 B [.pointer (some ⟨g, 0, none⟩)] := by rw [← hY, ← hB]; exact Blk_10.alloc (Blk_10.alloc (Blk_10.alloc (Blk_10.new w _ _) _) _) _
  have y1 : Blk Y 26 (B + 1) (tuL k) := by rw [← hY, ← hC0, ← hz1]; exact Blk_10.alloc (Blk_10.alloc (Blk_10.new _ _ _) _) _
  have y2 : Blk Y 3 (B + 1 + 1) [.int .i64 0] := by rw [← hY, ← hz2]; exact Blk_10.alloc (Blk_10.new _ _ _) _
  have y3 : Blk Y 4 (B + 1 + 1 + 1) [.bool false] := by rw [← hY, ← hz3]; exact Blk_10.new _ _ _
  have hBY : Below B w Y := by
    rw [← hY, ← hB]
    exact ((((Below.refl _ w).alloc (Nat.le_refl _) _).alloc (by rw [hz1, hB]; omega) _).alloc (by rw [hz2, hB]; omega) _).alloc (by rw [hz3, hB]; omega) _
  have HTY : TabR Y g gs key room m cnt ss := hT.below (by rw [hB]; exact hBY)
  have HKY := fun W => pkey_any ho W
  rw [hkn, hte] at HKY
  have hgB : g < B := by rw [← hB]; exact hT.ltg
  have hsB : gs < B := by rw [← hB]; exact hT.lts
  have HGB := Lib.hid hgB
  have HSB := Lib.hid hsB
  have HO := Lib.hid ho
  have HFIT := Lib.hid (known_fit hkn)
  have HKL := Lib.hid hT.klen
  have HSL := Lib.hid hT.len
  have HKY := Lib.hid HKY
  have HTE := Lib.hid hte
  have HC0 := Lib.hid hC0
  have HB := Lib.hid hB
  have HY := Lib.hid hY
  have HYZ := Lib.hid hYz
  have HY0 := Lib.hid y0
  have HY1 := Lib.hid y1
  have HY2 := Lib.hid y2
  have HY3 := Lib.hid y3
  have HBY := Lib.hid hBY
  have HTT := Lib.hid HTY
  have HM0 := Lib.hid h0
  have HMM := Lib.hid hm
  clear hY hYz y0 y1 y2 y3 hBY HTY hgB hsB ho hkn hte hT hC0 hz1 hz2 hz3 h0 hm
  obtain ⟨h, hh⟩ : ∃ h, homeN key m k = h := ⟨_, rfl⟩
  have HHN := Lib.hid hh
  rw [hh]
  clear hh
  have f1 : Fence.wide.fn 33 := trivial
  refine (callsIn_wide (n := 6)).1 ?_
  refine callsIn_of_wp_marks Try.func39 rfl trivial ?_ rfl
  simp only [Try.ntmps39, List.size_toArray, List.length_cons, List.length_nil, Nat.reduceAdd, Nat.reduceSub, Array.replicate_succ, Array.replicate_zero, List.push_toArray, List.append_toArray, List.nil_append, List.cons_append]
  gi_upto_region 1 with fail
  rw [HY.out]
  gi_upto_region 3 with (first
    | ((with_reducible show wpListIn _ _ _ _ _ (⟨some 8, _, _, _, _, _⟩ :: _) _ _); refine wpListIn_loadTuL rfl _ rfl (B + 1) 0 (by rfl) k HO.out (Blk_10.range HY1.out) (.agg C0) HTE.out ?_)
    | (gi_at_call 33; refine (callsIn_wide.2 (HKY.out Y)).mono ?_; rintro e W1 ⟨rfl, hb1⟩; have HB1 := Lib.hid hb1; clear hb1))
  have hyz := HYZ.out
  have HSZ1 := Lib.hid (show B + 1 + 1 + 1 + 1 ≤ W1.heap.size from hyz ▸ HB1.out.size)
  clear hyz
  have HZ0 : Hid (∀ W, Below W1.heap.size W1 W → Below Y.heap.size Y W) := Lib.hid (fun W hW => HB1.out.trans (hW.mono HB1.out.size))
  have HQ0 : Hid (∀ W, Below W1.heap.size W1 W → W.cell? ⟨B, 0, none⟩ = some (.pointer (some ⟨g, 0, none⟩))) := Lib.hid (fun W hW => Blk_10.cell (Blk_10.below HY0.out (Blk_10.lt HY0.out) (HZ0.out W hW)) rfl)
  have HQ1 : Hid (∀ W, Below W1.heap.size W1 W → W.rangeAt (B + 1) 0 (tuL k)) := Lib.hid (fun W hW => Blk_10.range (Blk_10.below HY1.out (Blk_10.lt HY1.out) (HZ0.out W hW)))
  have HTW : Hid (∀ W, Below W1.heap.size W1 W → TabR W g gs key room m cnt ss) := Lib.hid (fun W hW => HTT.out.below (HZ0.out W hW))
  have HHM := Lib.hid (fun W (hW : Below W1.heap.size W1 W) => phome_any W (HTW.out W hW) HM0.out HMM.out HO.out HFIT.out)
  have HHL := Lib.hid (homeN_lt key HM0.out k)
  rw [HHN.out] at HHL
  rw [HHN.out, HTE.out] at HHM
  refine wpIn_of_held (r := none) (S := fun W => Below W1.heap.size W1 W) (by kernel_rfl) (by kernel_rfl) ((Below.refl W1.heap.size W1).drew) (fun hHeld => ?_)
  obtain ⟨X0, hX0⟩ : ∃ X, W1.drew = X := ⟨_, rfl⟩
  rw [hX0] at hHeld ⊢
  clear hX0
  refine tkY 0 11 (.pointer (some ⟨g, 0, none⟩)) rfl (Or.inl ⟨by rfl, fun W hW => by have hc := HQ0.out W hW; go_simp⟩) hHeld ?_
  simp only [Act.put, sA, sZ, sS]
  refine tkY 1 12 (.pointer (some ⟨g, 0, none⟩)) rfl (Or.inl ⟨by rfl, fun W hW => by have hc := HQ0.out W hW; go_simp⟩) hHeld ?_
  simp only [Act.put, sA, sZ, sS]
  refine tkY 2 13 (.agg C0) rfl (yields_loadTuL (by rfl) _ rfl (B + 1) 0 rfl k HO.out (.agg C0) HTE.out HQ1.out) hHeld ?_
  simp only [Act.put, sA, sZ, sS]
  refine wpAnyH_ready (rs := [3]) (by kernel_rfl) (by simp) (AllReadyH.cons (o := ⟨some 14, _, _, _, _, _⟩) rfl (fun K hK => ?_) AllReadyH.nil)
  go_simp
  refine (HHM.out X0 hHeld).mono ?_
  rintro e W2 ⟨rfl, hb2⟩
  have HB2 := Lib.hid (hHeld.trans (hb2.mono hHeld.size))
  clear hb2
  refine hK.out _ _ HB2.out (fun hHeld => ?_)
  clear hK K
  refine wpAnyH_ready (rs := [4]) (by kernel_rfl) (by simp) (AllReadyH.cons (o := ⟨some 15, _, _, _, _, _⟩) rfl (fun K hK => ?_) AllReadyH.nil)
  go_simp
  refine (pfrom_any g h W2).mono ?_
  rintro e W3 ⟨rfl, hW3⟩
  obtain ⟨D, hD⟩ : ∃ D, W2.heap.size = D := ⟨_, rfl⟩
  rw [hD]
  have HD1 := Lib.hid (show W3.heap.size = D + 1 + 1 by rw [hW3, World.size_alloc, World.size_alloc, hD])
  have HD2 := Lib.hid (show W3.cell? ⟨D, 0, none⟩ = some (.pointer (some ⟨g, 0, none⟩)) by rw [hW3, ← hD]; exact Blk_10.cell (Blk_10.alloc (Blk_10.new W2 30 [.pointer (some ⟨g, 0, none⟩)]) _) rfl)
  have HD3 := Lib.hid (show W3.cell? ⟨D + 1, 0, none⟩ = some (.int .i64 (h : Int)) by
    rw [hW3, ← hD]
    have := Blk_10.new (W2.alloc (.cells #[.pointer (some ⟨g, 0, none⟩)] 30)) 3 [.int .i64 (h : Int)]
    rw [World.size_alloc] at this
    exact Blk_10.cell this rfl)
  have HB3 : Hid (Below W1.heap.size W1 W3) := Lib.hid (by
    rw [hW3]
    exact (HB2.out.alloc HB2.out.size _).alloc (by rw [World.size_alloc]; exact Nat.le_succ_of_le HB2.out.size) _)
  have HDB := Lib.hid (show B + 1 + 1 + 1 + 1 ≤ D by rw [← hD]; exact Nat.le_trans HSZ1.out HB2.out.size)
  clear hW3 hD
  refine hK.out _ _ HB3.out (fun hHeld => ?_)
  clear hK K
  refine wpAnyH_done (by kernel_rfl) ?_ _
  clear hHeld
  dsimp only [Only]
  gi_wp2
  have hw0 : B ≤ W3.heap.size := by rw [HD1.out]; have := HDB.out; omega
  have HW0 := Lib.hid hw0
  have HWB : Hid (Below B w W3) := Lib.hid (HBY.out.trans ((HZ0.out W3 HB3.out).mono (by rw [HYZ.out]; omega)))
  clear hw0
  refine wpIn_rangeFunc_ownG rfl (by omega) (gf := 69) (lb := #[.pointer (some ⟨D, 0, none⟩), .pointer (some ⟨D + 1, 0, none⟩)]) rfl trivial (enters_of Try.func69 (by kernel_rfl) rfl)
    (from_stops Fence.wide _ trivial rfl (by omega) D (D + 1) g gs m h HM0.out (Nat.le_of_lt HHL.out) HMM.out W3 (by rw [HD1.out]; omega) (by rw [HD1.out]; omega) (Nat.lt_of_lt_of_le HGB.out HW0.out) HD2.out HD3.out ((HTW.out W3 HB3.out).cSl)) (fun h k => h.trans k) (kpF_b (by rw [HD1.out]; omega) (by rw [HD1.out]; omega) (Nat.lt_of_lt_of_le HGB.out HW0.out)) (Below.refl _ _) (fun _ => rfl)
    (fun (pre : List Nat) W => (∀ y, y ∈ pre → MissT ss m k y) ∧ Below W3.heap.size W3 W)
    (FindX w W3 B ss m k)
    (OwnFrom.and (ownFrom_pure _ (fun pre : List Nat => ∀ y, y ∈ pre → MissT ss m k y)) (ownFrom_below (Nat.le_refl _) (Nat.le_refl _)))
    (fun c => findX_own w W3 B ss m k (by rw [HB.out]; exact Nat.le_refl _) HW0.out c)
    ⟨fun y hy => (by cases hy), Below.refl _ _⟩
    (fun (x : Nat) => { tmps := #[.pointer (some ⟨g, 0, none⟩), .agg C0, .pointer (some ⟨B, 0, none⟩), .pointer (some ⟨B + 1, 0, none⟩), .pointer (some ⟨B + 1 + 1, 0, none⟩), .pointer (some ⟨B + 1 + 1 + 1, 0, none⟩), .int .i64 ((x % m : Nat) : Int), undef, .agg C0, .bool true, .bool false, .pointer (some ⟨g, 0, none⟩), .pointer (some ⟨g, 0, none⟩), .agg C0, .int .i64 (h : Int), .func (.func 69) #[] #[.pointer (some ⟨D, 0, none⟩), .pointer (some ⟨D + 1, 0, none⟩)], .int .i64 ((x % m : Nat) : Int), undef, undef, undef, undef, undef, undef, undef, undef, undef, undef, undef, undef, undef, undef, undef, undef, undef, undef], defers := [] }) ?assign ?body ?done ?stop
  case assign =>
    intro l x W K hK
    dsimp only [encF]
    gi_wp2
    exact hK
  case body =>
    rintro l pre x W ⟨hmiss, hbel⟩ hlt
    have HMISS := Lib.hid hmiss
    have HBEL := Lib.hid hbel
    have HBW : Hid (Below W1.heap.size W1 W) := Lib.hid (HB3.out.trans (hbel.mono HB3.out.size))
    obtain ⟨p, hp⟩ : ∃ p, x % m = p := ⟨_, rfl⟩
    have HP := Lib.hid hp
    have hpm : p < m := by rw [← hp]; exact Nat.mod_lt _ HM0.out
    rw [hp]
    obtain ⟨f, hf⟩ : ∃ f, ss[p]? = some f := ⟨_, List.getElem?_eq_getElem (by rw [HSL.out]; exact hpm)⟩
    have HF := Lib.hid hf
    have HTB := Lib.hid (HTW.out W HBW.out)
    have q0 := HQ0.out W HBW.out
    have q1 := HTB.out.cSl
    have q2 := HTB.out.slotC hf (fw_st f)
    have hpi : (p : Int) < (m : Int) := by omega
    have hp0 : (0 : Int) ≤ (p : Int) := by omega
    clear hmiss hbel hlt hp hf
    gi_upto_if 27 with fail
    by_cases hz : f.st = 0
    · have hzb : (f.st == 0) = true := by simp [hz]
      gi_wp2
      exact ⟨KeepsFrom.refl _ _, .inr ⟨rfl, pre, x, f, rfl, HMISS.out, (by rw [HP.out]; exact HF.out), hz, HBEL.out⟩⟩
    · have hzb : (f.st == 0) = false := beq_eq_false_iff_ne.2 hz
      gi_upto_region 7 with fail
      obtain ⟨C1, hC1⟩ : ∃ C, (tuL f.k).toArray = C := ⟨_, rfl⟩
      have HTF : Hid (tuC f.k = .agg C1) := Lib.hid (by unfold tuC; rw [hC1])
      obtain ⟨b, hb⟩ : ∃ b, tuQ f.k k = b := ⟨_, rfl⟩
      have HEQ : Hid (∀ W, (binOp .eql 26 (.agg C1) (.agg C0)).run Try.prog W = .ok (.bool b) W) := Lib.hid (fun W => by
        have := run_eqls_tu W f.ok HO.out
        rwa [HTF.out, HTE.out, hb] at this)
      have HBQ := Lib.hid hb
      have HFZ := Lib.hid hz
      have HSR : Hid (∀ X, Below W.heap.size W X → X.rangeAt gs (p * 41) (tuL f.k)) := Lib.hid (fun X hX => fw_key ((HTB.out.below hX).slot HF.out))
      have HQ1W : Hid (∀ X, Below W.heap.size W X → X.rangeAt (B + 1) 0 (tuL k)) := Lib.hid (fun X hX => HQ1.out X (HBW.out.trans (hX.mono HBW.out.size)))
      have HFOK := Lib.hid f.ok
      clear hC1 hb hz q0 q1 q2 hpi hp0 hzb
      refine wpIn_of_held (r := some l) (S := fun X => Below W.heap.size W X) (by kernel_rfl) (by kernel_rfl) ((Below.refl W.heap.size W).drew) (fun hHeld => ?_)
      obtain ⟨X0, hX0⟩ : ∃ X, W.drew = X := ⟨_, rfl⟩
      rw [hX0] at hHeld ⊢
      have HX0 := Lib.hid hX0
      clear hX0
      refine tk 0 28 (.pointer (some ⟨gs, p * 41, none⟩)) rfl hHeld ?_
      simp only [Act.put, sA, sZ, sS]
      refine tk 1 29 (.pointer (some ⟨gs, p * 41, none⟩)) rfl hHeld ?_
      simp only [Act.put, sA, sZ, sS]
      refine tk 2 30 (.pointer (some ⟨gs, p * 41, none⟩)) rfl hHeld ?_
      simp only [Act.put, sA, sZ, sS]
      refine tkY 3 31 (.agg C1) rfl (yields_loadTuL (by rfl) _ rfl gs (p * 41) rfl f.k HFOK.out (.agg C1) HTF.out HSR.out) hHeld ?_
      simp only [Act.put, sA, sZ, sS]
      refine tkY 4 32 (.agg C0) rfl (yields_loadTuL (by rfl) _ rfl (B + 1) 0 rfl k HO.out (.agg C0) HTE.out HQ1W.out) hHeld ?_
      simp only [Act.put, sA, sZ, sS]
      refine tkY 5 33 (.bool b) rfl (yields_cmpS (by rfl) .eql 26 _ _ _ rfl C1 C0 rfl rfl guard_tu' b HEQ.out) hHeld ?_
      simp only [Act.put, sA, sZ, sS]
      refine wpAnyH_done (by kernel_rfl) ?_ _
      dsimp only [Only]
      have HXW := Lib.hid hHeld
      have hk3 : KeepsFrom W3.heap.size W X0 := by rw [← HX0.out]; exact (KeepsOthers.drew W).from _
      have HK3 := Lib.hid hk3
      clear hHeld hk3
      cases b with
      | false =>
        gi_wp2
        refine ⟨HK3.out, ⟨?_, ?_, ?_⟩, fun y hy => ?_, HBEL.out.trans (HXW.out.mono HBEL.out.size)⟩
        · rw [← HX0.out]
          rfl
        · rw [← HX0.out]
          rfl
        · rw [← HX0.out]
          rfl
        · rcases List.mem_append.1 hy with hy | hy
          · exact HMISS.out y hy
          · obtain rfl : y = x := by simpa using hy
            exact ⟨f, (by rw [HP.out]; exact HF.out), HFZ.out, fun e => (by rw [e, tuQ_self] at HBQ; cases HBQ.out)⟩
      | true =>
        have z2 : Blk X0 3 (B + 1 + 1) [.int .i64 0] := Blk_10.below HY2.out (Blk_10.lt HY2.out) (HZ0.out X0 (HBW.out.trans (HXW.out.mono HBW.out.size)))
        have z3 : Blk X0 4 (B + 1 + 1 + 1) [.bool false] := Blk_10.below HY3.out (Blk_10.lt HY3.out) (HZ0.out X0 (HBW.out.trans (HXW.out.mono HBW.out.size)))
        have q2 : X0.cell? ⟨B + 1 + 1, 0, none⟩ = some (.int .i64 0) := Blk_10.cell z2 rfl
        have q3 : X0.cell? ⟨B + 1 + 1 + 1, 0, none⟩ = some (.bool false) := Blk_10.cell z3 rfl
        have q4 := Blk_10.frozen z2 0
        have q5 := Blk_10.frozen z3 0
        have HZ2 := Lib.hid z2
        have HZ3 := Lib.hid z3
        clear z2 z3
        gi_wp2
        have c1 : Blk (X0.setCell ⟨B + 1 + 1, 0, none⟩ (.int .i64 (p : Int))) 3 (B + 1 + 1) [.int .i64 (p : Int)] := Blk_10.set HZ2.out 0 _
        have c2 : Blk (X0.setCell ⟨B + 1 + 1, 0, none⟩ (.int .i64 (p : Int))) 4 (B + 1 + 1 + 1) [.bool false] := Blk.gb HZ3.out (gb_setCell X0 (B + 1 + 1) 0 _) (by simp)
        have hbx : Below B w X0 := HBY.out.trans ((HZ0.out X0 (HBW.out.trans (HXW.out.mono HBW.out.size))).mono (by rw [HYZ.out]; omega))
        refine ⟨HK3.out.trans (((KeepsOthers.setCell _ _ _).trans (KeepsOthers.setCell _ _ _)).from _), .inl ⟨rfl, pre, x, f, rfl, HMISS.out, (by rw [HP.out]; exact HF.out), HFZ.out, tuQ_eq.1 HBQ.out, ?_, ?_, ?_⟩⟩
        · rw [HP.out]
          exact Blk.gb c1 (gb_setCell _ (B + 1 + 1 + 1) 0 _) (by simp)
        · exact Blk_10.set c2 0 _
        · exact (hbx.setCell (p := ⟨B + 1 + 1, 0, none⟩) (by show B ≤ B + 1 + 1; omega) _).setCell (p := ⟨B + 1 + 1 + 1, 0, none⟩) (by show B ≤ B + 1 + 1 + 1; omega) _
  case done =>
    rintro Q ys W hQ rfl ⟨hmiss, hbel⟩ hK
    have hb1 : Below W1.heap.size W1 W := HB3.out.trans (hbel.mono HB3.out.size)
    have z2 : Blk W 3 (B + 1 + 1) [.int .i64 0] := Blk_10.below HY2.out (Blk_10.lt HY2.out) (HZ0.out W hb1)
    have z3 : Blk W 4 (B + 1 + 1 + 1) [.bool false] := Blk_10.below HY3.out (Blk_10.lt HY3.out) (HZ0.out W hb1)
    have hbx : Below B w W := HWB.out.trans (hbel.mono HW0.out)
    have hne : B + 1 + 1 + 1 < Q := by have := HD1.out; have := HDB.out; omega
    have hfind : FindG ss m h k 0 false := .inr ⟨rfl, rfl, .inr (fun e he => hmiss _ (fromL_mem.2 ⟨e, he, rfl⟩))⟩
    have q2 : W.cell? ⟨B + 1 + 1, 0, none⟩ = some (.int .i64 0) := Blk_10.cell z2 rfl
    have q3 : W.cell? ⟨B + 1 + 1 + 1, 0, none⟩ = some (.bool false) := Blk_10.cell z3 rfl
    have q4 := Blk_10.frozen z2 0
    have q5 := Blk_10.frozen z3 0
    have HFI := Lib.hid hfind
    have HQN := Lib.hid hne
    have HQW := Lib.hid (show w.heap.size ≤ Q by rw [HB.out]; omega)
    have c1 : Blk (W.setCell ⟨B + 1 + 1, 0, none⟩ (.int .i64 0)) 3 (B + 1 + 1) [.int .i64 0] := Blk_10.set z2 0 _
    have c2 : Blk (W.setCell ⟨B + 1 + 1, 0, none⟩ (.int .i64 0)) 4 (B + 1 + 1 + 1) [.bool false] := Blk.gb z3 (gb_setCell W (B + 1 + 1) 0 _) (by simp)
    have HE1 := Lib.hid (show Blk ((W.setCell ⟨B + 1 + 1, 0, none⟩ (.int .i64 0)).setCell ⟨B + 1 + 1 + 1, 0, none⟩ (.bool false)) 3 (B + 1 + 1) [.int .i64 0] from Blk.gb c1 (gb_setCell _ (B + 1 + 1 + 1) 0 _) (by simp))
    have HE2 := Lib.hid (show Blk ((W.setCell ⟨B + 1 + 1, 0, none⟩ (.int .i64 0)).setCell ⟨B + 1 + 1 + 1, 0, none⟩ (.bool false)) 4 (B + 1 + 1 + 1) [.bool false] from Blk_10.set c2 0 _)
    have HBX := Lib.hid ((hbx.setCell (p := ⟨B + 1 + 1, 0, none⟩) (by show B ≤ B + 1 + 1; omega) (.int .i64 0)).setCell (p := ⟨B + 1 + 1 + 1, 0, none⟩) (by show B ≤ B + 1 + 1 + 1; omega) (.bool false))
    have HQK := Lib.hid (show ((W.setCell ⟨B + 1 + 1, 0, none⟩ (.int .i64 0)).setCell ⟨B + 1 + 1 + 1, 0, none⟩ (.bool false)).heap[Q]? = some (.deferred (some [])) from ((gb_setCell _ (B + 1 + 1 + 1) 0 _).block Q (by rw [World.size_setCell]; exact (Array.getElem?_eq_some_iff.1 hK).1) (fun e => by cases e; omega)).trans (((gb_setCell W (B + 1 + 1) 0 _).block Q (Array.getElem?_eq_some_iff.1 hK).1 (fun e => by cases e; omega)).trans hK))
    clear hmiss
    clear z2 z3 hfind hne c1 c2 hbx hb1 hK hQ hbel
    gi_wp2
    refine ⟨by simp, .inl ⟨_, _, rfl, run_takeDeferred HQK.out, ?_⟩⟩
    refine ⟨_, results_ib rfl _ _ (B + 1 + 1) (B + 1 + 1 + 1) rfl rfl (.int .i64 0) (.bool false) (ldv_int _) (ldv_bool _) (Blk_10.cell (Blk.gb HE1.out (grownBy_putObj' _ Q _) (fun e => by have := HQN.out; cases e; omega)) rfl) (Blk_10.cell (Blk.gb HE2.out (grownBy_putObj' _ Q _) (fun e => by have := HQN.out; cases e; omega)) rfl), 0, false, rfl, HFI.out, ?_⟩
    rw [HB.out]
    exact HBX.out.trans (belowK_b (w := w) (by rw [HB.out]; exact Nat.le_refl _) _ Q _ _ HQW.out HQK.out rfl rfl)
  case stop =>
    rintro Q c pre W hQ ⟨kk, hkk, hpre⟩ hX hK
    rcases hX with ⟨rfl, pre0, x, f, h1, h2, h3, h4, h5, z2, z3, hbx⟩ | ⟨rfl, pre0, x, f, h1, h2, h3, h4, hbel⟩
    · obtain ⟨d, rfl, rfl, rfl⟩ := fromL_last (h1.symm.trans hpre)
      have hne : B + 1 + 1 + 1 < Q := by have := HD1.out; have := HDB.out; omega
      have hfind : FindG ss m h k ((h + d) % m) true := .inl ⟨rfl, d, f, hkk, fun e he => h2 _ (fromL_mem.2 ⟨e, he, rfl⟩), rfl, h3, h4, h5⟩
      have HFI := Lib.hid hfind
      have HZ2 := Lib.hid z2
      have HZ3 := Lib.hid z3
      have HQK := Lib.hid hK
      have HQN := Lib.hid hne
      have HBX := Lib.hid hbx
      have HQW := Lib.hid (show w.heap.size ≤ Q by rw [HB.out]; omega)
      generalize (h + d) % m = p at HFI HZ2
      clear hpre h1 h2 h3 h4 h5 z2 z3 hK hne hbx hQ hkk hfind
      gi_wp2
      refine ⟨by simp, .inl ⟨_, _, rfl, run_takeDeferred HQK.out, ?_⟩⟩
      refine ⟨_, results_ib rfl _ _ (B + 1 + 1) (B + 1 + 1 + 1) rfl rfl (.int .i64 (p : Int)) (.bool true) (ldv_int _) (ldv_bool _) (Blk_10.cell (Blk.gb HZ2.out (grownBy_putObj' W Q _) (fun e => by have := HQN.out; cases e; omega)) rfl) (Blk_10.cell (Blk.gb HZ3.out (grownBy_putObj' W Q _) (fun e => by have := HQN.out; cases e; omega)) rfl), p, true, rfl, HFI.out, ?_⟩
      rw [HB.out]
      exact HBX.out.trans (belowK_b (w := w) (by rw [HB.out]; exact Nat.le_refl _) W Q _ _ HQW.out HQK.out rfl rfl)
    · obtain ⟨d, rfl, rfl, rfl⟩ := fromL_last (h1.symm.trans hpre)
      have hb1 : Below W1.heap.size W1 W := HB3.out.trans (hbel.mono HB3.out.size)
      have z2 : Blk W 3 (B + 1 + 1) [.int .i64 0] := Blk_10.below HY2.out (Blk_10.lt HY2.out) (HZ0.out W hb1)
      have z3 : Blk W 4 (B + 1 + 1 + 1) [.bool false] := Blk_10.below HY3.out (Blk_10.lt HY3.out) (HZ0.out W hb1)
      have hbx : Below B w W := HWB.out.trans (hbel.mono HW0.out)
      have hne : B + 1 + 1 + 1 < Q := by have := HD1.out; have := HDB.out; omega
      have hfind : FindG ss m h k 0 false := .inr ⟨rfl, rfl, .inl ⟨d, f, hkk, fun e he => h2 _ (fromL_mem.2 ⟨e, he, rfl⟩), h3, h4⟩⟩
      clear hpre h1 h2 h3 h4 hkk
      have q2 : W.cell? ⟨B + 1 + 1, 0, none⟩ = some (.int .i64 0) := Blk_10.cell z2 rfl
      have q3 : W.cell? ⟨B + 1 + 1 + 1, 0, none⟩ = some (.bool false) := Blk_10.cell z3 rfl
      have q4 := Blk_10.frozen z2 0
      have q5 := Blk_10.frozen z3 0
      have HFI := Lib.hid hfind
      have HQN := Lib.hid hne
      have HQW := Lib.hid (show w.heap.size ≤ Q by rw [HB.out]; omega)
      have c1 : Blk (W.setCell ⟨B + 1 + 1, 0, none⟩ (.int .i64 0)) 3 (B + 1 + 1) [.int .i64 0] := Blk_10.set z2 0 _
      have c2 : Blk (W.setCell ⟨B + 1 + 1, 0, none⟩ (.int .i64 0)) 4 (B + 1 + 1 + 1) [.bool false] := Blk.gb z3 (gb_setCell W (B + 1 + 1) 0 _) (by simp)
      have HE1 := Lib.hid (show Blk ((W.setCell ⟨B + 1 + 1, 0, none⟩ (.int .i64 0)).setCell ⟨B + 1 + 1 + 1, 0, none⟩ (.bool false)) 3 (B + 1 + 1) [.int .i64 0] from Blk.gb c1 (gb_setCell _ (B + 1 + 1 + 1) 0 _) (by simp))
      have HE2 := Lib.hid (show Blk ((W.setCell ⟨B + 1 + 1, 0, none⟩ (.int .i64 0)).setCell ⟨B + 1 + 1 + 1, 0, none⟩ (.bool false)) 4 (B + 1 + 1 + 1) [.bool false] from Blk_10.set c2 0 _)
      have HBX := Lib.hid ((hbx.setCell (p := ⟨B + 1 + 1, 0, none⟩) (by show B ≤ B + 1 + 1; omega) (.int .i64 0)).setCell (p := ⟨B + 1 + 1 + 1, 0, none⟩) (by show B ≤ B + 1 + 1 + 1; omega) (.bool false))
      have HQK := Lib.hid (show ((W.setCell ⟨B + 1 + 1, 0, none⟩ (.int .i64 0)).setCell ⟨B + 1 + 1 + 1, 0, none⟩ (.bool false)).heap[Q]? = some (.deferred (some [])) from ((gb_setCell _ (B + 1 + 1 + 1) 0 _).block Q (by rw [World.size_setCell]; exact (Array.getElem?_eq_some_iff.1 hK).1) (fun e => by cases e; omega)).trans (((gb_setCell W (B + 1 + 1) 0 _).block Q (Array.getElem?_eq_some_iff.1 hK).1 (fun e => by cases e; omega)).trans hK))
      clear z2 z3 hfind hne c1 c2 hbx hb1 hK hQ hbel
      gi_wp2
      refine ⟨by simp, .inl ⟨_, _, rfl, run_takeDeferred HQK.out, ?_⟩⟩
      refine ⟨_, results_ib rfl _ _ (B + 1 + 1) (B + 1 + 1 + 1) rfl rfl (.int .i64 0) (.bool false) (ldv_int _) (ldv_bool _) (Blk_10.cell (Blk.gb HE1.out (grownBy_putObj' _ Q _) (fun e => by have := HQN.out; cases e; omega)) rfl) (Blk_10.cell (Blk.gb HE2.out (grownBy_putObj' _ Q _) (fun e => by have := HQN.out; cases e; omega)) rfl), 0, false, rfl, HFI.out, ?_⟩
      rw [HB.out]
      exact HBX.out.trans (belowK_b (w := w) (by rw [HB.out]; exact Nat.le_refl _) _ Q _ _ HQW.out HQK.out rfl rfl)
theorem pfind_no {g : Nat} (w : World) {k : Tu} (ho : k.Ok) (hkn : knownB k = false) :
    Calls Try.prog 39 #[.pointer (some ⟨g, 0, none⟩), tuC k] w fun e w' => e = .returned (.tuple #[.int .i64 0, .bool false]) ∧ Below w.heap.size w w' := by
  obtain ⟨B, hB⟩ : ∃ B, w.heap.size = B := ⟨_, rfl⟩
  obtain ⟨C0, hC0⟩ : ∃ C, (tuL k).toArray = C := ⟨_, rfl⟩
  have hte : tuC k = .agg C0 := by unfold tuC; rw [hC0]
  rw [hte]
  obtain ⟨Y, hY⟩ : ∃ Y, (((w.alloc (.cells #[.pointer (some ⟨g, 0, none⟩)] 30)).alloc (.cells C0 26)).alloc (.cells #[.int .i64 0] 3)).alloc (.cells #[.bool false] 4) = Y := ⟨_, rfl⟩
  have hz1 : (w.alloc (.cells #[.pointer (some ⟨g, 0, none⟩)] 30)).heap.size = B + 1 := by rw [World.size_alloc, hB]
  have hz2 : ((w.alloc (.cells #[.pointer (some ⟨g, 0, none⟩)] 30)).alloc (.cells C0 26)).heap.size = B + 1 + 1 := by rw [World.size_alloc, hz1]
  have hz3 : (((w.alloc (.cells #[.pointer (some ⟨g, 0, none⟩)] 30)).alloc (.cells C0 26)).alloc (.cells #[.int .i64 0] 3)).heap.size = B + 1 + 1 + 1 := by rw [World.size_alloc, hz2]
  have hYz : Y.heap.size = B + 1 + 1 + 1 + 1 := by rw [← hY, World.size_alloc, hz3]
  have y1 : Blk Y 26 (B + 1) (tuL k) := by rw [← hY, ← hC0, ← hz1]; exact Blk_10.alloc (Blk_10.alloc (Blk_10.new _ _ _) _) _
  have y2 : Blk Y 3 (B + 1 + 1) [.int .i64 0] := by rw [← hY, ← hz2]; exact Blk_10.alloc (Blk_10.new _ _ _) _
  have y3 : Blk Y 4 (B + 1 + 1 + 1) [.bool false] := by rw [← hY, ← hz3]; exact Blk_10.new _ _ _
  have hBY : Below B w Y := by
    rw [← hY, ← hB]
    exact ((((Below.refl _ w).alloc (Nat.le_refl _) _).alloc (by rw [hz1, hB]; omega) _).alloc (by rw [hz2, hB]; omega) _).alloc (by rw [hz3, hB]; omega) _
  have HKY := fun W => pkey_any ho W
  rw [hkn, hte] at HKY
  have HKY := Lib.hid HKY
  have HO := Lib.hid ho
  have HTE := Lib.hid hte
  have HY := Lib.hid hY
  have HYZ := Lib.hid hYz
  have HY1 := Lib.hid y1
  have HY2 := Lib.hid y2
  have HY3 := Lib.hid y3
  have HBY := Lib.hid hBY
  clear hY hYz y1 y2 y3 hBY ho hkn hte hC0 hz1 hz2 hz3
  go_enter Try.func39, Try.ntmps39
  go_upto_region 1 with (fail)
  rw [HY.out]
  go_upto_region 2 with (first | ((with_reducible show wpList _ _ _ (⟨some 8, _, _, _, _, _⟩ :: _) _ _); refine wpList_loadTuL (op := ⟨some 8, _, _, _, _, _⟩) _ rfl (by rfl) (B + 1) 0 (by rfl) k HO.out (Blk_10.range HY1.out) (.agg C0) HTE.out ?_) | ((with_reducible refine (HKY.out Y).mono ?_); rintro e W ⟨rfl, hb⟩; have HB1 := Lib.hid hb; clear hb))
  have z2 : Blk W 3 (B + 1 + 1) [.int .i64 0] := Blk_10.below HY2.out (Blk_10.lt HY2.out) HB1.out
  have z3 : Blk W 4 (B + 1 + 1 + 1) [.bool false] := Blk_10.below HY3.out (Blk_10.lt HY3.out) HB1.out
  have hbx : Below B w W := HBY.out.trans (HB1.out.mono (by rw [HYZ.out]; omega))
  have q2 : W.cell? ⟨B + 1 + 1, 0, none⟩ = some (.int .i64 0) := Blk_10.cell z2 rfl
  have q3 : W.cell? ⟨B + 1 + 1 + 1, 0, none⟩ = some (.bool false) := Blk_10.cell z3 rfl
  have q4 := Blk_10.frozen z2 0
  have q5 := Blk_10.frozen z3 0
  have c1 : Blk (W.setCell ⟨B + 1 + 1, 0, none⟩ (.int .i64 0)) 3 (B + 1 + 1) [.int .i64 0] := Blk_10.set z2 0 _
  have c2 : Blk (W.setCell ⟨B + 1 + 1, 0, none⟩ (.int .i64 0)) 4 (B + 1 + 1 + 1) [.bool false] := Blk.gb z3 (gb_setCell W (B + 1 + 1) 0 _) (by simp)
  have HE1 := Lib.hid (show Blk ((W.setCell ⟨B + 1 + 1, 0, none⟩ (.int .i64 0)).setCell ⟨B + 1 + 1 + 1, 0, none⟩ (.bool false)) 3 (B + 1 + 1) [.int .i64 0] from Blk.gb c1 (gb_setCell _ (B + 1 + 1 + 1) 0 _) (by simp))
  have HE2 := Lib.hid (show Blk ((W.setCell ⟨B + 1 + 1, 0, none⟩ (.int .i64 0)).setCell ⟨B + 1 + 1 + 1, 0, none⟩ (.bool false)) 4 (B + 1 + 1 + 1) [.bool false] from Blk_10.set c2 0 _)
  have HBX := Lib.hid ((hbx.setCell (p := ⟨B + 1 + 1, 0, none⟩) (by show B ≤ B + 1 + 1; omega) (.int .i64 0)).setCell (p := ⟨B + 1 + 1 + 1, 0, none⟩) (by show B ≤ B + 1 + 1 + 1; omega) (.bool false))
  clear z2 z3 c1 c2 hbx
  go_wp2_with fail
  refine bodyPost_ret (v := .tuple #[.int .i64 0, .bool false]) (results_ib rfl _ _ (B + 1 + 1) (B + 1 + 1 + 1) rfl rfl (.int .i64 0) (.bool false) (ldv_int _) (ldv_bool _) (Blk_10.cell HE1.out rfl) (Blk_10.cell HE2.out rfl)) rfl ?_
  exact ⟨rfl, (by rw [hB]; exact HBX.out)⟩
end Go.Proofs.Ytfbiinipiklkaaa
namespace Go.Proofs.Ytfbiinipiklkaaa
set_option maxRecDepth 100000
open Go.RowKit Go.Shelf Go.Lib

attribute [local go_sem] Oper.semAt_some

/-- A right flow. -/
abbrev RF := { f : Fw // rightF f = true }
def rfOf (f : Fw) : Option RF := if h : rightF f = true then some ⟨f, h⟩ else none
def liveR (l : List Fw) : List RF := l.filterMap rfOf
theorem liveR_val (l : List Fw) : (liveR l).map (·.1) = l.filter rightF := by
  induction l with
  | nil => rfl
  | cons a l ih =>
    unfold liveR at ih ⊢
    by_cases h : rightF a = true
    · rw [List.filterMap_cons_some (b := ⟨a, h⟩) (by unfold rfOf; rw [dif_pos h]), List.map_cons, ih, List.filter_cons_of_pos h]
    · rw [List.filterMap_cons_none (by unfold rfOf; rw [dif_neg h]), ih, List.filter_cons_of_neg h]
theorem liveR_yes {l : List Fw} {r : Nat} {f : Fw} (hf : l[r]? = some f) (h : rightF f = true) : liveR (l.take (r + 1)) = liveR (l.take r) ++ [⟨f, h⟩] := by
  unfold liveR
  rw [List.take_add_one, hf, List.filterMap_append]
  congr 1
  unfold rfOf
  simp [h]
theorem liveR_no {l : List Fw} {r : Nat} {f : Fw} (hf : l[r]? = some f) (h : rightF f = false) : liveR (l.take (r + 1)) = liveR (l.take r) := by
  unfold liveR
  rw [List.take_add_one, hf, List.filterMap_append]
  unfold rfOf
  simp [h]
theorem liveR_le (l : List Fw) (r : Nat) : (liveR (l.take r)).length ≤ r := Nat.le_trans (List.length_filterMap_le _ _) (by rw [List.length_take]; omega)
/-- What stands there is right, or nothing. -/
def SlotsR (ss : List Fw) : Prop := ∀ f, f ∈ ss → f.st ≠ 0 → rightF f = true
theorem right_st {f : Fw} (h : rightF f = true) : f.st ≠ 0 := by
  intro e
  unfold rightF inB' at h
  rw [e] at h
  simp at h
theorem wpList_storeNewL {arr : Array Value} {w : World} {ops : Array Oper} {rest : List Oper} {op : Oper} {a : Act} {Q : Exit → Act → World → Prop} (hgd : op.guard = none) (T : TypeId) (x y : Operand) (ho : op.op = .store T x y)
    (hx : a.eval x = .pointer (some ⟨w.heap.size, 0, none⟩)) (cs : List Value) (C : Array Value) (hC : cs.toArray = C) (hy : a.eval y = .agg C) (hl : arr.size = cs.length) (hi : (Try.prog.info? T).map (·.size) = some cs.length) (h1 : ∀ v ∈ cs, v.oneCell' = true)
    (h : ∀ w', Blk w' T w.heap.size cs → Below w.heap.size w w' → w'.heap.size = w.heap.size + 1 → wpList Try.prog ops Q rest (a.put op.dst undef) w') :
    wpList Try.prog ops Q (op :: rest) a (w.alloc (.cells arr T)) := by
  subst hC
  exact wpList_storeNewG hgd T x y ho hx cs hy hl hi h1 h
theorem wpListIn_loadFw {F : Fence} {n : Nat} {ops : Array Oper} {rest : List Oper} {op : Oper} {a : Act} {w : World} {Q : Exit → Act → World → Prop} (x : Operand) (ho : op.op = .load 28 x) (hw : Region.wanted op (yielded ops a.tmps) = true)
    (b o : Nat) (hx : a.eval x = .pointer (some ⟨b, o, none⟩)) (f : Fw) (hc : w.rangeAt b o (fwL f)) (C : Array Value) (hC : (fwL f).toArray = C)
    (h : wpListIn F n Try.prog ops Q rest (a.put op.dst (.agg C)) w) : wpListIn F n Try.prog ops Q (op :: rest) a w := by
  subst hC
  have hl := run_loadAt_mid (P := Try.prog) w b o 28 (fwL f) _ hc Try.underlying28 rfl (sizeFwL f)
  simp only [wpListIn, hw, if_true]
  unfold Oper.wpIn
  refine ⟨?_, ?_⟩
  · simp [Oper.about, ho]
  · rw [Oper.semAt_plain F _ _ (by rw [ho]; intro c hc'; cases hc')]
    simp [execOp, ho, hx, hl, Result.andThen]
    exact h
theorem pflows_any (g : Nat) (w : World) : Calls Try.prog 44 #[.pointer (some ⟨g, 0, none⟩)] w fun e w' => e = .returned (.func (.func 58) #[] #[.pointer (some ⟨w.heap.size, 0, none⟩)]) ∧
    w' = w.alloc (.cells #[.pointer (some ⟨g, 0, none⟩)] 30) := by
  go_enter Try.func44, Try.ntmps44
  go_wp2_with fail
  go_ret
  exact ⟨rfl, rfl⟩
/-- What a round that goes on keeps: the slots. -/
def KpS (gs : Nat) (W W' : World) : Prop := W'.heap[gs]? = W.heap[gs]?
theorem KpS.trans {gs : Nat} {A B C : World} (h : KpS gs A B) (k : KpS gs B C) : KpS gs A C := Eq.trans k h
theorem kpS_b {gs : Nat} {w : World} (h1 : gs < w.heap.size) (W : World) (l : Nat) (o o' : Obj) (hl : w.heap.size ≤ l) (h : W.heap[l]? = some o) (_ : o.isCells = false) (_ : o.isWalk = false) : KpS gs W (W.putObj l o') := by
  have hlt := (Array.getElem?_eq_some_iff.1 h).1
  exact (grownBy_putObj' W l o').block gs (by omega) (fun e => by cases e; omega)
def encR (x : RF) : Array Value := #[fwC x.1]
def YGR (gs : Nat) (J Jx : List RF → World → Prop) (pre : List RF) (W : World) (b : Bool) (W' : World) : Prop := (b = true ∧ J pre W' ∧ KpS gs W W') ∨ (b = false ∧ Jx pre W')
theorem slot_of {w w' : World} {gs m r : Nat} {ss : List Fw} {f : Fw} (h : OwnG eF w 0 (slV gs m) ss) (hk : KpS gs w w') (hf : ss[r]? = some f) : w'.rangeAt gs (r * 41) (fwL f) := by
  have h2 : OwnG eF w' 0 (slV gs m) ss := h.keeps (fun b hb => by cases hb; exact hk)
  have := h2.rd.range hf
  rwa [Nat.zero_add] at this

set_option maxHeartbeats 8000000 in
theorem flows1_in (n : Nat) (l Bt g gs m : Nat) (ss : List Fw) (hm : m ≤ 100000) (hR : SlotsR ss) (hl : ss.length = m) (J Jx : List RF → World → Prop) (N0 : Nat) (hJ : AbidesFrom N0 J)
    (hY : ∀ pre x W, J pre W → pre.length < m → YieldAt Fence.wide (n - 1) Try.prog l (encR x) W fun e W' =>
      (e = .returned (.bool true) ∧ J (pre ++ [x]) W' ∧ KpS gs W W') ∨ (e = .returned (.bool false) ∧ Jx (pre ++ [x]) W'))
    (W : World) (hBt : W.cell? ⟨Bt, 0, none⟩ = some (.pointer (some ⟨g, 0, none⟩))) (hg : W.cell? ⟨g, 18, none⟩ = some (.slice (some ⟨gs, 0, none⟩) m m)) (ho : OwnG eF W 0 (slV gs m) ss) (hJ0 : J [] W) :
    CallsIn Fence.wide n Try.prog 58 #[.func (.yield l) #[] #[], .pointer (some ⟨Bt, 0, none⟩)] W fun e W' => (∃ v, e = .returned v) ∧
      ((∃ ys, ys = liveR ss ∧ J ys W') ∨ (∃ pre, (∃ k, k ≤ m ∧ pre = liveR (ss.take k)) ∧ Jx pre W')) := by
  refine callsIn_of_wp Try.func58 rfl trivial ?_ rfl
  simp only [Try.ntmps58, List.size_toArray, List.length_cons, List.length_nil, Nat.reduceAdd, Nat.reduceSub, Array.replicate_succ, Array.replicate_zero, List.push_toArray, List.append_toArray, List.nil_append, List.cons_append]
  have HMM := Lib.hid hm
  have HL := Lib.hid hl
  have HR := Lib.hid hR
  have HO := Lib.hid ho
  clear hm hl hR ho
  gi_wp2
  gi_loopw [10] (fun i wr => ∃ r : Nat, r ≤ m ∧ i = .int .i64 (r : Int) ∧ J (liveR (ss.take r)) wr ∧ KpS gs W wr)
    (fun i _ => m - (RowKit.intOf i).toNat)
  case atStart => exact ⟨0, Nat.zero_le _, rfl, by rw [List.take_zero]; exact hJ0, rfl⟩
  case round =>
    obtain ⟨r, hr, rfl, hJs, hnx⟩ := hrel
    by_cases hlt0 : r < m
    · have hlt : (r : Int) < (m : Int) := by omega
      have hr0 : (0 : Int) ≤ (r : Int) := by omega
      obtain ⟨f, hf⟩ : ∃ f, ss[r]? = some f := ⟨_, List.getElem?_eq_getElem (by rw [HL.out]; exact hlt0)⟩
      have HF := Lib.hid hf
      have HS := Lib.hid (slot_of HO.out hnx hf)
      obtain ⟨C1, hC1⟩ : ∃ C, (fwL f).toArray = C := ⟨_, rfl⟩
      have HC1 := Lib.hid hC1
      have HLT := Lib.hid hlt0
      have HNX := Lib.hid hnx
      have HJS := Lib.hid hJs
      have hr9 : r < 9223372036854775807 := by have := HMM.out; omega
      clear hf hnx hC1 hJs hr hlt0
      gi_upto_region 2 with fail
      refine wpIn_of_list (r := none) (by kernel_rfl) ?_
      go_wp2_with (first
        | ((with_reducible show wpList _ _ _ (⟨some 13, _, _, _, _, _⟩ :: _) _ _); refine wpList_loadFw (op := ⟨some 13, _, _, _, _, _⟩) _ rfl (by rfl) gs (r * 41) (by rfl) f HS.out C1 HC1.out ?_)
        | ((with_reducible show wpList _ _ _ (⟨none, .store _ _ _, _, _, _, _⟩ :: _) _ _); refine wpList_storeNewL rfl _ _ _ rfl (by rfl) (fwL f) C1 HC1.out (by rfl) (by rw [fwL_len]; rfl) (sizeFwL f) (fwL_one f) ?_; intro w2 hb2 hbel2 _; have HB2 := Lib.hid hb2; have HBEL2 := Lib.hid hbel2; clear hb2 hbel2))
      dsimp only [Only]
      obtain ⟨D, hD⟩ : ∃ D, wr.heap.size = D := ⟨_, rfl⟩
      rw [hD] at HB2 ⊢
      clear hD
      have q0 : w2.cell? ⟨D, 38, none⟩ = some (.int .i64 f.st) := Blk_10.cell HB2.out (fw_st f)
      have HKR : Hid (KpS gs wr w2) := Lib.hid (HBEL2.out.block gs (by
        have h1 := HO.out.ltS gs rfl
        have h2 : W.heap[gs]? = wr.heap[gs]? := HNX.out.symm
        rw [Array.getElem?_eq_getElem h1] at h2
        exact (Array.getElem?_eq_some_iff.1 h2.symm).1))
      have HJ2 : Hid (J (liveR (ss.take r)) w2) := Lib.hid (hJ _ _ _ none HJS.out ⟨HBEL2.out.os, HBEL2.out.tape, HBEL2.out.output, HBEL2.out.size, fun k hk _ => HBEL2.out.block k hk⟩ (fun r e => by cases e))
      by_cases hz : f.st = 0
      · have hzb : (f.st != 0) = false := by simp [hz]
        have hzb2 : (f.st == 0) = true := by simp [hz]
        have hnr : rightF f = false := Bool.eq_false_iff.2 (fun e => right_st e hz)
        have HNR := Lib.hid (liveR_no HF.out hnr)
        clear hnr
        gi_wp2
        refine ⟨fun _ h => (by cases h), ?_⟩
        gi_wp2
        go_roundw
        case rel => exact ⟨r + 1, HLT.out, by go_num, by rw [HNR.out]; exact HJ2.out, KpS.trans HNX.out HKR.out⟩
        case measure =>
          have := HLT.out
          simp [RowKit.intOf]
          omega
      · have hzb : (f.st != 0) = true := by simp [hz]
        have hzb2 : (f.st == 0) = false := beq_eq_false_iff_ne.2 hz
        have hrt : rightF f = true := HR.out f (List.mem_of_getElem? HF.out) hz
        have HNR := Lib.hid (liveR_yes HF.out hrt)
        obtain ⟨fn, tmps, assign, body, hy, hR⟩ := hY _ ⟨f, hrt⟩ w2 HJ2.out (Nat.lt_of_le_of_lt (liveR_le ss r) HLT.out)
        have HRY : Hid (RoundIn Fence.wide (n - 1) Try.prog l fn tmps assign body w2 fun e W' => ∃ b : Bool, e = .returned (.bool b) ∧ YGR gs J Jx (liveR (ss.take (r + 1))) w2 b W') := Lib.hid (RoundIn.mono hR (fun e W' h => by
          rw [HNR.out]
          rcases h with ⟨h1, h2, h3⟩ | ⟨h1, h2⟩
          · exact ⟨true, h1, .inl ⟨rfl, h2, h3⟩⟩
          · exact ⟨false, h1, .inr ⟨rfl, h2⟩⟩))
        have hfc : fwC f = .agg C1 := by unfold fwC; rw [HC1.out]
        dsimp only [encR] at hy
        rw [hfc] at hy
        clear hR hz hfc
        gi_wp2_with ((with_reducible show wpListIn _ _ _ _ _ (⟨some 19, _, _, _, _, _⟩ :: _) _ _); refine wpListIn_loadFw (op := ⟨some 19, _, _, _, _, _⟩) _ rfl (by rfl) D 0 (by rfl) f (Blk_10.range HB2.out) C1 HC1.out ?_)
        refine ⟨fun hd => (by cases hd), RoundIn.mono HRY.out ?_⟩
        rintro e W3 ⟨b, rfl, hb⟩
        cases b with
        | true =>
          rcases hb with ⟨_, hJ3, hk3⟩ | ⟨h, _⟩
          · gi_wp2
            go_roundw
            case rel => exact ⟨r + 1, HLT.out, by go_num, hJ3, KpS.trans HNX.out (KpS.trans HKR.out hk3)⟩
            case measure =>
              have := HLT.out
              simp [RowKit.intOf]
              omega
          · cases h
        | false =>
          rcases hb with ⟨h, _⟩ | ⟨_, hJx3⟩
          · cases h
          · gi_wp2
            refine bodyPost_ret (results_none rfl _ _ _) rfl ?_
            exact ⟨⟨_, rfl⟩, .inr ⟨_, ⟨r + 1, HLT.out, rfl⟩, hJx3⟩⟩
    · obtain rfl : r = m := by omega
      have h1 : ¬ (r : Int) < (r : Int) := by omega
      rw [List.take_of_length_le (by rw [HL.out]; exact Nat.le_refl _)] at hJs
      clear hlt0 hr
      gi_wp2
      go_end0
      exact ⟨⟨_, rfl⟩, .inl hJs⟩
theorem flows_stops (n : Nat) (Bt g gs m : Nat) (ss : List Fw) (hm : m ≤ 100000) (hR : SlotsR ss) (hl : ss.length = m) (w : World) (h1 : Bt < w.heap.size) (h2 : g < w.heap.size)
    (hBt : w.cell? ⟨Bt, 0, none⟩ = some (.pointer (some ⟨g, 0, none⟩))) (hg : w.cell? ⟨g, 18, none⟩ = some (.slice (some ⟨gs, 0, none⟩) m m)) (ho : OwnG eF w 0 (slV gs m) ss) :
    SeqStopsK Fence.wide n Try.prog 58 #[.pointer (some ⟨Bt, 0, none⟩)] encR (KpS gs) (fun ys => ys = liveR ss)
      (fun pre => ∃ k, k ≤ m ∧ pre = liveR (ss.take k)) m w := fun l J Jx W hW hJ _ hY h00 =>
  flows1_in n l Bt g gs m ss hm hR hl J Jx _ hJ hY W ((hW.cell (p := ⟨Bt, 0, none⟩) h1).trans hBt) ((hW.cell (p := ⟨g, 18, none⟩) h2).trans hg) (ho.below hW) h00
/-- The oldest of those that came. -/
def minR (pre : List RF) : Fw := pre.foldl (fun a x => if a.st = 0 then x.1 else if olderF x.1 a = true then x.1 else a) fw0
theorem minR_snoc (pre : List RF) (x : RF) : minR (pre ++ [x]) = (if (minR pre).st = 0 then x.1 else if olderF x.1 (minR pre) = true then x.1 else minR pre) := by
  unfold minR
  rw [List.foldl_append]
  rfl
theorem minR_right (pre : List RF) : (minR pre).st ≠ 0 → rightF (minR pre) = true := by
  have h : ∀ (l : List RF) (a : Fw), (a.st ≠ 0 → rightF a = true) → ((l.foldl (fun a x => if a.st = 0 then x.1 else if olderF x.1 a = true then x.1 else a) a).st ≠ 0 → rightF (l.foldl (fun a x => if a.st = 0 then x.1 else if olderF x.1 a = true then x.1 else a) a) = true) := by
    intro l
    induction l with
    | nil => exact fun a h => h
    | cons x l ih =>
      intro a ha
      rw [List.foldl_cons]
      refine ih _ ?_
      split
      · exact fun _ => x.2
      · split
        · exact fun _ => x.2
        · exact ha
  exact h pre fw0 (fun e => absurd rfl e)
/-- The oldest's loop: what its own cells hold. -/
structure OldI (w : World) (B : Nat) (pre : List RF) (W : World) : Prop where
  first : Blk W 28 (B + 1) (fwL (minR pre))
  res : Blk W 28 B (fwL fw0)
  bel : Below B w W
theorem oldI_own (w : World) (B C : Nat) (hB : B ≤ w.heap.size) (hC : B ≤ C) : OwnFrom C (OldI w B) := by
  intro pre W W' row h hg hr
  exact ⟨blk_turn h.first hg (fun r e => (hr r e).2), blk_turn h.res hg (fun r e => (hr r e).2), below_turn h.bel hB hC hg (fun r e => (hr r e).1)⟩

theorem zerF : #[Value.bool false, .int .u8 0, .int .u8 0, .int .u8 0, .int .u8 0, .int .u8 0, .int .u8 0, .int .u8 0, .int .u8 0, .int .u8 0, .int .u8 0, .int .u8 0, .int .u8 0, .int .u8 0, .int .u8 0, .int .u8 0, .int .u8 0, .bool false, .int .u8 0, .int .u8 0, .int .u8 0, .int .u8 0, .int .u8 0, .int .u8 0, .int .u8 0, .int .u8 0, .int .u8 0, .int .u8 0, .int .u8 0, .int .u8 0, .int .u8 0, .int .u8 0, .int .u8 0, .int .u8 0, .int .i64 0, .int .i64 0, .int .i64 0, .string ⟨#[]⟩, .int .i64 0, .int .i64 0, .int .i64 0] = (fwL fw0).toArray := rfl
theorem keeps_bel {A B : World} (C : Nat) (h : Below A.heap.size A B) : KeepsFrom C A B := keeps_below C h
theorem wpList_storeBAL {w : World} {ops : Array Oper} {rest : List Oper} {op : Oper} {a : Act} {Q : Exit → Act → World → Prop} (hgd : op.guard = none) (T : TypeId) (x y : Operand) (ho : op.op = .store T x y)
    (g : Nat) (hx : a.eval x = .pointer (some ⟨g, 0, none⟩)) (cs : List Value) (C : Array Value) (hC : cs.toArray = C) (hy : a.eval y = .agg C) (old : List Value) (hb : Blk w T g old) (hl : old.length = cs.length)
    (hi : (Try.prog.info? T).map (·.size) = some cs.length) (h1 : ∀ v ∈ cs, v.oneCell' = true)
    (h : ∀ w', Blk w' T g cs → w.grownBy w' (some g) → wpList Try.prog ops Q rest (a.put op.dst undef) w') : wpList Try.prog ops Q (op :: rest) a w := by
  subst hC
  exact wpList_storeBA hgd T x y ho g hx cs hy old hb hl hi h1 h
theorem blk_own {β : Type} (C : Nat) (T : TypeId) (g : Nat) (cs : List Value) : OwnFrom C (fun (_ : β) W => Blk W T g cs) := fun _ _ _ _ h hg hr => blk_turn h hg (fun r e => (hr r e).2)
set_option maxHeartbeats 16000000 in
theorem poldest_any {g gs room m cnt : Nat} {key : List UInt8} {ss : List Fw} (w : World) (hT : TabR w g gs key room m cnt ss) (hm : m ≤ 100000) (hR : SlotsR ss) :
    Calls Try.prog 40 #[.pointer (some ⟨g, 0, none⟩)] w fun e w' => e = .returned (fwC (minR (liveR ss))) ∧ Below w.heap.size w w' := by
  obtain ⟨B, hB⟩ : ∃ B, w.heap.size = B := ⟨_, rfl⟩
  have HB := Lib.hid hB
  have HT := Lib.hid hT
  have HMM := Lib.hid hm
  have HR := Lib.hid hR
  have hgB : g < B := by rw [← hB]; exact hT.ltg
  have hsB : gs < B := by rw [← hB]; exact hT.lts
  have HGB := Lib.hid hgB
  have HSB := Lib.hid hsB
  have HZC : Hid ((fwL fw0).toArray = (eF.zero.cells)) := Lib.hid rfl
  clear hT hm hR hgB hsB
  have f1 : Fence.wide.fn 44 := trivial
  refine (callsIn_wide (n := 6)).1 ?_
  refine callsIn_of_wp_marks Try.func40 rfl trivial ?_ rfl
  simp only [Try.ntmps40, List.size_toArray, List.length_cons, List.length_nil, Nat.reduceAdd, Nat.reduceSub, Array.replicate_succ, Array.replicate_zero, List.push_toArray, List.append_toArray, List.nil_append, List.cons_append]
  gi_upto_region 1 with fail
  rw [zerF]
  obtain ⟨Z, hZ⟩ : ∃ Z, (fwL fw0).toArray = Z := ⟨_, rfl⟩
  have HZ := Lib.hid hZ
  have HBZ : Hid (Try.prog.built 28 [] = some Z) := Lib.hid (by rw [← hZ]; kernel_rfl)
  obtain ⟨Y, hY⟩ : ∃ Y, w.alloc (.cells Z 28) = Y := ⟨_, rfl⟩
  have HYB := Lib.hid (show Blk Y 28 B (fwL fw0) by rw [← hY, ← hZ, ← hB]; exact Blk_10.new w _ _)
  have HYZ := Lib.hid (show Y.heap.size = B + 1 by rw [← hY, World.size_alloc, hB])
  have HBY := Lib.hid (show Below B w Y by rw [← hY, ← hB]; exact (Below.refl _ w).alloc (Nat.le_refl _) _)
  rw [hZ, hY]
  clear hZ hY hB
  refine wpIn_of_list (r := none) (by kernel_rfl) ?_
  go_wp2_with (first
    | ((with_reducible show wpList _ _ _ (⟨some 5, _, _, _, _, _⟩ :: _) _ _); refine wpList_buildw (op := ⟨some 5, _, _, _, _, _⟩) 28 #[] rfl (by rfl) [] (by simp) Z HBZ.out ?_)
    | ((with_reducible show wpList _ _ _ (⟨none, .store _ _ _, _, _, _, _⟩ :: _) _ _); refine wpList_storeNewL rfl _ _ _ rfl (by rfl) (fwL fw0) Z HZ.out (by rfl) (by rw [fwL_len]; rfl) (sizeFwL fw0) (fwL_one fw0) ?_; intro w2 hb2 hbel2 hsz2; rw [HYZ.out] at hb2 hsz2; have HB2 := Lib.hid hb2; have HBEL2 := Lib.hid hbel2; have HSZ2 := Lib.hid hsz2; clear hb2 hbel2 hsz2))
  dsimp only [Only]
  rw [HYZ.out]
  gi_wp2_with (gi_at_call 44; refine (callsIn_wide.2 (pflows_any g w2)).mono ?_; rintro e W3 ⟨rfl, hW3⟩; have HW3 := Lib.hid hW3; clear hW3)
  rw [HSZ2.out]
  obtain ⟨D, hD⟩ : ∃ D, B + 1 + 1 = D := ⟨_, rfl⟩
  rw [hD]
  have HD := Lib.hid hD
  have HD1 := Lib.hid (show W3.heap.size = D + 1 by rw [HW3.out, World.size_alloc, HSZ2.out, hD])
  have HD2 := Lib.hid (show W3.cell? ⟨D, 0, none⟩ = some (.pointer (some ⟨g, 0, none⟩)) by
    have := Blk_10.new w2 30 [.pointer (some ⟨g, 0, none⟩)]
    rw [HSZ2.out, hD] at this
    rw [HW3.out]
    exact Blk_10.cell this rfl)
  have HB3 : Hid (Below B w W3) := Lib.hid (by
    rw [HW3.out]
    exact (HBY.out.trans (HBEL2.out.mono (by rw [HYZ.out]; omega))).alloc (by rw [HSZ2.out]; omega) _)
  have HI0 : Hid (OldI w B [] W3) := Lib.hid (by
    refine ⟨?_, ?_, HB3.out⟩
    · rw [HW3.out]
      exact Blk_10.alloc HB2.out _
    · rw [HW3.out]
      exact Blk_10.alloc (Blk_10.below HYB.out (Blk_10.lt HYB.out) HBEL2.out) _)
  have HTW : Hid (TabR W3 g gs key room m cnt ss) := Lib.hid (HT.out.below (by rw [HB.out]; exact HB3.out))
  clear hD
  refine wpIn_rangeFunc_ownH rfl (by omega) (gf := 58) (lb := #[.pointer (some ⟨D, 0, none⟩)]) rfl trivial (enters_of Try.func58 (by kernel_rfl) rfl)
    (flows_stops _ D g gs m ss HMM.out HR.out HT.out.len W3 (by rw [HD1.out]; omega) HTW.out.ltg HD2.out HTW.out.cSl HTW.out.own) (fun h k => KpS.trans h k) (kpS_b HTW.out.lts) (Below.refl _ _) (fun _ => rfl)
    (OldI w B)
    (fun _ _ _ => False)
    (oldI_own w B _ (by rw [HB.out]; exact Nat.le_refl _) (by rw [HD1.out, ← HD.out]; omega))
    (fun _ _ _ _ _ hs _ _ => hs)
    HI0.out
    (fun (x : RF) (a' : Act) W => ∃ Bx, B + 1 < Bx ∧ Blk W 28 Bx (fwL x.1) ∧ a' = { tmps := #[.pointer (some ⟨g, 0, none⟩), undef, .pointer (some ⟨B, 0, none⟩), .pointer (some ⟨B + 1, 0, none⟩), .pointer (some ⟨Bx, 0, none⟩), .agg Z, .pointer (some ⟨g, 0, none⟩), .func (.func 58) #[] #[.pointer (some ⟨D, 0, none⟩)], fwC x.1, undef, undef, undef, undef, undef, undef, undef, undef, undef, undef], defers := [] })
    (fun x a' _ W W' row h hg hr => by
      obtain ⟨Bx, h1, h2, h3⟩ := h
      exact ⟨Bx, h1, blk_turn h2 hg (fun r e => (hr r e).2), h3⟩)
    ?assign ?body ?done ?stop
  case assign =>
    intro l pre x W K hi hK
    obtain ⟨C, hC⟩ : ∃ C, (fwL x.1).toArray = C := ⟨_, rfl⟩
    have HC := Lib.hid hC
    have hfc : fwC x.1 = .agg C := by unfold fwC; rw [hC]
    have HFC := Lib.hid hfc
    dsimp only [encR]
    rw [hfc]
    clear hC hfc
    refine wpIn_of_list (r := some l) (by kernel_rfl) ?_
    go_wp2_with ((with_reducible show wpList _ _ _ (⟨none, .store _ _ _, _, _, _, _⟩ :: _) _ _); refine wpList_storeNewL rfl _ _ _ rfl (by rfl) (fwL x.1) C HC.out (by rfl) (by rw [fwL_len]; rfl) (sizeFwL x.1) (fwL_one x.1) ?_; intro w2 hb2 hbel2 hsz2; have HB2 := Lib.hid hb2; have HBEL2 := Lib.hid hbel2; clear hb2 hbel2 hsz2)
    dsimp only [Only]
    have hsz : gs < W.heap.size := Nat.lt_of_lt_of_le HSB.out (by have := hi.bel.size; rw [HB.out] at this; exact this)
    have hBW : B + 1 < W.heap.size := Blk_10.lt hi.first
    exact hK _ _ (keeps_below _ HBEL2.out) (HBEL2.out.block gs hsz) ⟨Blk_10.below hi.first (Blk_10.lt hi.first) HBEL2.out, Blk_10.below hi.res (Blk_10.lt hi.res) HBEL2.out, hi.bel.trans (HBEL2.out.mono (by omega))⟩
      ⟨W.heap.size, hBW, HB2.out, (by rw [HFC.out])⟩
  case body =>
    rintro l pre x a' W hl ⟨rr, hr⟩ hI ⟨Bx, hBx, bX, rfl⟩ hlt
    have HI := Lib.hid hI
    have HX := Lib.hid bX
    have HBX := Lib.hid hBx
    have q0 : W.cell? ⟨B + 1, 38, none⟩ = some (.int .i64 (minR pre).st) := Blk_10.cell hI.first (fw_st _)
    have HSN := Lib.hid (minR_snoc pre x)
    have HMR := Lib.hid (minR_right pre)
    obtain ⟨A, hA⟩ : ∃ A, minR pre = A := ⟨_, rfl⟩
    rw [hA] at q0
    rw [hA] at HSN HMR
    have HA := Lib.hid hA
    have HFI : Hid (Blk W 28 (B + 1) (fwL A)) := Lib.hid (by rw [← hA]; exact hI.first)
    obtain ⟨C, hC⟩ : ∃ C, (fwL x.1).toArray = C := ⟨_, rfl⟩
    obtain ⟨CA, hCA⟩ : ∃ C, (fwL A).toArray = C := ⟨_, rfl⟩
    have HC := Lib.hid hC
    have HCA := Lib.hid hCA
    have hfc : fwC x.1 = .agg C := by unfold fwC; rw [hC]
    have hfa : fwC A = .agg CA := by unfold fwC; rw [hCA]
    have HFC := Lib.hid hfc
    have HFA := Lib.hid hfa
    have hgsW : gs < W.heap.size := Nat.lt_of_lt_of_le HSB.out (by have := hI.bel.size; rw [HB.out] at this; exact this)
    have HGW := Lib.hid hgsW
    rw [hfc]
    clear hA hC hCA hfc hfa hI bX hlt hr hBx hl hgsW
    by_cases hz : A.st = 0
    · have hzb : (A.st == 0) = true := by simp [hz]
      have hsn : minR (pre ++ [x]) = x.1 := by rw [HSN.out, if_pos hz]
      have HSN2 := Lib.hid hsn
      clear hz hsn
      gi_upto_region 4 with fail
      refine wpIn_of_list (r := some l) (by kernel_rfl) ?_
      go_wp2_with fail
      dsimp only [Only]
      have HXR : Hid (W.rangeAt Bx 0 (fwL x.1)) := Lib.hid (Blk_10.range (Blk_10.below HX.out (Blk_10.lt HX.out) (Below.refl W.heap.size W)))
      have HFB : Hid (Blk W 28 (B + 1) (fwL A)) := Lib.hid (Blk_10.below HFI.out (Blk_10.lt HFI.out) (Below.refl W.heap.size W))
      gi_upto_region 5 with fail
      refine wpIn_of_list (r := some l) (by kernel_rfl) ?_
      go_wp2_with (first
        | ((with_reducible show wpList _ _ _ (⟨some 17, _, _, _, _, _⟩ :: _) _ _); refine wpList_loadFw (op := ⟨some 17, _, _, _, _, _⟩) _ rfl (by rfl) Bx 0 (by rfl) x.1 HXR.out C HC.out ?_)
        | ((with_reducible show wpList _ _ _ (⟨none, .store _ _ _, _, _, _, _⟩ :: _) _ _); refine wpList_storeBAL rfl _ _ _ rfl (B + 1) (by rfl) (fwL x.1) C HC.out (by rfl) (fwL A) HFB.out (by rw [fwL_len, fwL_len]) (sizeFwL x.1) (fwL_one x.1) ?_; intro w6 hb6 hg6; have HB6 := Lib.hid hb6; have HG6 := Lib.hid hg6; clear hb6 hg6))
      dsimp only [Only]
      gi_wp2
      refine ⟨(keeps_below _ (Below.refl W.heap.size W)).trans (KeepsFrom.of_grownBy HG6.out (fun j e => by cases e; rw [HD1.out, ← HD.out]; omega)), ?_, ?_, ?_, ?_⟩
      · exact (HG6.out.block gs (Nat.lt_of_lt_of_le HGW.out (Below.size (Below.refl W.heap.size W))) (fun e => by have := HSB.out; cases e; omega)).trans (Below.block (Below.refl W.heap.size W) gs HGW.out)
      · rw [HSN2.out]
        exact HB6.out
      · exact Blk.gb (Blk_10.below HI.out.res (Blk_10.lt HI.out.res) (Below.refl W.heap.size W)) HG6.out (fun e => by cases e)
      · exact (HI.out.bel.trans ((show Below W.heap.size W W from (Below.refl W.heap.size W)).mono (Nat.le_of_lt (Blk_10.lt HI.out.res)))).grown HG6.out (Nat.le_trans (Nat.le_of_lt (Blk_10.lt HI.out.res)) (Below.size (Below.refl W.heap.size W))) (fun k e => by cases e; omega)
    · have hzb : (A.st == 0) = false := beq_eq_false_iff_ne.2 hz
      have hol := fun W => polder_any x.2 (HMR.out hz) W
      rw [HFC.out, HFA.out] at hol
      obtain ⟨b, hb⟩ : ∃ b, olderF x.1 A = b := ⟨_, rfl⟩
      rw [hb] at hol
      have hsn : minR (pre ++ [x]) = if b = true then x.1 else A := by rw [HSN.out, if_neg hz, hb]
      have HSN3 := Lib.hid hsn
      have HOL := Lib.hid hol
      have HXR : Hid (W.rangeAt Bx 0 (fwL x.1)) := Lib.hid (Blk_10.range HX.out)
      have HAR : Hid (W.rangeAt (B + 1) 0 (fwL A)) := Lib.hid (Blk_10.range HFI.out)
      clear hz hsn hb hol
      gi_upto_region 4 with fail
      refine wpIn_of_list (r := some l) (by kernel_rfl) ?_
      go_wp2_with (first
        | ((with_reducible show wpList _ _ _ (⟨some 13, _, _, _, _, _⟩ :: _) _ _); refine wpList_loadFw (op := ⟨some 13, _, _, _, _, _⟩) _ rfl (by rfl) Bx 0 (by rfl) x.1 HXR.out C HC.out ?_)
        | ((with_reducible show wpList _ _ _ (⟨some 14, _, _, _, _, _⟩ :: _) _ _); refine wpList_loadFw (op := ⟨some 14, _, _, _, _, _⟩) _ rfl (by rfl) (B + 1) 0 (by rfl) A HAR.out CA HCA.out ?_)
        | ((with_reducible refine (HOL.out W).mono ?_); rintro e w5 ⟨rfl, hb5⟩; have HB5 := Lib.hid hb5; clear hb5))
      dsimp only [Only]
      clear HXR q0
      cases b with
      | false =>
        have HSN2 : Hid (minR (pre ++ [x]) = A) := Lib.hid (by rw [HSN3.out]; exact if_neg Bool.false_ne_true)
        gi_wp2
        refine ⟨keeps_below _ HB5.out, HB5.out.block gs HGW.out, ?_, Blk_10.below HI.out.res (Blk_10.lt HI.out.res) HB5.out, HI.out.bel.trans (HB5.out.mono (Nat.le_of_lt (Blk_10.lt HI.out.res)))⟩
        rw [HSN2.out]
        exact Blk_10.below HFI.out (Blk_10.lt HFI.out) HB5.out
      | true =>
        have HSN2 : Hid (minR (pre ++ [x]) = x.1) := Lib.hid (by rw [HSN3.out]; exact if_pos rfl)
        have HXR : Hid (w5.rangeAt Bx 0 (fwL x.1)) := Lib.hid (Blk_10.range (Blk_10.below HX.out (Blk_10.lt HX.out) HB5.out))
        have HFB : Hid (Blk w5 28 (B + 1) (fwL A)) := Lib.hid (Blk_10.below HFI.out (Blk_10.lt HFI.out) HB5.out)
        gi_upto_region 5 with fail
        refine wpIn_of_list (r := some l) (by kernel_rfl) ?_
        go_wp2_with (first
          | ((with_reducible show wpList _ _ _ (⟨some 17, _, _, _, _, _⟩ :: _) _ _); refine wpList_loadFw (op := ⟨some 17, _, _, _, _, _⟩) _ rfl (by rfl) Bx 0 (by rfl) x.1 HXR.out C HC.out ?_)
          | ((with_reducible show wpList _ _ _ (⟨none, .store _ _ _, _, _, _, _⟩ :: _) _ _); refine wpList_storeBAL rfl _ _ _ rfl (B + 1) (by rfl) (fwL x.1) C HC.out (by rfl) (fwL A) HFB.out (by rw [fwL_len, fwL_len]) (sizeFwL x.1) (fwL_one x.1) ?_; intro w6 hb6 hg6; have HB6 := Lib.hid hb6; have HG6 := Lib.hid hg6; clear hb6 hg6))
        dsimp only [Only]
        gi_wp2
        refine ⟨(keeps_below _ HB5.out).trans (KeepsFrom.of_grownBy HG6.out (fun j e => by cases e; rw [HD1.out, ← HD.out]; omega)), ?_, ?_, ?_, ?_⟩
        · exact (HG6.out.block gs (Nat.lt_of_lt_of_le HGW.out (Below.size HB5.out)) (fun e => by have := HSB.out; cases e; omega)).trans (Below.block HB5.out gs HGW.out)
        · rw [HSN2.out]
          exact HB6.out
        · exact Blk.gb (Blk_10.below HI.out.res (Blk_10.lt HI.out.res) HB5.out) HG6.out (fun e => by cases e)
        · exact (HI.out.bel.trans ((show Below W.heap.size W w5 from HB5.out).mono (Nat.le_of_lt (Blk_10.lt HI.out.res)))).grown HG6.out (Nat.le_trans (Nat.le_of_lt (Blk_10.lt HI.out.res)) (Below.size HB5.out)) (fun k e => by cases e; omega)
  case stop =>
    rintro Q c pre W _ _ h _
    exact h.elim
  case done =>
    rintro Q ys W hQ rfl hI hK
    obtain ⟨A, hA⟩ : ∃ A, minR (liveR ss) = A := ⟨_, rfl⟩
    have HA := Lib.hid hA
    obtain ⟨CA, hCA⟩ : ∃ C, (fwL A).toArray = C := ⟨_, rfl⟩
    have HCA := Lib.hid hCA
    have HFI : Hid (Blk W 28 (B + 1) (fwL A)) := Lib.hid (by rw [← hA]; exact hI.first)
    have HAR : Hid (W.rangeAt (B + 1) 0 (fwL A)) := Lib.hid (Blk_10.range HFI.out)
    have HRS := Lib.hid hI.res
    have HBW := Lib.hid hI.bel
    have HK := Lib.hid hK
    have HQB : Hid (B < Q) := Lib.hid (by have := HD1.out; have := HD.out; omega)
    have HQW := Lib.hid (show w.heap.size ≤ Q by rw [HB.out]; exact Nat.le_of_lt HQB.out)
    clear hA hCA hI hK hQ
    gi_upto_region 6 with fail
    refine wpIn_of_list (r := none) (by kernel_rfl) ?_
    go_wp2_with (first
      | ((with_reducible show wpList _ _ _ (⟨some 18, _, _, _, _, _⟩ :: _) _ _); refine wpList_loadFw (op := ⟨some 18, _, _, _, _, _⟩) _ rfl (by rfl) (B + 1) 0 (by rfl) A HAR.out CA HCA.out ?_)
      | ((with_reducible show wpList _ _ _ (⟨none, .store _ _ _, _, _, _, _⟩ :: _) _ _); refine wpList_storeBAL rfl _ _ _ rfl B (by rfl) (fwL A) CA HCA.out (by rfl) (fwL fw0) HRS.out (by rw [fwL_len, fwL_len]) (sizeFwL A) (fwL_one A) ?_; intro w6 hb6 hg6; have HB6 := Lib.hid hb6; have HG6 := Lib.hid hg6; clear hb6 hg6))
    dsimp only [Only]
    have HK6 : Hid (w6.heap[Q]? = some (.deferred (some []))) := Lib.hid ((HG6.out.block Q (Array.getElem?_eq_some_iff.1 HK.out).1 (fun e => by have := HQB.out; cases e; omega)).trans HK.out)
    have HBX : Hid (Below B w w6) := Lib.hid (HBW.out.grown HG6.out (Nat.le_trans (by rw [HB.out]; exact Nat.le_refl _) HBW.out.size) (fun k e => by cases e; exact Nat.le_refl _))
    gi_wp2
    refine ⟨by simp, .inl ⟨_, _, rfl, run_takeDeferred HK6.out, ?_⟩⟩
    refine ⟨_, results_fw rfl _ _ B rfl A (Blk.gb HB6.out (grownBy_putObj' w6 Q _) (fun e => by have := HQB.out; cases e; omega)), (by rw [HA.out]), ?_⟩
    rw [HB.out]
    exact HBX.out.trans (belowK_b (w := w) (by rw [HB.out]; exact Nat.le_refl _) w6 Q _ _ HQW.out HK6.out rfl rfl)
end Go.Proofs.Ytfbiinipiklkaaa
