/-
  The program: slices.SortFunc over flows, by order.
  The program: slices.AppendSeq, Collect and SortedFunc over flows; List.
  The program: Sweep.
  The contracts of flow, as the laws ask for them.
-/
import Derived.Test.YtfbiinipiklkaaaFLP12
import Derived.Test.YtfbiinipiklkaaaFLShelf
import Derived.Test.YtfbiinipiklkaaaSlSort
import Derived.Test.YtfbiinipiklkaaaMono
import Derived.Shelf.SlSortCmp.NoneTotal
import Derived.Test.YtfbiinipiklkaaaBld1
import Derived.Test.YtfbiinipiklkaaaZStP
namespace Go.Proofs.Ytfbiinipiklkaaa
set_option maxRecDepth 100000
open Go.RowKit Go.Shelf Go.Lib

/-- What lets memory be made and numbers be drawn, and no more. -/
theorem grow_of {W w' : World} (h : Below W.heap.size W w') (hd : W.drawn ≤ w'.drawn) : ∃ q os', w' = Go.Sort.grow (W.drewN q) os' := by
  refine ⟨w'.drawn - W.drawn, w'.heap.extract W.heap.size w'.heap.size, ?_⟩
  have h1 := h.os
  have h2 := h.tape
  have h3 := h.output
  have h4 := h.size
  have h5 := h.block
  have hh : w'.heap = W.heap ++ w'.heap.extract W.heap.size w'.heap.size := by
    apply Array.ext_getElem?
    intro i
    by_cases hi : i < W.heap.size
    · rw [h5 i hi, Array.getElem?_append_left hi]
    · rw [Array.getElem?_append_right (by omega), Array.getElem?_extract]
      by_cases hw : i < w'.heap.size
      · rw [if_pos (by omega)]
        congr 1
        omega
      · rw [if_neg (by omega), Array.getElem?_eq_none (by omega)]
  obtain ⟨hp, tp, dr, os, out⟩ := w'
  dsimp only at h1 h2 h3 hd
  subst h1 h2 h3
  unfold Go.Sort.grow World.drewN
  dsimp only at hh ⊢
  rw [← hh, show W.drawn + (dr - W.drawn) = dr by omega]
def eR : Enc RF where
  S := 42
  T := 28
  k := 41
  bytes := 104
  zero := fwC fw0
  f := fun x => fwL x.1
  len := fun x => fwL_len x.1
  one := fun x => fwL_one x.1
  und := Try.underlying42
  info := eF.info
  pos := by decide
  zlen := rfl
  small := by decide
theorem cells_eR : ∀ l : List RF, eR.cells l = eF.cells (l.map (·.1))
  | [] => rfl
  | x :: l => by
    have ih := cells_eR l
    show eR.f x ++ eR.cells l = eF.f x.1 ++ eF.cells (l.map (·.1))
    rw [ih]
    rfl
theorem own_eR {w : World} {base : Nat} {v : Value} {l : List RF} : OwnG eR w base v l ↔ OwnG eF w base v (l.map (·.1)) := by
  unfold OwnG
  rw [cells_eR, List.length_map]
  exact Iff.rfl
theorem rf_all : ∀ {l : List Fw}, (∀ x, x ∈ l → rightF x = true) → ∃ r : List RF, r.map (·.1) = l
  | [], _ => ⟨[], rfl⟩
  | x :: l, h => by
    obtain ⟨r, hr⟩ := rf_all (l := l) (fun y hy => h y (List.mem_cons_of_mem _ hy))
    exact ⟨⟨x, h x List.mem_cons_self⟩ :: r, by rw [List.map_cons, hr]⟩
instance : Inhabited RF := ⟨⟨{ fw0 with nm := [97], st := 1 }, by kernel_rfl⟩⟩
def cmpR (a b : RF) : Int := ordF a.1 b.1
theorem lt_cmpR (a b : RF) : Go.Proofs.ltOf cmpR a b = olderF a.1 b.1 := ord_less a.1 b.1
theorem swoR : Go.Sort.SWO (Go.Proofs.ltOf cmpR) where
  irrefl x := by rw [lt_cmpR]; exact older_irr _
  trans x y z h1 h2 := by
    rw [lt_cmpR] at *
    exact older_trans h1 h2
  ntrans x y z h1 h2 := by
    rw [lt_cmpR] at *
    apply Bool.eq_false_iff.2
    intro h3
    by_cases hk : x.1.k = y.1.k
    · by_cases hn : x.1.no = y.1.no
      · have : olderF x.1 z.1 = olderF y.1 z.1 := by unfold olderF; rw [hk, hn]
        rw [← this, h3] at h2
        cases h2
      · have h4 : olderF y.1 x.1 = true := by
          unfold olderF at h1 ⊢
          rw [if_neg hn] at h1
          rw [if_neg (fun e => hn e.symm)]
          have := of_decide_eq_false h1
          exact decide_eq_true (by omega)
        have h5 := older_trans h4 h3
        rw [h2] at h5
        cases h5
    · have h5 := older_trans (older_other x.2 y.2 hk h1) h3
      rw [h2] at h5
      cases h5
theorem cmpR_lays (blk off size : Nat) (w : World) : CmpLays Try.prog 37 #[] eR.f 41 cmpR blk off size w := fun m os dk _ x y => by
  refine ((porder_any x.2 y.2 _).drawn (fun e w' h => ⟨_, h.1⟩)).mono ?_
  rintro e w' ⟨⟨rfl, hb⟩, hd⟩
  exact ⟨rfl, grow_of hb hd⟩
/-- What comes out of a sort: as the table has them. -/
theorem sorted_eq {d : Array RF} {xs : List RF} {l : List Fw} (hs : Go.Sort.SortedIn (Go.Proofs.ltOf cmpR) 0 d.size d) (hp : d.toList.Perm xs) (hx : (xs.map (·.1)).Perm l) (hl : l.Pairwise fun a b => olderF a b = true) (ha : l.Pairwise fun a b => a.k ≠ b.k) : d.toList.map (·.1) = l := by
  have hperm : (d.toList.map (·.1)).Perm l := (hp.map _).trans hx
  refine sort_eq ?_ hl hperm
  have hk : (d.toList.map (·.1)).Pairwise fun a b => a.k ≠ b.k := (hperm.pairwise_iff (fun h e => h e.symm)).2 ha
  rw [List.pairwise_iff_getElem] at hk ⊢
  intro i j hi hj hij
  have h2 := hk i j hi hj hij
  have hi' : i < d.size := by simpa using hi
  have hj' : j < d.size := by simpa using hj
  have h1 := hs i j (Nat.zero_le _) hij hj'
  rw [lt_cmpR, getElem!_pos d i hi', getElem!_pos d j hj'] at h1
  simp only [List.getElem_map, Array.getElem_toList] at h2 ⊢
  exact older_other (d[j]).2 (d[i]).2 (fun e => h2 e.symm) h1
theorem permR_of {xs : List RF} {d : Array RF} (h : Go.Sort.PermIn 0 xs.toArray.size xs.toArray d) : d.toList.Perm xs ∧ d.size = xs.length := by
  obtain ⟨h1, _, h3⟩ := h
  have h1 : d.size = xs.length := h1
  refine ⟨?_, h1⟩
  rw [show xs.toArray.size = d.size from h1.symm] at h3
  rw [Array.extract_size] at h3
  have e : xs.toArray.extract 0 d.size = xs.toArray := by
    rw [show d.size = xs.toArray.size from h1, Array.extract_size]
  rw [e] at h3
  exact h3
theorem psortF_any {w : World} {base : Nat} {v : Value} {xs l : List Fw} (hn : xs.length ≤ 100000) (h : OwnG eF w base v xs) (hr : ∀ x, x ∈ xs → rightF x = true) (hx : xs.Perm l) (hl : l.Pairwise fun a b => olderF a b = true) (ha : l.Pairwise fun a b => a.k ≠ b.k) :
    Calls Try.prog 46 #[v, .func (.func 37) #[] #[]] w fun e W' => e = .returned (.tuple #[]) ∧ OwnG eF W' base v l ∧ w.grownBy W' v.ownBlock := by
  obtain ⟨rs, rfl⟩ := rf_all hr
  have h' := own_eR.2 h
  rcases h.2 with ⟨rfl, h0⟩ | ⟨g, cap, cur, rfl, hbg, hg, hnc, hcm, hcs, ht⟩
  · have h1 : rs.map (·.1) = [] := List.eq_nil_of_length_eq_zero h0
    rw [h1] at hx h
    have h2 := hx.nil_eq
    subst h2
    refine (AnyF.slices_SortFunc_none sortFw none 0 (.func (.func 37) #[] #[]) w).mono ?_
    rintro e w' ⟨he, rfl⟩
    exact ⟨he, h, ⟨rfl, rfl, rfl, Nat.le_refl _, fun _ _ _ => rfl⟩⟩
  · clear hbg hg hnc hcm hcs ht
    have eg : ∀ args w, (callFunc 37 args).run Try.prog w = .ok (.enter 37 args) w := enters_of Try.func37 (by kernel_rfl) rfl
    rw [List.length_map] at h' hn
    have hcon := AnyQ.slices_SortFunc sortFw 41 Try.isAgg28 Try.sizeOf28 eR.f (fun x => eR.len x) eR.one cmpR swoR 37 #[] g 0 cap rs.toArray w eg (cmpR_lays g 0 _ w) h'.holds (h'.ltS g rfl) (by show rs.length < _; omega)
    rw [List.length_map]
    refine hcon.mono ?_
    rintro e W' ⟨he, d', m, os, hp, hs, rfl⟩
    obtain ⟨h1, h2⟩ := permR_of hp
    have h3 := h'.sorted eR d' h2 m os
    have h4 := sorted_eq (by rw [h2]; exact hs) h1 hx hl ha
    refine ⟨he, ?_, h3.2⟩
    have h5 := own_eR.1 h3.1
    rw [h4] at h5
    exact h5
end Go.Proofs.Ytfbiinipiklkaaa
namespace Go.Proofs.Ytfbiinipiklkaaa
set_option maxRecDepth 100000
open Go.RowKit Go.Shelf Go.Lib

attribute [local go_sem] Oper.semAt_some

section
variable {α : Type} {E : Enc α} {w w' : World} {base : Nat} {v : Value} {xs : List α}
theorem own_block (h : OwnG E w base v xs) {b : Nat} (hb : v.ownBlock = some b) : ∃ o : Obj, w.heap[b]? = some o ∧ o.isCells = true := by
  rcases h.2 with ⟨rfl, _⟩ | ⟨g, cap, cur, rfl, _, hg, _⟩
  · cases hb
  · cases hb
    exact ⟨_, hg, rfl⟩
theorem own_turn (h : OwnG E w base v xs) {row : Option Nat} (hg : w.grownBy w' row) (hr : ∀ r, row = some r → ∃ o : Obj, w.heap[r]? = some o ∧ o.isCells = false) : OwnG E w' base v xs :=
  h.keeps fun b hb => hg.block b (h.ltS b hb) (fun e => by
    obtain ⟨o, h1, h2⟩ := hr b e.symm
    obtain ⟨o', h3, h4⟩ := own_block h hb
    rw [h1] at h3
    cases h3
    rw [h2] at h4
    cases h4)
theorem own_one (h : OwnG E w base v xs) : v.oneCell' = true ∧ v.cells = #[v] := by
  rcases h.2 with ⟨rfl, _⟩ | ⟨g, cap, cur, rfl, _, _, _⟩ <;> exact ⟨rfl, rfl⟩
theorem own_keepsO (h : OwnG E w base v xs) (hg : w.grownBy w' v.ownBlock) : KeepsOthers w w' := KeepsOthers.of_grownBy hg (fun j o hj ho => by
  obtain ⟨o', h3, h4⟩ := own_block h hj
  rw [ho] at h3
  cases h3
  exact h4)
end
/-- A slice of one's own, in a box, to which flows are appended. -/
structure AppI (w : World) (n0 B : Nat) (sel : List RF → List Fw) (pre : List RF) (W : World) : Prop where
  box : ∃ v, Blk W 42 B [v] ∧ OwnG eF W (B + 1) v (sel pre)
  bel : Below n0 w W
theorem appI_own (w : World) {n0 B C : Nat} (sel : List RF → List Fw) (h0 : n0 ≤ w.heap.size) (hC : n0 ≤ C) : OwnFrom C (AppI w n0 B sel) := by
  rintro pre W W' row ⟨⟨v, h1, h2⟩, h3⟩ hg hr
  exact ⟨⟨v, blk_turn h1 hg (fun r e => (hr r e).2), own_turn h2 hg (fun r e => (hr r e).2)⟩, below_turn h3 h0 hC hg (fun r e => (hr r e).1)⟩

set_option maxHeartbeats 16000000 in
theorem pappF_any {g gs room m cnt D : Nat} {key : List UInt8} {ss : List Fw} (w : World) (hT : TabR w g gs key room m cnt ss) (hm : m ≤ 100000) (hR : SlotsR ss) (hD : Blk w 30 D [.pointer (some ⟨g, 0, none⟩)]) :
    Calls Try.prog 81 #[.slice none 0 0, .func (.func 58) #[] #[.pointer (some ⟨D, 0, none⟩)]] w fun e w' => ∃ v, e = .returned v ∧ OwnG eF w' w.heap.size v ((liveR ss).map (·.1)) ∧ Below w.heap.size w w' := by
  obtain ⟨B, hB⟩ : ∃ B, w.heap.size = B := ⟨_, rfl⟩
  obtain ⟨Y, hY⟩ : ∃ Y, w.alloc (.cells #[.slice none 0 0] 42) = Y := ⟨_, rfl⟩
  have hYz : Y.heap.size = B + 1 := by rw [← hY, World.size_alloc, hB]
  have y0 : Blk Y 42 B [.slice none 0 0] := by rw [← hY, ← hB]; exact Blk_10.new w _ _
  have hbel : Below B w Y := by rw [← hY, ← hB]; exact (Below.refl _ w).alloc (Nat.le_refl _) _
  have hbel' : Below w.heap.size w Y := by rw [hB]; exact hbel
  have HTY := Lib.hid (hT.below hbel')
  have HDY := Lib.hid (show Blk Y 30 D _ from Blk_10.below hD (Blk_10.lt hD) hbel')
  have HDL := Lib.hid (show D < B by rw [← hB]; exact Blk_10.lt hD)
  have HSL := Lib.hid (show gs < B by rw [← hB]; exact hT.lts)
  have HI0 : Hid (AppI w B B (fun pre => pre.map (·.1)) [] Y) := Lib.hid ⟨⟨_, y0, OwnG.nil_ eF Y _⟩, hbel⟩
  have HB := Lib.hid hB
  have HY := Lib.hid hY
  have HYZ := Lib.hid hYz
  have HMM := Lib.hid hm
  have HR := Lib.hid hR
  clear hY hYz y0 hbel hbel' hT hD hm hR
  rw [hB]
  clear hB
  refine (callsIn_wide (n := 6)).1 ?_
  refine callsIn_of_wp_marks Try.func81 rfl trivial ?_ rfl
  simp only [Try.ntmps81, List.size_toArray, List.length_cons, List.length_nil, Nat.reduceAdd, Nat.reduceSub, Array.replicate_succ, Array.replicate_zero, List.push_toArray, List.append_toArray, List.nil_append, List.cons_append]
  gi_upto_region 1 with fail
  rw [HY.out, HB.out]
  gi_wp2
  refine wpIn_rangeFunc_ownH rfl (by omega) (gf := 58) (lb := #[.pointer (some ⟨D, 0, none⟩)]) rfl trivial (enters_of Try.func58 (by kernel_rfl) rfl)
    (flows_stops _ D g gs m ss HMM.out HR.out HTY.out.len Y (Blk_10.lt HDY.out) HTY.out.ltg (Blk_10.cell HDY.out rfl) HTY.out.cSl HTY.out.own) (fun h k => KpS.trans h k) (kpS_b HTY.out.lts) (Below.refl _ _) (fun _ => rfl)
    (AppI w B B (fun pre => pre.map (·.1)))
    (fun _ _ _ => False)
    (appI_own w _ (by rw [HB.out]; exact Nat.le_refl _) (by rw [HYZ.out]; omega))
    (fun _ _ _ _ _ hs _ _ => hs)
    HI0.out
    (fun (x : RF) (a' : Act) W => ∃ Bx, B < Bx ∧ Blk W 28 Bx (fwL x.1) ∧ a' = { tmps := #[.slice none 0 0, .func (.func 58) #[] #[.pointer (some ⟨D, 0, none⟩)], .pointer (some ⟨B, 0, none⟩), undef, .slice none 0 0, .pointer (some ⟨Bx, 0, none⟩), .func (.func 58) #[] #[.pointer (some ⟨D, 0, none⟩)], fwC x.1, undef, undef, undef, undef, undef], defers := [] })
    (fun x a' _ W W' row h hg hr => by
      obtain ⟨Bx, h1, h2, h3⟩ := h
      exact ⟨Bx, h1, blk_turn h2 hg (fun r e => (hr r e).2), h3⟩)
    ?assign ?body ?done ?stop
  case assign =>
    intro l pre x W K hi hK
    obtain ⟨C, hC⟩ : ∃ C, (fwL x.1).toArray = C := ⟨_, rfl⟩
    have HC := Lib.hid hC
    have hfc : fwC x.1 = .agg C := by unfold fwC; rw [hC]
    have HFC := Lib.hid hfc
    dsimp only [encR]
    rw [hfc]
    clear hC hfc
    refine wpIn_of_list (r := some l) (by kernel_rfl) ?_
    go_wp2_with ((with_reducible show wpList _ _ _ (⟨none, .store _ _ _, _, _, _, _⟩ :: _) _ _); refine wpList_storeNewL rfl _ _ _ rfl (by rfl) (fwL x.1) C HC.out (by rfl) (by rw [fwL_len]; rfl) (sizeFwL x.1) (fwL_one x.1) ?_; intro w2 hb2 hbel2 hsz2; have HB2 := Lib.hid hb2; have HBEL2 := Lib.hid hbel2; clear hb2 hbel2 hsz2)
    dsimp only [Only]
    have hsz : B ≤ W.heap.size := by have := hi.bel.size; rw [HB.out] at this; exact this
    obtain ⟨⟨v, hv, hown⟩, hbel⟩ := hi
    have hBW := Blk_10.lt hv
    exact hK _ _ (keeps_below _ HBEL2.out) (HBEL2.out.block gs (by have := HSL.out; omega)) ⟨⟨v, Blk_10.below hv (Blk_10.lt hv) HBEL2.out, hown.below HBEL2.out⟩, hbel.trans (HBEL2.out.mono hsz)⟩
      ⟨W.heap.size, hBW, HB2.out, (by rw [HFC.out])⟩
  case body =>
    rintro l pre x a' W hl ⟨rr, hr⟩ ⟨⟨v, hv, hown⟩, hbel⟩ ⟨Bx, hBx, bX, rfl⟩ hlt
    have HV := Lib.hid hv
    have HO := Lib.hid hown
    have HBE := Lib.hid hbel
    have HX := Lib.hid bX
    have HLT := Lib.hid hlt
    have q0 : W.cell? ⟨B, 0, none⟩ = some v := Blk_10.cell hv rfl
    obtain ⟨C, hC⟩ : ∃ C, (fwL x.1).toArray = C := ⟨_, rfl⟩
    have hfc : fwC x.1 = .agg C := by unfold fwC; rw [hC]
    have HC := Lib.hid hC
    have HLN : Hid ((pre.map (·.1)).length + 1 ≤ 100000000) := Lib.hid (by rw [List.length_map]; have := HMM.out; omega)
    rw [hfc]
    clear hv hown hbel bX hC hfc hlt hr hl
    gi_upto_region 3 with fail
    refine wpIn_of_list (r := some l) (by kernel_rfl) ?_
    go_wp2_with (first
      | ((with_reducible show wpList _ _ _ (⟨some 9, _, _, _, _, _⟩ :: _) _ _); refine wpList_loadFw (op := ⟨some 9, _, _, _, _, _⟩) _ rfl (by rfl) Bx 0 (by rfl) x.1 (Blk_10.range HX.out) C HC.out ?_)
      | ((with_reducible show wpList _ _ _ (⟨some 10, _, _, _, _, _⟩ :: _) _ _); refine wpList_build1 (o := ⟨some 10, _, _, _, _, _⟩) eF (by decide) x.1 rfl 9 rfl C HC.out (by rfl) ?_)
      | (at_builtin; refine wpList_appendG eF rfl _ _ rfl (B + 1) v _ (by rfl) (HO.out.alloc _) (W.heap.size + 1) (some ⟨W.heap.size, 0, none⟩) 1 1 [x.1] (by rfl) (RdG.laid eF W [x.1] 1 rfl C (by rw [← HC.out]; simp [Enc.cells, eF])) HLN.out (by rw [World.size_alloc]; have := Blk_10.lt HV.out; omega) ?_; intro v5 w5 ho5 hg5 hb5; have HO5 := Lib.hid ho5; have HG5 := Lib.hid hg5; have HVB := Lib.hid (show Blk w5 42 B [v] from Blk.gb (Blk_10.alloc HV.out _) hg5 (fun e => by have := HO.out.lt B e; omega)); clear ho5 hg5 hb5)
      | ((with_reducible show wpList _ _ _ (⟨none, .store _ _ _, _, _, _, _⟩ :: _) _ _); refine wpList_storeB1 rfl _ _ _ rfl B 0 (by rfl) v5 (by rfl) 42 [v] HVB.out (by simp) (by kernel_rfl) (own_one HO5.out).1 (own_one HO5.out).2 ?_; intro w6 hb6 hg6; have HB6 := Lib.hid hb6; have HG6 := Lib.hid hg6; clear hb6 hg6))
    dsimp only [Only]
    have hsz : B < W.heap.size := Blk_10.lt HV.out
    have ha : Below W.heap.size W (W.alloc (.cells C 28)) := (Below.refl _ W).alloc (Nat.le_refl _) _
    have hs5 : W.heap.size + 1 ≤ w5.heap.size := by have := HG5.out.size; rw [World.size_alloc] at this; exact this
    gi_wp2
    refine ⟨((keeps_below _ ha).trans ((own_keepsO (HO.out.alloc _) HG5.out).from _)).trans (KeepsFrom.of_grownBy HG6.out (fun j e => by cases e; rw [HYZ.out]; omega)), ?_, ⟨⟨v5, HB6.out, ?_⟩, ?_⟩⟩
    · have hgs := HSL.out
      exact (HG6.out.block gs (by omega) (fun e => by cases e; omega)).trans ((HG5.out.block gs (by rw [World.size_alloc]; omega) (fun e => by have := HO.out.lt gs e.symm; omega)).trans (ha.block gs (by omega)))
    · rw [List.map_append]
      exact HO5.out.keeps fun b hb => HG6.out.block b (HO5.out.ltS b hb) (fun e => by have := HO5.out.lt b hb; cases e; omega)
    · exact ((HBE.out.trans (ha.mono (by omega))).grown HG5.out (by rw [World.size_alloc]; omega) (fun k e => by have := HO.out.lt k e; omega)).grown HG6.out (by omega) (fun k e => by cases e; exact Nat.le_refl _)
  case stop =>
    rintro Q c pre W _ _ h _
    exact h.elim
  case done =>
    rintro Q ys W hQ rfl ⟨⟨v, hv, hown⟩, hbel⟩ hK
    have q0 : W.cell? ⟨B, 0, none⟩ = some v := Blk_10.cell hv rfl
    gi_wp2
    refine ⟨by simp, .inl ⟨_, _, rfl, run_takeDeferred hK, ?_⟩⟩
    refine ⟨_, results_tmp rfl _ _ _, v, rfl, ?_, ?_⟩
    · exact own_turn (hown.base_le (by omega)) (grownBy_putObj' W Q _) (fun r e => by cases e; exact ⟨_, hK, rfl⟩)
    · exact hbel.trans (belowK_b (w := w) (by rw [HB.out]; exact Nat.le_refl _) W Q _ _ (by rw [HB.out]; rw [HYZ.out] at hQ; omega) hK rfl rfl)

theorem pcollectF_any {g gs room m cnt D : Nat} {key : List UInt8} {ss : List Fw} (w : World) (hT : TabR w g gs key room m cnt ss) (hm : m ≤ 100000) (hR : SlotsR ss) (hD : Blk w 30 D [.pointer (some ⟨g, 0, none⟩)]) :
    Calls Try.prog 64 #[.func (.func 58) #[] #[.pointer (some ⟨D, 0, none⟩)]] w fun e w' => ∃ v, e = .returned v ∧ OwnG eF w' w.heap.size v ((liveR ss).map (·.1)) ∧ Below w.heap.size w w' := by
  have H := Lib.hid (pappF_any w hT hm hR hD)
  clear hT hm hR hD
  go_enter Try.func64, Try.ntmps64
  go_wp2_with ((with_reducible refine H.out.mono ?_); rintro e w1 ⟨v, rfl, hown, hb1⟩)
  go_ret
  exact ⟨_, rfl, hown, hb1⟩
theorem psortedF_any {g gs room m cnt D : Nat} {key : List UInt8} {ss l : List Fw} (w : World) (hT : TabR w g gs key room m cnt ss) (hm : m ≤ 100000) (hH : RepH key m ss l) (hr : RightT room l) (hl : l.length ≤ 100000) (hD : Blk w 30 D [.pointer (some ⟨g, 0, none⟩)]) :
    Calls Try.prog 48 #[.func (.func 58) #[] #[.pointer (some ⟨D, 0, none⟩)], .func (.func 37) #[] #[]] w fun e w' => ∃ v, e = .returned v ∧ OwnG eF w' w.heap.size v l ∧ Below w.heap.size w w' := by
  have HC := Lib.hid (pcollectF_any w hT hm hH.right hD)
  have hv := hH.vals
  have HS : Hid (∀ v W, OwnG eF W w.heap.size v ((liveR ss).map (·.1)) → Calls Try.prog 46 #[v, .func (.func 37) #[] #[]] W fun e W' => e = .returned (.tuple #[]) ∧ OwnG eF W' w.heap.size v l ∧ W.grownBy W' v.ownBlock) := Lib.hid (fun v W h => psortF_any (by rw [hv.length_eq]; exact hl) h (fun x hx => hr.right x (hv.mem_iff.1 hx)) hv hr.sort hr.apart)
  clear hT hm hH hr hl hD hv
  go_enter Try.func48, Try.ntmps48
  go_wp2_with (first
    | ((with_reducible refine HC.out.mono ?_); rintro e w1 ⟨v, rfl, hown, hb1⟩; have HO := Lib.hid hown; have HB1 := Lib.hid hb1; clear hown hb1)
    | ((with_reducible refine (HS.out v _ HO.out).mono ?_); rintro e w2 ⟨rfl, ho2, hg2⟩; have HO2 := Lib.hid ho2; have HG2 := Lib.hid hg2; clear ho2 hg2))
  go_ret
  exact ⟨_, rfl, HO2.out, HB1.out.grown HG2.out HB1.out.size (fun k e => HO.out.lt k e)⟩
theorem plist_any {w : World} {fp : Nat → Prop} {v : Value} {r : Nat} {l : List Fw} (h : RepT w fp v r l) (hr : RightT r l) (h2 : r ≤ 4096) :
    Calls Try.prog 28 #[v] w fun e w' => ∃ s, e = .returned s ∧ OwnG eF w' w.heap.size s l ∧ Left RepT w fp v r l w' fp ∧ ∀ b, s.ownBlock = some b → ¬ fp b := by
  have HREP := Lib.hid h
  obtain ⟨g, gs, key, ss, rfl, rfl, hT, hH⟩ := h
  obtain ⟨m, hm⟩ : ∃ m, 2 * r = m := ⟨_, rfl⟩
  rw [hm] at hT hH
  have hll : l.length ≤ 100000 := by have := hr.fits; omega
  have HFL := Lib.hid (pflows_any g w)
  have HB : Hid (Below w.heap.size w (w.alloc (.cells #[.pointer (some ⟨g, 0, none⟩)] 30))) := Lib.hid ((Below.refl _ w).alloc (Nat.le_refl _) _)
  have HS := Lib.hid (psortedF_any (w.alloc (.cells #[.pointer (some ⟨g, 0, none⟩)] 30)) (hT.below HB.out) (by omega) hH hr hll (Blk_10.new w _ _))
  obtain ⟨Y, hY⟩ : ∃ Y, w.alloc (.cells #[.pointer (some ⟨g, 0, none⟩)] 30) = Y := ⟨_, rfl⟩
  rw [hY] at HS HFL HB
  have HYZ := Lib.hid (show w.heap.size ≤ Y.heap.size from HB.out.size)
  clear hY hT hH hr h2 hll hm
  go_enter Try.func28, Try.ntmps28
  go_wp2_with (first
    | ((with_reducible refine HFL.out.mono ?_); rintro e w1 ⟨rfl, rfl⟩)
    | ((with_reducible refine HS.out.mono ?_); rintro e w2 ⟨s, rfl, ho, hb⟩; have HO := Lib.hid ho; have HB2 := Lib.hid hb; clear ho hb))
  go_ret
  have hbx : Below w.heap.size w w2 := HB.out.trans (HB2.out.mono HYZ.out)
  refine ⟨_, rfl, HO.out.base_le HYZ.out, ⟨rep_keep HREP.out (fun k hk => hbx.block k (rep_lt HREP.out k hk)), Keep.of_below hbx, fun _ h => .inl h⟩, fun b hb hk => ?_⟩
  have h1 := HO.out.lt b hb
  have h2 := rep_lt HREP.out b hk
  have := HYZ.out
  omega
end Go.Proofs.Ytfbiinipiklkaaa
namespace Go.Proofs.Ytfbiinipiklkaaa
set_option maxRecDepth 100000
open Go.RowKit Go.Shelf Go.Lib

attribute [local go_sem] Oper.semAt_some

/-- Out of a list all of these keys. -/
def dropL (l xs : List Fw) : List Fw := xs.foldl (fun m x => outK m x.k) l
theorem dropL_snoc (l xs : List Fw) (x : Fw) : dropL l (xs ++ [x]) = outK (dropL l xs) x.k := by
  unfold dropL
  rw [List.foldl_append]
  rfl
theorem dropL_right {room : Nat} : ∀ (xs : List Fw) {l : List Fw}, RightT room l → RightT room (dropL l xs)
  | [], _, h => h
  | x :: xs, _, h => dropL_right xs (outK_right h x.k)
theorem dropL_eq : ∀ (xs l : List Fw), dropL l xs = l.filter fun x => xs.all fun y => !tuQ x.k y.k
  | [], l => (List.filter_eq_self.2 (fun _ _ => rfl)).symm
  | y :: xs, l => by
    show dropL (outK l y.k) xs = _
    rw [dropL_eq xs]
    unfold outK
    rw [List.filter_filter]
    apply List.filter_congr
    intro x _
    rw [List.all_cons, Bool.and_comm]
theorem dropL_all {l xs : List Fw} {q : Fw → Bool} (ha : l.Pairwise fun a b => a.k ≠ b.k) (hp : xs.Perm (l.filter q)) : dropL l xs = l.filter fun x => !q x := by
  rw [dropL_eq]
  apply List.filter_congr
  intro x hx
  rw [Bool.eq_iff_iff, List.all_eq_true]
  constructor
  · intro h
    cases hq : q x with
    | false => rfl
    | true =>
      have := h x (hp.mem_iff.2 (List.mem_filter.2 ⟨hx, hq⟩))
      rw [tuQ_eq.2 rfl] at this
      cases this
  · intro h y hy
    obtain ⟨hy1, hy2⟩ := List.mem_filter.1 (hp.mem_iff.1 hy)
    rw [tuQ_ne (fun e => ?_)]
    · rfl
    · have e1 := hasK_of ha hx
      have e2 := hasK_of ha hy1
      rw [e, e2] at e1
      cases e1
      rw [hy2] at h
      cases h
/-- What Sweep's cells hold, as flows come. -/
structure SwI (w : World) (B : Nat) (now : Int) (idle : List Int) (q : Fw → Bool) (pre : List RF) (W : World) : Prop where
  nw : Blk W 3 B [.int .i64 now]
  id : Blk W 45 (B + 1) (zL idle)
  app : AppI w B (B + 2) (fun pre => (pre.map (·.1)).filter q) pre W
theorem swI_own (w : World) {B C : Nat} (now : Int) (idle : List Int) (q : Fw → Bool) (h0 : B ≤ w.heap.size) (hC : B ≤ C) : OwnFrom C (SwI w B now idle q) := by
  rintro pre W W' row ⟨h1, h2, h3⟩ hg hr
  exact ⟨blk_turn h1 hg (fun r e => (hr r e).2), blk_turn h2 hg (fun r e => (hr r e).2), appI_own w _ h0 hC _ _ _ row h3 hg hr⟩
theorem wpList_loadZ6 {w : World} {ops : Array Oper} {rest : List Oper} {op : Oper} {a : Act} {Q : Exit → Act → World → Prop} (x : Operand) (ho : op.op = .load 45 x) (hw : Region.wanted op (yielded ops a.tmps) = true)
    (g o : Nat) (hx : a.eval x = .pointer (some ⟨g, o, none⟩)) (l : List Int) (h6 : l.length = 6) (hb : w.rangeAt g o (zL l)) (C : Array Value) (hC : (zL l).toArray = C)
    (hk : wpList Try.prog ops Q rest (a.put op.dst (.agg C)) w) : wpList Try.prog ops Q (op :: rest) a w := by
  subst hC
  exact wpList_loadM 45 x ho hw g o hx (zL l) hb _ Try.underlying45 rfl (idleSize h6) hk

set_option maxHeartbeats 32000000 in
theorem psweep_any {w : World} {fp : Nat → Prop} {v : Value} {r : Nat} {l : List Fw} (h : RepT w fp v r l) (hr : RightT r l) (h1 : 1 ≤ r) (h2 : r ≤ 4096) (now : Int) {idle : List Int} (h6 : idle.length = 6) :
    Calls Try.prog 24 #[v, .int .i64 now, zC idle] w fun e w' => ∃ s, e = .returned s ∧ OwnG eF w' w.heap.size s (l.filter (staleF now idle)) ∧ Left RepT w fp v r (l.filter fun x => !staleF now idle x) w' fp ∧ ∀ b, s.ownBlock = some b → ¬ fp b := by
  obtain ⟨g, gs, key, ss, rfl, rfl, hT, hH⟩ := h
  obtain ⟨m, hm⟩ : ∃ m, 2 * r = m := ⟨_, rfl⟩
  rw [hm] at hT hH
  obtain ⟨B, hB⟩ : ∃ B, w.heap.size = B := ⟨_, rfl⟩
  obtain ⟨LI, hLI⟩ : ∃ C, (zL idle).toArray = C := ⟨_, rfl⟩
  have e0 : zC idle = .agg LI := by unfold zC; rw [hLI]
  obtain ⟨q, hq⟩ : ∃ q, staleF now idle = q := ⟨_, rfl⟩
  have HST : Hid (∀ (x : Fw) (W : World), Calls Try.prog 45 #[.int .i64 x.st, .int .i64 x.sn, .int .i64 now, .agg LI] W fun e w' => e = .returned (.bool (q x)) ∧ Below W.heap.size W w') := Lib.hid (fun x W => by
    rw [← e0, ← hq]
    exact pstale_any x.st x.sn now idle h6 W)
  obtain ⟨Y, hY⟩ : ∃ Y, ((w.alloc (.cells #[.int .i64 now] 3)).alloc (.cells LI 45)).alloc (.cells #[.slice none 0 0] 42) = Y := ⟨_, rfl⟩
  have s1 : (w.alloc (.cells #[.int .i64 now] 3)).heap.size = B + 1 := by rw [World.size_alloc, hB]
  have s2 : ((w.alloc (.cells #[.int .i64 now] 3)).alloc (.cells LI 45)).heap.size = B + 2 := by rw [World.size_alloc, s1]
  have s3 : Y.heap.size = B + 3 := by rw [← hY, World.size_alloc, s2]
  have y0 : Blk Y 3 B [.int .i64 now] := by rw [← hY, ← hB]; exact Blk_10.alloc (Blk_10.alloc (Blk_10.new w _ _) _) _
  have y1 : Blk Y 45 (B + 1) (zL idle) := by rw [← hY, ← s1, ← hLI]; exact Blk_10.alloc (Blk_10.new _ _ _) _
  have y2 : Blk Y 42 (B + 2) [.slice none 0 0] := by rw [← hY, ← s2]; exact Blk_10.new _ _ _
  have hbel : Below B w Y := by
    rw [← hY, ← hB]
    exact (((Below.refl _ w).alloc (Nat.le_refl _) _).alloc (by rw [s1]; omega) _).alloc (by rw [s2]; omega) _
  have hbel' : Below w.heap.size w Y := by rw [hB]; exact hbel
  have HTY := Lib.hid (hT.below hbel')
  have HBY := Lib.hid hbel
  have HSL := Lib.hid (show gs < B by rw [← hB]; exact hT.lts)
  have HGL := Lib.hid (show g < B by rw [← hB]; exact hT.ltg)
  have HNF : Hid (∀ k, B ≤ k → ¬ fpT g gs k) := Lib.hid (fun k hk e => by have := HSL.out; have := HGL.out; rcases e with rfl | rfl <;> omega)
  have HIY : Hid (SwI w B now idle q [] Y) := Lib.hid ⟨y0, y1, ⟨⟨_, y2, OwnG.nil_ eF Y _⟩, hbel⟩⟩
  have HB := Lib.hid hB
  have HY := Lib.hid hY
  have HYZ := Lib.hid s3
  have HM := Lib.hid hm
  have HMM := Lib.hid (show m ≤ 100000 by omega)
  have HH := Lib.hid hH
  have HR := Lib.hid hr
  have HR1 := Lib.hid h1
  have HR2 := Lib.hid h2
  have HLI := Lib.hid hLI
  have H6 := Lib.hid h6
  have f1 : Fence.wide.fn 44 := trivial
  rw [e0, hq, hB]
  clear hY s1 s2 s3 y0 y1 y2 hbel hbel' hT hH hr h1 h2 hm hLI h6 e0 hq hB
  refine (callsIn_wide (n := 6)).1 ?_
  refine callsIn_of_wp_marks Try.func24 rfl trivial ?_ rfl
  simp only [Try.ntmps24, List.size_toArray, List.length_cons, List.length_nil, Nat.reduceAdd, Nat.reduceSub, Array.replicate_succ, Array.replicate_zero, List.push_toArray, List.append_toArray, List.nil_append, List.cons_append]
  gi_upto_region 2 with fail
  rw [HY.out]
  gi_wp2_with (gi_at_call 44; refine (callsIn_wide.2 (pflows_any g Y)).mono ?_; rintro e W3 ⟨rfl, hW3⟩; have HW3 := Lib.hid hW3; clear hW3)
  rw [HYZ.out, HB.out]
  obtain ⟨D, hD⟩ : ∃ D, B + 3 = D := ⟨_, rfl⟩
  rw [hD]
  have HD := Lib.hid hD
  have HD1 := Lib.hid (show W3.heap.size = D + 1 by rw [HW3.out, World.size_alloc, HYZ.out, hD])
  have HD2 := Lib.hid (show W3.cell? ⟨D, 0, none⟩ = some (.pointer (some ⟨g, 0, none⟩)) by
    have := Blk_10.new Y 30 [.pointer (some ⟨g, 0, none⟩)]
    rw [HYZ.out, hD] at this
    rw [HW3.out]
    exact Blk_10.cell this rfl)
  have HB3 : Hid (Below Y.heap.size Y W3) := Lib.hid (by
    rw [HW3.out]
    exact (Below.refl Y.heap.size Y).alloc (Nat.le_refl _) _)
  have HBW3 : Hid (Below B w W3) := Lib.hid (HBY.out.trans (HB3.out.mono (by rw [HYZ.out]; omega)))
  have HTW : Hid (TabR W3 g gs key r m l.length ss) := Lib.hid (HTY.out.below HB3.out)
  have HI0 : Hid (SwI w B now idle q [] W3) := Lib.hid (by
    obtain ⟨a1, a2, ⟨u, a3, a4⟩, a5⟩ := HIY.out
    exact ⟨Blk_10.below a1 (Blk_10.lt a1) HB3.out, Blk_10.below a2 (Blk_10.lt a2) HB3.out, ⟨⟨u, Blk_10.below a3 (Blk_10.lt a3) HB3.out, a4.below HB3.out⟩, HBW3.out⟩⟩)
  clear hD
  refine wpIn_rangeFunc_ownH rfl (by omega) (gf := 58) (lb := #[.pointer (some ⟨D, 0, none⟩)]) rfl trivial (enters_of Try.func58 (by kernel_rfl) rfl)
    (flows_stops _ D g gs m ss HMM.out HH.out.right HTW.out.len W3 (by rw [HD1.out]; omega) HTW.out.ltg HD2.out HTW.out.cSl HTW.out.own) (fun h k => KpS.trans h k) (kpS_b HTW.out.lts) (Below.refl _ _) (fun _ => rfl)
    (SwI w B now idle q)
    (fun _ _ _ => False)
    (swI_own w now idle q (by rw [HB.out]; exact Nat.le_refl _) (by rw [HD1.out, ← HD.out]; omega))
    (fun _ _ _ _ _ hs _ _ => hs)
    HI0.out
    (fun (x : RF) (a' : Act) W => ∃ Bx, B + 2 < Bx ∧ Blk W 28 Bx (fwL x.1) ∧ a' = { tmps := #[.pointer (some ⟨g, 0, none⟩), .int .i64 now, .agg LI, undef, .pointer (some ⟨B, 0, none⟩), .pointer (some ⟨B + 1, 0, none⟩), .slice none 0 0, .pointer (some ⟨B + 2, 0, none⟩), .pointer (some ⟨Bx, 0, none⟩), undef, undef, .pointer (some ⟨g, 0, none⟩), .func (.func 58) #[] #[.pointer (some ⟨D, 0, none⟩)], fwC x.1, undef, undef, undef, undef, undef, undef, undef, undef, undef, undef, undef, undef, undef, undef, undef, undef, undef, undef, undef, undef, undef, undef, undef, undef, undef], defers := [] })
    (fun x a' _ W W' row h hg hr => by
      obtain ⟨Bx, h1, h2, h3⟩ := h
      exact ⟨Bx, h1, blk_turn h2 hg (fun r e => (hr r e).2), h3⟩)
    ?assign ?body ?done ?stop
  case assign =>
    intro l x0 x W K hi hK
    obtain ⟨C, hC⟩ : ∃ C, (fwL x.1).toArray = C := ⟨_, rfl⟩
    have HC := Lib.hid hC
    have hfc : fwC x.1 = .agg C := by unfold fwC; rw [hC]
    have HFC := Lib.hid hfc
    dsimp only [encR]
    rw [hfc]
    clear hC hfc
    refine wpIn_of_list (r := some l) (by kernel_rfl) ?_
    go_wp2_with ((with_reducible show wpList _ _ _ (⟨none, .store _ _ _, _, _, _, _⟩ :: _) _ _); refine wpList_storeNewL rfl _ _ _ rfl (by rfl) (fwL x.1) C HC.out (by rfl) (by rw [fwL_len]; rfl) (sizeFwL x.1) (fwL_one x.1) ?_; intro w2 hb2 hbel2 hsz2; have HB2 := Lib.hid hb2; have HBEL2 := Lib.hid hbel2; clear hb2 hbel2 hsz2)
    dsimp only [Only]
    obtain ⟨a1, a2, ⟨u, a3, a4⟩, a5⟩ := hi
    have hBW := Blk_10.lt a3
    exact hK _ _ (keeps_below _ HBEL2.out) (HBEL2.out.block gs (by have := HSL.out; omega)) ⟨Blk_10.below a1 (Blk_10.lt a1) HBEL2.out, Blk_10.below a2 (Blk_10.lt a2) HBEL2.out, ⟨⟨u, Blk_10.below a3 (Blk_10.lt a3) HBEL2.out, a4.below HBEL2.out⟩, a5.trans (HBEL2.out.mono (by omega))⟩⟩
      ⟨W.heap.size, hBW, HB2.out, (by rw [HFC.out])⟩
  case body =>
    rintro lp pre x a' W hl ⟨rr, hr⟩ ⟨a1, a2, ⟨u, hv, hown⟩, hbel⟩ ⟨Bx, hBx, bX, rfl⟩ hlt
    have HA1 := Lib.hid a1
    have HA2 := Lib.hid a2
    have HV := Lib.hid hv
    have HO := Lib.hid hown
    have HBE := Lib.hid hbel
    have HX := Lib.hid bX
    have HLN : Hid (((pre.map (·.1)).filter q).length + 1 ≤ 100000000) := Lib.hid (by
      have h1 := List.length_filter_le q (pre.map (·.1))
      rw [List.length_map] at h1
      have := HMM.out
      omega)
    have q1 : W.cell? ⟨Bx, 38, none⟩ = some (.int .i64 x.1.st) := Blk_10.cell bX (fw_st _)
    have q2 : W.cell? ⟨Bx, 39, none⟩ = some (.int .i64 x.1.sn) := Blk_10.cell bX (fw_sn _)
    have q3 : W.cell? ⟨B, 0, none⟩ = some (.int .i64 now) := Blk_10.cell a1 rfl
    obtain ⟨C, hC⟩ : ∃ C, (fwL x.1).toArray = C := ⟨_, rfl⟩
    have hfc : fwC x.1 = .agg C := by unfold fwC; rw [hC]
    have HC := Lib.hid hC
    obtain ⟨b, hb⟩ : ∃ b, q x.1 = b := ⟨_, rfl⟩
    have HCS := Lib.hid (HST.out x.1 W)
    rw [hb] at HCS
    have HSE : Hid (((pre ++ [x]).map (·.1)).filter q = (pre.map (·.1)).filter q ++ cond b [x.1] []) := Lib.hid (by
      rw [List.map_append, List.filter_append, List.map_cons, List.map_nil, ← hb, List.filter_cons, List.filter_nil]
      cases q x.1 <;> rfl)
    rw [hfc]
    clear a1 a2 hv hown hbel bX hC hfc hlt hr hl hb
    obtain ⟨st, hst⟩ : ∃ s, x.1.st = s := ⟨_, rfl⟩
    obtain ⟨sn, hsn⟩ : ∃ s, x.1.sn = s := ⟨_, rfl⟩
    rw [hst] at q1 HCS
    rw [hsn] at q2 HCS
    clear hst hsn
    gi_upto_region 4 with fail
    refine wpIn_of_list (r := some lp) (by kernel_rfl) ?_
    go_wp2_with (first
      | ((with_reducible show wpList _ _ _ (⟨some 19, _, _, _, _, _⟩ :: _) _ _); refine wpList_loadZ6 (op := ⟨some 19, _, _, _, _, _⟩) _ rfl (by rfl) (B + 1) 0 (by rfl) idle H6.out (Blk_10.range HA2.out) LI HLI.out ?_)
      | ((with_reducible refine HCS.out.mono ?_); rintro e w4 ⟨rfl, hb4⟩; have HB4 := Lib.hid hb4; clear hb4))
    dsimp only [Only]
    clear q1 q2 q3
    have HA14 := Lib.hid (show Blk w4 3 B [.int .i64 now] from Blk_10.below HA1.out (Blk_10.lt HA1.out) HB4.out)
    have HA24 := Lib.hid (show Blk w4 45 (B + 1) (zL idle) from Blk_10.below HA2.out (Blk_10.lt HA2.out) HB4.out)
    have HV4 := Lib.hid (show Blk w4 42 (B + 2) [u] from Blk_10.below HV.out (Blk_10.lt HV.out) HB4.out)
    have HO4 := Lib.hid (HO.out.below HB4.out)
    have HX4 := Lib.hid (show Blk w4 28 Bx (fwL x.1) from Blk_10.below HX.out (Blk_10.lt HX.out) HB4.out)
    have HBW4 : Hid (Below B w w4) := Lib.hid (HBE.out.trans (HB4.out.mono (by have := Blk_10.lt HV.out; omega)))
    have HK4 : Hid (KpS gs W w4) := Lib.hid (HB4.out.block gs (by have := Blk_10.lt HV.out; have := HSL.out; omega))
    cases b with
    | false =>
      have HSF : Hid (((pre ++ [x]).map (·.1)).filter q = (pre.map (·.1)).filter q) := Lib.hid (HSE.out.trans (List.append_nil _))
      clear HSE
      gi_wp2
      refine ⟨keeps_below _ HB4.out, HK4.out, HA14.out, HA24.out, ⟨u, HV4.out, ?_⟩, HBW4.out⟩
      show OwnG eF w4 _ u (((pre ++ [x]).map (·.1)).filter q)
      rw [HSF.out]
      exact HO4.out
    | true =>
      have HSF : Hid (((pre ++ [x]).map (·.1)).filter q = (pre.map (·.1)).filter q ++ [x.1]) := Lib.hid HSE.out
      clear HSE
      have q0 : w4.cell? ⟨B + 2, 0, none⟩ = some u := Blk_10.cell HV4.out rfl
      gi_upto_region 5 with fail
      refine wpIn_of_list (r := some lp) (by kernel_rfl) ?_
      go_wp2_with (first
        | ((with_reducible show wpList _ _ _ (⟨some 22, _, _, _, _, _⟩ :: _) _ _); refine wpList_loadFw (op := ⟨some 22, _, _, _, _, _⟩) _ rfl (by rfl) Bx 0 (by rfl) x.1 (Blk_10.range HX4.out) C HC.out ?_)
        | ((with_reducible show wpList _ _ _ (⟨some 23, _, _, _, _, _⟩ :: _) _ _); refine wpList_build1 (o := ⟨some 23, _, _, _, _, _⟩) eF (by decide) x.1 rfl 22 rfl C HC.out (by rfl) ?_)
        | (at_builtin; refine wpList_appendG eF rfl _ _ rfl (B + 2 + 1) u _ (by rfl) (HO4.out.alloc _) (w4.heap.size + 1) (some ⟨w4.heap.size, 0, none⟩) 1 1 [x.1] (by rfl) (RdG.laid eF w4 [x.1] 1 rfl C (by rw [← HC.out]; simp [Enc.cells, eF])) HLN.out (by rw [World.size_alloc]; have := Blk_10.lt HV4.out; omega) ?_; intro v5 w5 ho5 hg5 hb5; have HO5 := Lib.hid ho5; have HG5 := Lib.hid hg5; have HVB := Lib.hid (show Blk w5 42 (B + 2) [u] from Blk.gb (Blk_10.alloc HV4.out _) hg5 (fun e => by have := HO4.out.lt (B + 2) e; omega)); clear ho5 hg5 hb5)
        | ((with_reducible show wpList _ _ _ (⟨none, .store _ _ _, _, _, _, _⟩ :: _) _ _); refine wpList_storeB1 rfl _ _ _ rfl (B + 2) 0 (by rfl) v5 (by rfl) 42 [u] HVB.out (by simp) (by kernel_rfl) (own_one HO5.out).1 (own_one HO5.out).2 ?_; intro w6 hb6 hg6; have HB6 := Lib.hid hb6; have HG6 := Lib.hid hg6; clear hb6 hg6))
      dsimp only [Only]
      have hsz : B + 2 < w4.heap.size := Blk_10.lt HV4.out
      have ha : Below w4.heap.size w4 (w4.alloc (.cells C 28)) := (Below.refl _ w4).alloc (Nat.le_refl _) _
      have hs5 : w4.heap.size + 1 ≤ w5.heap.size := by have := HG5.out.size; rw [World.size_alloc] at this; exact this
      have hst : ∀ k, k < B + 2 → w6.heap[k]? = w4.heap[k]? := fun k hk =>
        (HG6.out.block k (by omega) (fun e => by cases e; omega)).trans ((HG5.out.block k (by rw [World.size_alloc]; omega) (fun e => by have := HO4.out.lt k e.symm; omega)).trans (ha.block k (by omega)))
      gi_wp2
      refine ⟨(((keeps_below _ HB4.out).trans (keeps_below _ ha)).trans ((own_keepsO (HO4.out.alloc _) HG5.out).from _)).trans (KeepsFrom.of_grownBy HG6.out (fun j e => by cases e; rw [HD1.out, ← HD.out]; omega)), ?_, (hst B (by omega)).trans HA14.out, (hst (B + 1) (by omega)).trans HA24.out, ⟨v5, HB6.out, ?_⟩, ?_⟩
      · exact (hst gs (by have := HSL.out; omega)).trans HK4.out
      · show OwnG eF w6 _ v5 (((pre ++ [x]).map (·.1)).filter q)
        rw [HSF.out]
        exact HO5.out.keeps fun b hb => HG6.out.block b (HO5.out.ltS b hb) (fun e => by have := HO5.out.lt b hb; cases e; omega)
      · exact ((HBW4.out.trans (ha.mono (by omega))).grown HG5.out (by rw [World.size_alloc]; omega) (fun k e => by have := HO4.out.lt k e; omega)).grown HG6.out (by omega) (fun k e => by cases e; omega)
  case stop =>
    rintro Q c pre W _ _ h _
    exact h.elim
  case done =>
    rintro Q ys W hQ rfl ⟨a1, a2, ⟨u, hv, hown⟩, hbel⟩ hK
    have hvals := HH.out.vals
    obtain ⟨xs, hxs⟩ : ∃ xs, ((liveR ss).map (·.1)).filter q = xs := ⟨_, rfl⟩
    have hown : OwnG eF W (B + 2 + 1) u xs := by rw [← hxs]; exact hown
    have HP : Hid (xs.Perm (l.filter q)) := Lib.hid (by rw [← hxs]; exact hvals.filter q)
    obtain ⟨A, n, c, hlv, hn, hnc, hcm, hrd, _⟩ := hown.sl
    subst hlv
    have HO := Lib.hid hown
    have HV := Lib.hid hv
    have HBE := Lib.hid hbel
    have HK := Lib.hid hK
    have HRD := Lib.hid hrd
    have HN : Hid (n = xs.length) := Lib.hid (by first | exact hn | exact hn.symm)
    have HXL : Hid (xs.length ≤ 4096) := Lib.hid (by
      have h1 := HP.out.length_eq
      have h2 := List.length_filter_le q l
      have := HR.out.fits
      have := HR2.out
      omega)
    have HQL := Lib.hid (show B + 3 < Q by have := HD1.out; have := HD.out; omega)
    have HTD : Hid (TabR W g gs key r m l.length ss) := Lib.hid (HTW.out.keep (by
        have h1 := HBE.out.block g (by have := HGL.out; rw [HB.out] at *; omega)
        have h2 := HBW3.out.block g (by have := HGL.out; rw [HB.out] at *; omega)
        exact h1.trans h2.symm) (by
        have h1 := HBE.out.block gs (by have := HSL.out; rw [HB.out] at *; omega)
        have h2 := HBW3.out.block gs (by have := HSL.out; rw [HB.out] at *; omega)
        exact h1.trans h2.symm))
    have q0 : W.cell? ⟨B + 2, 0, none⟩ = some (.slice A n c) := Blk_10.cell hv rfl
    have HNM : Hid (n ≤ 4096) := Lib.hid (by have := HXL.out; have := HN.out; omega)
    have HRW : Hid (RepT W (fpT g gs) (.pointer (some ⟨g, 0, none⟩)) r l) := Lib.hid ⟨g, gs, key, ss, rfl, rfl, by rw [HM.out]; exact HTD.out, by rw [HM.out]; exact HH.out⟩
    clear hvals hxs hown hn hnc hcm hrd a1 a2 hv hbel hK hQ
    gi_wp2
    gi_loopw [27] (fun i wr => ∃ j : Nat, j ≤ n ∧ i = .int .i64 (j : Int) ∧ Hid (RepT wr (fpT g gs) (.pointer (some ⟨g, 0, none⟩)) r (dropL l (xs.take j))) ∧ Hid (Keep (fpT g gs) W wr))
      (fun i _ => n - (RowKit.intOf i).toNat)
    case atStart => exact ⟨0, Nat.zero_le _, rfl, Lib.hid (by rw [List.take_zero]; exact HRW.out), Lib.hid (Keep.of_below (Below.refl _ _))⟩
    case round =>
      obtain ⟨j, hj, rfl, HRP, HKW⟩ := hrel
      have HOR := Lib.hid (HO.out.keep_fp HKW.out (fun b hb => HNF.out b (by have := HO.out.lt b hb; omega)))
      by_cases hlt0 : j < n
      · have hlt : (j : Int) < (n : Int) := by omega
        have hr0 : (0 : Int) ≤ (j : Int) := by omega
        obtain ⟨x, hx⟩ : ∃ x, xs[j]? = some x := ⟨_, List.getElem?_eq_getElem (by rw [← HN.out]; exact hlt0)⟩
        obtain ⟨b, off, rfl, _⟩ := HRD.out.addr (by omega)
        have HS := Lib.hid (HOR.out.rd.range hx)
        obtain ⟨C1, hC1⟩ : ∃ C, (fwL x).toArray = C := ⟨_, rfl⟩
        have HC1 := Lib.hid hC1
        obtain ⟨TC, hTC⟩ : ∃ C, tuC x.k = C := ⟨_, rfl⟩
        have HTC := Lib.hid hTC
        have HXO := Lib.hid x.ok
        have HLT := Lib.hid hlt0
        have HTK : Hid (xs.take (j + 1) = xs.take j ++ [x]) := Lib.hid (by rw [List.take_add_one, hx]; rfl)
        have hr9 : j < 9223372036854775807 := by have := HNM.out; omega
        clear hx hC1 hTC hj hlt0 q0
        gi_upto_region 8 with fail
        refine wpIn_of_list (r := none) (by kernel_rfl) ?_
        go_wp2_with (first
          | ((with_reducible show wpList _ _ _ (⟨some 30, _, _, _, _, _⟩ :: _) _ _); refine wpList_loadFw (op := ⟨some 30, _, _, _, _, _⟩) _ rfl (by rfl) b (off + j * 41) (by rfl) x HS.out C1 HC1.out ?_)
          | ((with_reducible show wpList _ _ _ (⟨none, .store _ _ _, _, _, _, _⟩ :: _) _ _); refine wpList_storeNewL rfl _ _ _ rfl (by rfl) (fwL x) C1 HC1.out (by rfl) (by rw [fwL_len]; rfl) (sizeFwL x) (fwL_one x) ?_; intro w2 hb2 hbel2 _; have HB2 := Lib.hid hb2; have HBEL2 := Lib.hid hbel2; clear hb2 hbel2))
        dsimp only [Only]
        obtain ⟨D2, hD2⟩ : ∃ D, wr.heap.size = D := ⟨_, rfl⟩
        rw [hD2] at HB2 ⊢
        clear hD2
        have HRP2 := Lib.hid (rep_keep HRP.out (fun k hk => HBEL2.out.block k (rep_lt HRP.out k hk)))
        have HDR : Hid (Calls Try.prog 21 #[.pointer (some ⟨g, 0, none⟩), TC] w2 fun e w' => (∃ b, e = .returned (.bool b)) ∧ Left RepT w2 (fpT g gs) (.pointer (some ⟨g, 0, none⟩)) r (outK (dropL l (xs.take j)) x.k) w' (fpT g gs)) := Lib.hid (by
          have := pdrop_any HRP2.out (dropL_right _ HR.out) HR1.out HR2.out x.ok
          rw [HTC.out] at this
          exact this.mono fun e w' h => ⟨⟨_, h.1⟩, h.2⟩)
        gi_upto_region 9 with fail
        refine wpIn_of_list (r := none) (by kernel_rfl) ?_
        go_wp2_with (first
          | ((with_reducible show wpList _ _ _ (⟨some 33, _, _, _, _, _⟩ :: _) _ _); refine wpList_loadTuL (op := ⟨some 33, _, _, _, _, _⟩) _ rfl (by rfl) D2 0 (by rfl) x.k HXO.out (fw_key (Blk_10.range HB2.out)) TC HTC.out ?_)
          | ((with_reducible refine HDR.out.mono ?_); rintro e w3 ⟨⟨ub, rfl⟩, hl3⟩; have HL3 := Lib.hid hl3; clear hl3))
        dsimp only [Only]
        gi_wp2
        go_roundw
        case rel => exact ⟨j + 1, HLT.out, by go_num, Lib.hid (by rw [HTK.out, dropL_snoc]; exact HL3.out.1), Lib.hid ((HKW.out.tr (Keep.of_below HBEL2.out)).tr HL3.out.2.1)⟩
        case measure =>
          have := HLT.out
          simp [RowKit.intOf]
          omega
      · obtain rfl : j = n := by omega
        have h1 : ¬ (j : Int) < (j : Int) := by omega
        have HTA : Hid (xs.take j = xs) := Lib.hid (by rw [HN.out, List.take_length])
        have hpf := HR.out.sort.filter q
        have haf := HR.out.apart.filter q
        have HSF := Lib.hid (psortF_any (by have := HXL.out; omega) HOR.out (fun x hx => HR.out.right x (List.mem_filter.1 (HP.out.mem_iff.1 hx)).1) HP.out hpf haf)
        have HVW := Lib.hid (show Blk wr 42 (B + 2) _ from Blk.keep_fp HV.out HKW.out (HNF.out (B + 2) (by omega)))
        have q1 : wr.cell? ⟨B + 2, 0, none⟩ = some (.slice A j c) := Blk_10.cell HVW.out rfl
        have HQR : Hid (wr.heap[Q]? = some (.deferred (some []))) := Lib.hid ((HKW.out.block Q (Array.getElem?_eq_some_iff.1 HK.out).1 (HNF.out Q (by have := HQL.out; omega))).trans HK.out)
        clear hlt0 hj hpf haf q0
        gi_upto_region 11 with fail
        refine wpIn_of_list (r := none) (by kernel_rfl) ?_
        go_wp2_with ((with_reducible refine HSF.out.mono ?_); rintro e w7 ⟨rfl, ho7, hg7⟩; have HO7 := Lib.hid ho7; have HG7 := Lib.hid hg7; clear ho7 hg7)
        dsimp only [Only]
        have hnb : ∀ k, (Value.slice A j c).ownBlock = some k → B + 2 + 1 ≤ k := fun k e => HOR.out.lt k e
        have HV7 := Lib.hid (show Blk w7 42 (B + 2) _ from Blk.gb HVW.out HG7.out (fun e => by have := hnb _ e; omega))
        have q2 : w7.cell? ⟨B + 2, 0, none⟩ = some (.slice A j c) := Blk_10.cell HV7.out rfl
        have HQ7 : Hid (w7.heap[Q]? = some (.deferred (some []))) := Lib.hid ((HG7.out.block Q (Array.getElem?_eq_some_iff.1 HQR.out).1 (fun e => by
          obtain ⟨o, h3, h4⟩ := own_block HOR.out e.symm
          rw [HQR.out] at h3
          cases h3
          cases h4)).trans HQR.out)
        clear q1
        gi_wp2
        refine ⟨by simp, .inl ⟨_, _, rfl, run_takeDeferred HQ7.out, ?_⟩⟩
        have hgp := grownBy_putObj' w7 Q (.deferred none)
        have hwq : w.heap.size ≤ Q := by rw [HB.out]; have := HQL.out; omega
        refine ⟨_, results_tmp rfl _ _ _, _, rfl, ?_, ⟨?_, ?_, fun _ h => .inl h⟩, fun b hb => HNF.out b (by have := hnb b hb; omega)⟩
        · exact own_turn (HO7.out.base_le (by omega)) hgp (fun r e => by cases e; exact ⟨_, HQ7.out, rfl⟩)
        · have h8 := HRP.out
          rw [HTA.out, dropL_all HR.out.apart HP.out] at h8
          refine rep_keep h8 (fun k hk => (hgp.block k (Nat.lt_of_lt_of_le (rep_lt h8 k hk) HG7.out.size) (fun e => by cases e; exact HNF.out Q (by have := HQL.out; omega) hk)).trans (HG7.out.block k (rep_lt h8 k hk) (fun e => HNF.out k (by have := hnb k e.symm; omega) hk)))
        · have k1 : Keep (fpT g gs) w W := Keep.of_below (by rw [HB.out]; exact HBE.out)
          exact keep_turn (keep_turn (k1.tr HKW.out) (Nat.le_refl _) HG7.out (fun k e => by rw [HB.out]; have := hnb k e; omega)) (Nat.le_refl _) hgp (fun k e => by cases e; exact hwq)
end Go.Proofs.Ytfbiinipiklkaaa
namespace Go.Proofs.Ytfbiinipiklkaaa
set_option maxRecDepth 100000
open Go.RowKit Go.Lib

theorem slotF_new (n i : Nat) : slotF (List.replicate n fw0) i = none := by
  cases h : slotF (List.replicate n fw0) i with
  | none => rfl
  | some f =>
    obtain ⟨h1, h2⟩ := slotF_some.1 h
    have h3 := List.eq_of_mem_replicate (List.mem_of_getElem? h1)
    subst h3
    exact absurd rfl h2
theorem repH_new (key : List UInt8) {m : Nat} (h : 0 < m) : RepH key m (List.replicate m fw0) [] where
  live := by
    rw [List.perm_nil]
    refine List.eq_nil_iff_forall_not_mem.2 fun x hx => ?_
    obtain ⟨i, _, hi⟩ := live_mem.1 hx
    rw [slotF_new] at hi
    cases hi
  prob := fun i x _ hx => by
    rw [slotF_new] at hx
    cases hx
  right := fun f hf hz => by
    rw [List.eq_of_mem_replicate hf] at hz
    exact absurd rfl hz
  len := List.length_replicate
  pos := h
/-- The contracts of flow. -/
theorem flowC : FlowC RepT where
  lt := fun h => rep_lt h
  keep := fun h hk => rep_keep h hk
  ptr := fun ⟨g, _, _, _, hv, _⟩ => ⟨g, hv⟩
  new_ := fun key r W hk h1 h2 => (pnew_any hk h1 h2 W).mono fun e w' ⟨g, gs, he, hT, hb, hg, hgs⟩ =>
    ⟨_, fpT g gs, he, ⟨g, gs, key, _, rfl, rfl, hT, repH_new key (by omega)⟩, hb, fun k hk => by rcases hk with rfl | rfl <;> assumption⟩
  none_ := fun key n W _ _ h => pnone_any h W
  put := fun h hr h1 h2 f hf => (pput_any h hr h1 h2 (by have := hf.nm; omega)).mono fun e w' h => ⟨h.1, _, h.2⟩
  drop := fun h hr h1 h2 k hk => (pdrop_any h hr h1 h2 hk.ok).mono fun e w' h => ⟨h.1, _, h.2⟩
  get := fun h hr _ h2 k hk => (pget_any h hr h2 hk.ok).mono fun e w' h => ⟨h.1, _, h.2⟩
  sweep := fun h hr h1 h2 now idle _ h6 _ => (psweep_any h hr h1 h2 now h6).mono fun e w' ⟨s, a, b, c, d⟩ => ⟨s, _, a, b, c, d⟩
  list := fun h hr _ h2 => (plist_any h hr h2).mono fun e w' ⟨s, a, b, c, d⟩ => ⟨s, _, a, b, c, d⟩
  len := fun {W fp v r l} h _ _ _ => by
    have h0 := h
    obtain ⟨g, gs, key, ss, rfl, rfl, hT, _⟩ := h
    refine (plen_any W hT).mono fun e w' ⟨he, hw⟩ => ⟨he, fpT g gs, ?_⟩
    subst hw
    exact ⟨h0, Keep.of_below (Below.refl _ _), fun _ h => .inl h⟩
  older := fun a b W ha hb => polder_any ha hb W
  right := fun a W ha => pright_any a W (by have := ha.nm; omega)
end Go.Proofs.Ytfbiinipiklkaaa
