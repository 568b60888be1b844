/-
  The program's table in memory; New, Len, home, gap.
  The program: home, New.
  The program: from (all places of slots, from one on, round the end) as an iterator.
-/
import Derived.Test.YtfbiinipiklkaaaFLP3
import Derived.Test.YtfbiinipiklkaaaFLBld
import Derived.Test.YtfbiinipiklkaaaFLHash
import Derived.Test.YtfbiinipiklkaaaFIn
import Derived.RangeFuncNested
import Derived.RangeFuncBound
import Derived.RangeFuncCalls
import Derived.RangeFuncLeaves
import Derived.RangeFuncBox
import Derived.Maps.AppendAt
import Derived.Shelf.Abstract
import Derived.Shelf.RegionOpen
import Derived.OwnWalkIn
import Derived.TacticsInMore
import Derived.LoopNIn
import Derived.LoopIn
import Derived.Stop.RegionWithIn
namespace Go.Proofs.Ytfbiinipiklkaaa
set_option maxRecDepth 100000
open Go.RowKit Go.Lib

def slV (gs m : Nat) : Value := .slice (some ⟨gs, 0, none⟩) m m
def tbE (key : List UInt8) (room cnt : Nat) (sv : Value) : List Value := key.map v8 ++ [.int .i64 (room : Int), .int .i64 (cnt : Int), sv]
theorem tbE_len {key : List UInt8} (h : key.length = 16) (room cnt : Nat) (sv : Value) : (tbE key room cnt sv).length = 19 := by
  unfold tbE
  rw [List.length_append, List.length_map, h]
  rfl
theorem tbE_at {key : List UInt8} (h : key.length = 16) (room cnt : Nat) (sv : Value) (i : Nat) : (tbE key room cnt sv)[16 + i]? = ([.int .i64 (room : Int), .int .i64 (cnt : Int), sv] : List Value)[i]? := by
  unfold tbE
  rw [List.getElem?_append_right (by rw [List.length_map, h]; omega), List.length_map, h, Nat.add_sub_cancel_left]
/-- The table at g, its slots at gs, whatever stands in them. -/
structure TabR (w : World) (g gs : Nat) (key : List UInt8) (room m cnt : Nat) (ss : List Fw) : Prop where
  blk : Blk w 69 g (tbE key room cnt (slV gs m))
  own : OwnG eF w 0 (slV gs m) ss
  ne : g ≠ gs
  klen : key.length = 16
  len : ss.length = m
section
variable {w w' : World} {g gs room m cnt : Nat} {key : List UInt8} {ss : List Fw}
theorem TabR.ltg (h : TabR w g gs key room m cnt ss) : g < w.heap.size := Blk_10.lt h.blk
theorem TabR.lts (h : TabR w g gs key room m cnt ss) : gs < w.heap.size := h.own.ltS gs rfl
theorem TabR.keep (h : TabR w g gs key room m cnt ss) (h1 : w'.heap[g]? = w.heap[g]?) (h2 : w'.heap[gs]? = w.heap[gs]?) : TabR w' g gs key room m cnt ss :=
  ⟨h1.trans h.blk, h.own.keeps (fun b hb => by cases hb; exact h2), h.ne, h.klen, h.len⟩
theorem TabR.below (h : TabR w g gs key room m cnt ss) (hb : Below w.heap.size w w') : TabR w' g gs key room m cnt ss := h.keep (hb.block g h.ltg) (hb.block gs h.lts)
theorem TabR.drew (h : TabR w g gs key room m cnt ss) : TabR w.drew g gs key room m cnt ss := h.keep rfl rfl
theorem TabR.kRange (h : TabR w g gs key room m cnt ss) : w.rangeAt g 0 (key.map v8) := Blk_10.mid h.blk (pre := []) (post := [.int .i64 (room : Int), .int .i64 (cnt : Int), slV gs m]) rfl rfl
theorem TabR.cRoom (h : TabR w g gs key room m cnt ss) : w.cell? ⟨g, 16, none⟩ = some (.int .i64 (room : Int)) := Blk_10.cell h.blk (tbE_at h.klen room cnt _ 0)
theorem TabR.cCnt (h : TabR w g gs key room m cnt ss) : w.cell? ⟨g, 17, none⟩ = some (.int .i64 (cnt : Int)) := Blk_10.cell h.blk (tbE_at h.klen room cnt _ 1)
theorem TabR.cSl (h : TabR w g gs key room m cnt ss) : w.cell? ⟨g, 18, none⟩ = some (.slice (some ⟨gs, 0, none⟩) m m) := Blk_10.cell h.blk (tbE_at h.klen room cnt _ 2)
theorem TabR.rd (h : TabR w g gs key room m cnt ss) : RdG eF w w.heap.size (some ⟨gs, 0, none⟩) m ss := h.own.rd
theorem TabR.slot (h : TabR w g gs key room m cnt ss) {i : Nat} {f : Fw} (hi : ss[i]? = some f) : w.rangeAt gs (i * 41) (fwL f) := by
  have := h.rd.range hi
  rwa [Nat.zero_add] at this
theorem TabR.slotC (h : TabR w g gs key room m cnt ss) {i : Nat} {f : Fw} (hi : ss[i]? = some f) {j : Nat} {u : Value} (hu : (fwL f)[j]? = some u) : w.cell? ⟨gs, i * 41 + j, none⟩ = some u := by
  have := h.rd.cell hi j hu
  rwa [Nat.zero_add] at this
end
theorem plen_any {g gs room m cnt : Nat} {key : List UInt8} {ss : List Fw} (w : World) (h : TabR w g gs key room m cnt ss) : Calls Try.prog 12 #[.pointer (some ⟨g, 0, none⟩)] w fun e w' => e = .returned (.int .i64 (cnt : Int)) ∧ w = w' := by
  have q0 := h.cCnt
  clear h
  go_enter Try.func12, Try.ntmps12
  go_wp2_with fail
  go_ret
  exact ⟨rfl, rfl⟩
/-- How far it is, round the end. -/
theorem tmod_dst {m f l : Nat} (hf : f < m) (hl : l < m) : Int.tmod ((l : Int) - (f : Int) + (m : Int)) (m : Int) = ((dst m f l : Nat) : Int) := by
  rw [Int.tmod_eq_emod_of_nonneg (by omega)]
  unfold dst
  split
  · rw [show (l : Int) - (f : Int) + (m : Int) = ((l - f : Nat) : Int) + (m : Int) by omega, Int.add_emod_right, Int.emod_eq_of_lt (by omega) (by omega)]
  · rw [Int.emod_eq_of_lt (by omega) (by omega)]
    omega
set_option maxHeartbeats 4000000 in
theorem pgap_any {g gs room m cnt : Nat} {key : List UInt8} {ss : List Fw} (w : World) (h : TabR w g gs key room m cnt ss) {f l : Nat} (hf : f < m) (hl : l < m) (hm : m ≤ 100000) : Calls Try.prog 57 #[.pointer (some ⟨g, 0, none⟩), .int .i64 (f : Int), .int .i64 (l : Int)] w fun e w' => e = .returned (.int .i64 ((dst m f l : Nat) : Int)) ∧ Below w.heap.size w w' := by
  have q0 := h.cSl
  have hd := tmod_dst hf hl
  have hw1 : IntKind.i64.wrap ((l : Int) - (f : Int)) = (l : Int) - (f : Int) := by rw [IntKind.wrap_i64]; omega
  have hw2 : IntKind.i64.wrap ((l : Int) - (f : Int) + (m : Int)) = (l : Int) - (f : Int) + (m : Int) := by rw [IntKind.wrap_i64]; omega
  have hlt : dst m f l < m := dst_lt hf hl
  obtain ⟨d, hd0⟩ : ∃ d, dst m f l = d := ⟨_, rfl⟩
  rw [hd0] at hd hlt ⊢
  have hm0 : (m : Int) ≠ 0 := by omega
  have hmb : ((m : Int) == 0) = false := beq_eq_false_iff_ne.2 hm0
  have hm1 : ¬ m = 0 := by omega
  have hw3 : IntKind.i64.wrap (d : Int) = (d : Int) := by rw [IntKind.wrap_i64]; omega
  have HB := Lib.hid (Below.refl w.heap.size w)
  clear h hd0 hf hl
  go_enter Try.func57, Try.ntmps57
  go_upto_region 1 with (fail)
  go_quiet (fail)
  go_wp2_with fail
  go_ret
  exact ⟨by simp, ⟨HB.out.os, HB.out.tape, HB.out.output, HB.out.size, HB.out.block⟩⟩
end Go.Proofs.Ytfbiinipiklkaaa
namespace Go.Proofs.Ytfbiinipiklkaaa
set_option maxRecDepth 100000
open Go.RowKit Go.Lib

/-- Where the search for a key begins. -/
def homeN (key : List UInt8) (m : Nat) (k : Tu) : Nat := hashW key (tuB k) % m
theorem homeN_lt (key : List UInt8) {m : Nat} (h : 0 < m) (k : Tu) : homeN key m k < m := Nat.mod_lt _ h
theorem yields_loadKeyL {ops : Array Oper} {S : World → Prop} {op : Oper} {a : Act} (hw : Region.wanted op (yielded ops a.tmps) = true) (x : Operand) (ho : op.op = .load 22 x) (g o : Nat) (hx : a.eval x = .pointer (some ⟨g, o, none⟩)) (key : List UInt8) (hk : key.length = 16) (C : Value) (hC : keyC key = C)
    (hS : ∀ w, S w → w.rangeAt g o (key.map v8)) : YieldsIf Try.prog ops S op C a := by
  subst hC
  exact yieldsIf_load_mid hw 22 x ho g o hx (key.map v8) _ hS Try.underlying22 rfl (key_size hk)
set_option maxHeartbeats 8000000 in
theorem phome_any {g gs room m cnt : Nat} {key : List UInt8} {ss : List Fw} (w : World) (h : TabR w g gs key room m cnt ss) (h0 : 0 < m) (hm : m ≤ 100000) {k : Tu} (ho : k.Ok) (hf : k.Fit) :
    Calls Try.prog 56 #[.pointer (some ⟨g, 0, none⟩), tuC k] w fun e w' => e = .returned (.int .i64 ((homeN key m k : Nat) : Int)) ∧ Below w.heap.size w w' := by
  obtain ⟨Y, hY, hb, hbel, _⟩ := box_tu1 w k
  obtain ⟨C0, hC0⟩ : ∃ C, (tuL k).toArray = C := ⟨_, rfl⟩
  have HY := Lib.hid (show w.alloc (.cells C0 26) = Y by rw [← hC0]; exact hY)
  have HB := Lib.hid hbel
  have hte : tuC k = .agg C0 := by unfold tuC; rw [hC0]
  have HH := Lib.hid (fun W => phash_any key h.klen ho hf W)
  have hTY : TabR Y g gs key room m cnt ss := h.below hbel
  have HT : Hid (∀ W, Below Y.heap.size Y W → TabR W g gs key room m cnt ss) := Lib.hid (fun W hW => hTY.below hW)
  have HK : Hid (∀ W, Below Y.heap.size Y W → W.rangeAt w.heap.size 0 (tuL k)) := Lib.hid (fun W hW => Blk_10.range (Blk_10.below hb (Blk_10.lt hb) hW))
  have HKL := Lib.hid h.klen
  have HO := Lib.hid ho
  obtain ⟨KC, hKC⟩ : ∃ C, keyC key = C := ⟨_, rfl⟩
  obtain ⟨TC, hTC⟩ : ∃ C, tuC k = C := ⟨_, rfl⟩
  have HKC := Lib.hid hKC
  have HTC := Lib.hid hTC
  rw [hKC, hTC] at HH
  rw [hte]
  obtain ⟨r, hr⟩ : ∃ r, homeN key m k = r := ⟨_, rfl⟩
  rw [hr]
  unfold homeN at hr
  have hrl : r < m := by rw [← hr]; exact Nat.mod_lt _ h0
  generalize hashW key (tuB k) = H at HH hr
  have htm : Int.tmod (H : Int) (m : Int) = (r : Int) := by rw [Int.tmod_eq_emod_of_nonneg (by omega), ← hr]; omega
  have hm0 : (m : Int) ≠ 0 := by omega
  have hmb : ((m : Int) == 0) = false := beq_eq_false_iff_ne.2 hm0
  have hm1 : ¬ m = 0 := by omega
  have hw1 : IntKind.u64.wrap (m : Int) = (m : Int) := by rw [IntKind.wrap_u64]; omega
  have hw2 : IntKind.u64.wrap (r : Int) = (r : Int) := by rw [IntKind.wrap_u64]; omega
  have hw3 : IntKind.i64.wrap (r : Int) = (r : Int) := by rw [IntKind.wrap_i64]; omega
  clear hY hb hbel hC0 hte hTY h hKC hTC ho hf hr
  go_enter Try.func56, Try.ntmps56
  go_upto_region 1 with (fail)
  rw [HY.out]
  refine wp_region_held_drew (S := fun W => Below Y.heap.size Y W) (by kernel_rfl) ((Below.refl Y.heap.size Y).drew) (fun hHeld => ?_)
  obtain ⟨X0, hX0⟩ : ∃ X, Y.drew = X := ⟨_, rfl⟩
  rw [hX0] at hHeld ⊢
  clear hX0
  refine tk 0 5 (.pointer (some ⟨g, 0, none⟩)) rfl hHeld ?_
  simp only [Act.put, sA, sZ, sS]
  refine tk 1 6 (.pointer (some ⟨g, 0, none⟩)) rfl hHeld ?_
  simp only [Act.put, sA, sZ, sS]
  refine tk 2 7 (.pointer (some ⟨g, 0, none⟩)) rfl hHeld ?_
  simp only [Act.put, sA, sZ, sS]
  refine tkY 3 8 KC rfl (yields_loadKeyL (by rfl) _ rfl g 0 rfl key HKL.out KC HKC.out (fun W hW => (HT.out W hW).kRange)) hHeld ?_
  simp only [Act.put, sA, sZ, sS]
  refine tkY 4 9 TC rfl (yields_loadTuL (by rfl) _ rfl w.heap.size 0 rfl k HO.out TC HTC.out HK.out) hHeld ?_
  simp only [Act.put, sA, sZ, sS]
  refine tk 6 11 (.pointer (some ⟨g, 0, none⟩)) rfl hHeld ?_
  simp only [Act.put, sA, sZ, sS]
  refine tk 7 12 (.pointer (some ⟨g, 0, none⟩)) rfl hHeld ?_
  simp only [Act.put, sA, sZ, sS]
  refine tk 8 13 (.pointer (some ⟨g, 18, none⟩)) rfl hHeld ?_
  simp only [Act.put, sA, sZ, sS]
  refine tkY 9 14 (.slice (some ⟨gs, 0, none⟩) m m) rfl (Or.inl ⟨by rfl, fun W hW => by have hc := (HT.out W hW).cSl; go_simp⟩) hHeld ?_
  simp only [Act.put, sA, sZ, sS]
  refine tk 10 15 (.int .i64 (m : Int)) rfl hHeld ?_
  simp only [Act.put, sA, sZ, sS]
  refine tk 11 16 (.int .u64 (m : Int)) rfl hHeld ?_
  simp only [Act.put, sA, sZ, sS]
  refine wpAnyH_ready (rs := [5]) (by kernel_rfl) (by simp) (AllReadyH.cons (o := ⟨some 10, _, _, _, _, _⟩) rfl (fun K hK => ?_) AllReadyH.nil)
  go_simp
  refine (HH.out X0).mono ?_
  rintro e W1 ⟨rfl, hb1⟩
  have HB3 := Lib.hid (hHeld.trans (hb1.mono hHeld.size))
  clear hb1
  refine hK.out _ _ HB3.out (fun hHeld => ?_)
  clear hK K
  refine tk 12 17 (.int .u64 (r : Int)) rfl hHeld ?_
  simp only [Act.put, sA, sZ, sS]
  refine tk 13 18 (.int .i64 (r : Int)) rfl hHeld ?_
  simp only [Act.put, sA, sZ, sS]
  refine tk 14 4 (.int .i64 (r : Int)) rfl hHeld ?_
  simp only [Act.put, sA, sZ, sS]
  refine wpAnyH_done (by kernel_rfl) ?_ _
  clear hHeld
  go_wp2_with fail
  go_ret
  exact ⟨rfl, HB.out.trans (HB3.out.mono HB.out.size)⟩
theorem built_tab {key : List UInt8} (hk : key.length = 16) (room : Nat) (A : Option Addr) (n c : Nat) : Try.prog.built 69 [(0, keyC key), (1, .int .i64 (room : Int)), (3, .slice A n c)] = some (tbE key room 0 (.slice A n c)).toArray := by
  obtain ⟨b0, b1, b2, b3, b4, b5, b6, b7, b8, b9, b10, b11, b12, b13, b14, b15, rfl⟩ := sixteen hk
  kernel_rfl
theorem fw0_zero : eF.f fw0 = eF.zero.cells.toList := rfl
set_option maxHeartbeats 8000000 in
theorem pnew_any {key : List UInt8} (hk : key.length = 16) {room : Nat} (h1 : 1 ≤ room) (h2 : room ≤ 4096) (w : World) :
    Calls Try.prog 11 #[.agg (key.map v8).toArray, .int .i64 (room : Int)] w fun e w' => ∃ g gs, e = .returned (.tuple #[.pointer (some ⟨g, 0, none⟩), .int .i64 0]) ∧ TabR w' g gs key room (2 * room) 0 (List.replicate (2 * room) fw0) ∧ Below w.heap.size w w' ∧ w.heap.size ≤ g ∧ w.heap.size ≤ gs := by
  obtain ⟨C0, hC0⟩ : ∃ C, (key.map v8).toArray = C := ⟨_, rfl⟩
  obtain ⟨Y, hY⟩ : ∃ Y, w.alloc (.cells C0 22) = Y := ⟨_, rfl⟩
  have hb : Blk Y 22 w.heap.size (key.map v8) := by rw [← hY, ← hC0]; exact Blk_10.new w _ _
  have HB := Lib.hid (show Below w.heap.size w Y by rw [← hY]; exact (Below.refl w.heap.size w).alloc (Nat.le_refl _) _)
  have HZ := Lib.hid (show Y.heap.size = w.heap.size + 1 by rw [← hY, World.size_alloc])
  have HY := Lib.hid hY
  rw [hC0]
  have HKL := Lib.hid hk
  obtain ⟨KC, hKC⟩ : ∃ C, keyC key = C := ⟨_, rfl⟩
  have HKC := Lib.hid hKC
  have HK : Hid (∀ W, Below Y.heap.size Y W → W.rangeAt w.heap.size 0 (key.map v8)) := Lib.hid (fun W hW => Blk_10.range (Blk_10.below hb (Blk_10.lt hb) hW))
  have HW := Lib.hid (fun W => pwithin_any (room : Int) 1 4096 W)
  rw [show inB' (room : Int) 1 4096 = true by simp [inB']; omega] at HW
  obtain ⟨m, hm⟩ : ∃ m, 2 * room = m := ⟨_, rfl⟩
  have hmi : IntKind.i64.wrap (2 * (room : Int)) = (m : Int) := by rw [IntKind.wrap_i64]; omega
  have HM : Hid (∀ W : World, ∃ w', (Instr.makeSlice 42 (.int .i64 (m : Int)) (.int .i64 (m : Int))).run Try.prog W = .ok (.slice (some ⟨W.heap.size, 0, none⟩) m m) w' ∧ OwnG eF w' W.heap.size (.slice (some ⟨W.heap.size, 0, none⟩) m m) (List.replicate m fw0) ∧ W.grownBy w' none) := Lib.hid (fun W => run_makeG eF fw0 fw0_zero m (by omega) W.heap.size W (Nat.le_refl _))
  have HBT : Hid (∀ A n c, Try.prog.built 69 [(0, KC), (1, .int .i64 (room : Int)), (3, .slice A n c)] = some (tbE key room 0 (.slice A n c)).toArray) := Lib.hid (fun A n c => by rw [← hKC]; exact built_tab hk room A n c)
  have HTL : Hid (∀ sv, (tbE key room 0 sv).length = 19) := Lib.hid (fun sv => tbE_len hk room 0 sv)
  rw [hm]
  clear hC0 hY hb hk hKC hm
  go_enter Try.func11, Try.ntmps11
  go_upto_region 1 with (fail)
  rw [HY.out]
  go_upto_region 3 with ((with_reducible refine (HW.out _).mono ?_); rintro e w' ⟨rfl, rfl⟩)
  refine wp_region_held_drew (S := fun W => Below Y.heap.size Y W) (by kernel_rfl) ((Below.refl Y.heap.size Y).drew) (fun hHeld => ?_)
  obtain ⟨X0, hX0⟩ : ∃ X, Y.drew = X := ⟨_, rfl⟩
  rw [hX0] at hHeld ⊢
  clear hX0
  refine tkY 0 9 KC rfl (yields_loadKeyL (by rfl) _ rfl w.heap.size 0 rfl key HKL.out KC HKC.out HK.out) hHeld ?_
  simp only [Act.put, sA, sZ, sS]
  refine tk 1 10 (.int .i64 (room : Int)) rfl hHeld ?_
  simp only [Act.put, sA, sZ, sS]
  refine tk 2 11 (.int .i64 (room : Int)) rfl hHeld ?_
  simp only [Act.put, sA, sZ, sS]
  refine tk 3 12 (.int .i64 (m : Int)) rfl hHeld ?_
  simp only [Act.put, sA, sZ, sS]
  obtain ⟨X1, hmk, hown, hgr⟩ := HM.out X0
  have HOW := Lib.hid hown
  have HB1 : Hid (Below Y.heap.size Y X1) := Lib.hid (hHeld.grown hgr hHeld.size (fun g e => by cases e))
  have hgs : X0.heap.size < X1.heap.size := hown.ltS _ rfl
  have HGS := Lib.hid hgs
  have HS0 := Lib.hid hHeld.size
  clear hown hgr hgs
  refine wpAnyH_ready (rs := [4]) (by kernel_rfl) (by simp) (AllReadyH.cons (o := ⟨some 13, _, _, _, _, _⟩) rfl (fun K hK => ?_) AllReadyH.nil)
  go_simp
  refine hK.out _ _ HB1.out (fun hHeld => ?_)
  clear hK K hmk
  refine tkY 5 14 (.agg (tbE key room 0 (.slice (some ⟨X0.heap.size, 0, none⟩) m m)).toArray) rfl (yields_bldF (by rfl) 69 _ rfl [(0, KC), (1, .int .i64 (room : Int)), (3, .slice (some ⟨X0.heap.size, 0, none⟩) m m)] (by kernel_rfl) _ (HBT.out _ _ _)) hHeld ?_
  simp only [Act.put, sA, sZ, sS]
  obtain ⟨TA, hTA⟩ : ∃ T, (tbE key room 0 (.slice (some ⟨X0.heap.size, 0, none⟩) m m)).toArray = T := ⟨_, rfl⟩
  rw [hTA]
  have HTA := Lib.hid hTA
  clear hTA
  refine wpAnyH_ready (rs := [6]) (by kernel_rfl) (by simp) (AllReadyH.cons (o := ⟨some 15, _, _, _, _, _⟩) rfl (fun K hK => ?_) AllReadyH.nil)
  go_simp
  refine hK.out _ _ (HB1.out.alloc HB1.out.size _) (fun hHeld => ?_)
  clear hK K
  refine tk 7 4 (.pointer (some ⟨X1.heap.size, 0, none⟩)) rfl hHeld ?_
  simp only [Act.put, sA, sZ, sS]
  refine tk 8 5 (.int .i64 0) rfl hHeld ?_
  simp only [Act.put, sA, sZ, sS]
  refine wpAnyH_done (by kernel_rfl) ?_ _
  clear hHeld
  go_wp2_with fail
  go_ret2
  refine ⟨X1.heap.size, X0.heap.size, rfl, ⟨?_, ?_, Nat.ne_of_gt HGS.out, HKL.out, List.length_replicate⟩, HB.out.trans ((HB1.out.alloc HB1.out.size _).mono HB.out.size), ?_, ?_⟩
  · rw [← HTA.out]
    exact Blk_10.new X1 _ _
  · exact (HOW.out.base_le (Nat.zero_le _)).alloc _
  · exact Nat.le_trans (Nat.le_trans HB.out.size HS0.out) (Nat.le_of_lt HGS.out)
  · exact Nat.le_trans HB.out.size HS0.out
theorem pnone_any {key : List UInt8} {n : Int} (h : n < 1 ∨ 4096 < n) (w : World) :
    Calls Try.prog 11 #[.agg (key.map v8).toArray, .int .i64 n] w fun e w' => e = .returned (.tuple #[.pointer none, .int .i64 1]) ∧ Below w.heap.size w w' := by
  obtain ⟨C0, hC0⟩ : ∃ C, (key.map v8).toArray = C := ⟨_, rfl⟩
  obtain ⟨Y, hY⟩ : ∃ Y, w.alloc (.cells C0 22) = Y := ⟨_, rfl⟩
  have HB := Lib.hid (show Below w.heap.size w Y by rw [← hY]; exact (Below.refl w.heap.size w).alloc (Nat.le_refl _) _)
  have HY := Lib.hid hY
  rw [hC0]
  have HW := Lib.hid (fun W => pwithin_any n 1 4096 W)
  rw [show inB' n 1 4096 = false by simp [inB']; omega] at HW
  clear hC0 hY h
  go_enter Try.func11, Try.ntmps11
  go_upto_region 1 with (fail)
  rw [HY.out]
  go_wp2_with ((with_reducible refine (HW.out _).mono ?_); rintro e w' ⟨rfl, rfl⟩)
  go_ret2
  exact ⟨rfl, HB.out⟩
end Go.Proofs.Ytfbiinipiklkaaa
namespace Go.Proofs.Ytfbiinipiklkaaa
set_option maxRecDepth 100000
open Go.RowKit Go.Shelf Go.Lib

attribute [local go_sem] Oper.semAt_some

theorem pfrom_any (g first : Nat) (w : World) : Calls Try.prog 55 #[.pointer (some ⟨g, 0, none⟩), .int .i64 (first : Int)] w fun e w' => e = .returned (.func (.func 69) #[] #[.pointer (some ⟨w.heap.size, 0, none⟩), .pointer (some ⟨w.heap.size + 1, 0, none⟩)]) ∧
    w' = (w.alloc (.cells #[.pointer (some ⟨g, 0, none⟩)] 30)).alloc (.cells #[.int .i64 (first : Int)] 3) := by
  go_enter Try.func55, Try.ntmps55
  go_wp2_with fail
  go_ret
  exact ⟨rfl, rfl⟩
/-- What a round that goes on keeps: the iterator's boxes and the table's own block. -/
structure KpF (Bt Bf g : Nat) (W W' : World) : Prop where
  t : W'.heap[Bt]? = W.heap[Bt]?
  f : W'.heap[Bf]? = W.heap[Bf]?
  g : W'.heap[g]? = W.heap[g]?
theorem KpF.refl (Bt Bf g : Nat) (W : World) : KpF Bt Bf g W W := ⟨rfl, rfl, rfl⟩
theorem KpF.trans {Bt Bf g : Nat} {A B C : World} (h : KpF Bt Bf g A B) (k : KpF Bt Bf g B C) : KpF Bt Bf g A C := ⟨k.t.trans h.t, k.f.trans h.f, k.g.trans h.g⟩
theorem kpF_b {Bt Bf g : Nat} {w : World} (h1 : Bt < w.heap.size) (h2 : Bf < w.heap.size) (h3 : g < w.heap.size) (W : World) (l : Nat) (o o' : Obj) (hl : w.heap.size ≤ l) (h : W.heap[l]? = some o) (_ : o.isCells = false) (_ : o.isWalk = false) : KpF Bt Bf g W (W.putObj l o') := by
  have hlt := (Array.getElem?_eq_some_iff.1 h).1
  exact ⟨(grownBy_putObj' W l o').block Bt (by omega) (fun e => by cases e; omega), (grownBy_putObj' W l o').block Bf (by omega) (fun e => by cases e; omega), (grownBy_putObj' W l o').block g (by omega) (fun e => by cases e; omega)⟩
def encF (m x : Nat) : Array Value := #[.int .i64 ((x % m : Nat) : Int)]
def fromL (first k : Nat) : List Nat := (List.range k).map fun d => first + d
theorem fromL_succ (first k : Nat) : fromL first (k + 1) = fromL first k ++ [first + k] := by simp [fromL, List.range_succ]
theorem fromL_length (first k : Nat) : (fromL first k).length = k := by simp [fromL]
/-- What a round answers. -/
def YG (Bt Bf g : Nat) (J Jx : List Nat → World → Prop) (pre : List Nat) (W : World) (b : Bool) (W' : World) : Prop := (b = true ∧ J pre W' ∧ KpF Bt Bf g W W') ∨ (b = false ∧ Jx pre W')
theorem tmod_from {m f r : Nat} : Int.tmod ((f : Int) + (r : Int)) (m : Int) = (((f + r) % m : Nat) : Int) := by
  rw [Int.tmod_eq_emod_of_nonneg (by omega), Int.natCast_emod, Int.natCast_add]
theorem cut_bw {goal : Prop} {H G : Bool → World → Prop} (h1 : (∀ b W, H b W → G b W) → goal) (h2 : ∀ b W, H b W → G b W) : goal := h1 h2
/-- A step of a by-hand walk inside a fence that looks at no memory. -/
theorem tkI {F : Fence} {n : Nat} {P : Program} {ops : Array Oper} {Q : Exit → Act → World → Prop} {md : Region.Mode} {fuel : Nat} {listed : Array Bool} {a : Act} {w : World} (hro : F.round = none) (i k : Nat) (v : Value) {op ty pos aft g} (hi : ops[i]? = some ⟨some k, op, ty, pos, aft, g⟩)
    (h : wpAnyIn F n P md ops Q fuel (listed.setIfInBounds i true) (a.put (some k) v) w)
    (hs : Region.noSelect ops = true := by kernel_rfl) (hf : Region.free md ops listed i = true := by kernel_rfl) (hr : (Region.ready md ops listed).contains i = true := by kernel_rfl)
    (hQ : ∀ c a w, Q (.panic c) (a.put (some k) v) w → Q (.panic c) a w := by exact fun _ _ _ h => h) (hy : YieldsFenced P ops ⟨some k, op, ty, pos, aft, g⟩ v a := by exact ⟨Or.inl ⟨by rfl, fun _ => by go_simp⟩, fun _ => rfl⟩) : wpAnyIn F n P md ops Q (fuel + 1) listed a w :=
  wpAnyIn_take hro hi hs hf hr hQ hy h
set_option maxHeartbeats 8000000 in
theorem from1_in (F : Fence) (n : Nat) (hF : F.fn 69) (hro : F.round = none) (hn : 1 ≤ n) (l Bt Bf g gs m first : Nat) (h0 : 0 < m) (hf : first ≤ m) (hm : m ≤ 100000) (J Jx : List Nat → World → Prop) (N0 : Nat) (hJ : AbidesFrom N0 J)
    (hY : ∀ pre x W, J pre W → pre.length < m → YieldAt F (n - 1) Try.prog l (encF m x) W fun e W' =>
      (e = .returned (.bool true) ∧ J (pre ++ [x]) W' ∧ KpF Bt Bf g W W') ∨ (e = .returned (.bool false) ∧ Jx (pre ++ [x]) W'))
    (W : World) (hBt : W.cell? ⟨Bt, 0, none⟩ = some (.pointer (some ⟨g, 0, none⟩))) (hBf : W.cell? ⟨Bf, 0, none⟩ = some (.int .i64 (first : Int))) (hg : W.cell? ⟨g, 18, none⟩ = some (.slice (some ⟨gs, 0, none⟩) m m)) (hJ0 : J [] W) :
    CallsIn F n Try.prog 69 #[.func (.yield l) #[] #[], .pointer (some ⟨Bt, 0, none⟩), .pointer (some ⟨Bf, 0, none⟩)] W fun e W' => (∃ v, e = .returned v) ∧
      ((∃ ys, ys = fromL first m ∧ J ys W') ∨ (∃ pre, (∃ k, k ≤ m ∧ pre = fromL first k) ∧ Jx pre W')) := by
  refine callsIn_of_wp Try.func69 rfl hF ?_ hro
  simp only [Try.ntmps69, List.size_toArray, List.length_cons, List.length_nil, Nat.reduceAdd, Nat.reduceSub, Array.replicate_succ, Array.replicate_zero, List.push_toArray, List.append_toArray, List.nil_append, List.cons_append]
  have HMM := Lib.hid hm
  have HFF := Lib.hid hf
  have HM0 := Lib.hid h0
  clear hm hf h0
  gi_wp2
  gi_loopw [10] (fun i wr => ∃ r : Nat, r ≤ m ∧ i = .int .i64 (r : Int) ∧ J (fromL first r) wr ∧ KpF Bt Bf g W wr)
    (fun i _ => m - (RowKit.intOf i).toNat)
  case atStart => exact ⟨0, Nat.zero_le _, rfl, hJ0, KpF.refl _ _ _ _⟩
  case round =>
    obtain ⟨r, hr, rfl, hJs, hnx⟩ := hrel
    have q1 : wr.cell? ⟨Bt, 0, none⟩ = some (.pointer (some ⟨g, 0, none⟩)) := (World.cell?_of_block (a := ⟨Bt, 0, none⟩) hnx.t).trans hBt
    have q2 : wr.cell? ⟨Bf, 0, none⟩ = some (.int .i64 (first : Int)) := (World.cell?_of_block (a := ⟨Bf, 0, none⟩) hnx.f).trans hBf
    have q3 : wr.cell? ⟨g, 18, none⟩ = some (.slice (some ⟨gs, 0, none⟩) m m) := (World.cell?_of_block (a := ⟨g, 18, none⟩) hnx.g).trans hg
    by_cases hlt0 : r < m
    · have hlt : (r : Int) < (m : Int) := by omega
      obtain ⟨fn, tmps, assign, body, hy, hR⟩ := hY _ (first + r) wr.drew (hJ _ _ _ none hJs (gb_drew (World.grownBy.refl wr none)) (fun r e => by cases e)) (by rw [fromL_length]; exact hlt0)
      have HR : Hid (RoundIn F (n - 1) Try.prog l fn tmps assign body wr.drew fun e W' => ∃ b : Bool, e = .returned (.bool b) ∧ YG Bt Bf g J Jx (fromL first r ++ [first + r]) wr.drew b W') := Lib.hid (RoundIn.mono hR (fun e W' h => by
        rcases h with ⟨h1, h2, h3⟩ | ⟨h1, h2⟩
        · exact ⟨true, h1, .inl ⟨rfl, h2, h3⟩⟩
        · exact ⟨false, h1, .inr ⟨rfl, h2⟩⟩))
      dsimp only [encF] at hy
      have hadd : IntKind.i64.wrap ((first : Int) + (r : Int)) = (first : Int) + (r : Int) := by have := HMM.out; have := HFF.out; rw [IntKind.wrap_i64]; omega
      have htm := tmod_from (m := m) (f := first) (r := r)
      have hpl : (first + r) % m < m := Nat.mod_lt _ HM0.out
      obtain ⟨p, hp⟩ : ∃ p, (first + r) % m = p := ⟨_, rfl⟩
      rw [hp] at hy htm hpl
      have hm0 : (m : Int) ≠ 0 := by omega
      have hmb : ((m : Int) == 0) = false := beq_eq_false_iff_ne.2 hm0
      have hm1 : ¬ m = 0 := by omega
      have hw3 : IntKind.i64.wrap (p : Int) = (p : Int) := by have := HMM.out; rw [IntKind.wrap_i64]; omega
      have HLT := Lib.hid hlt0
      have hr9 : r < 9223372036854775807 := by have := HMM.out; omega
      clear hR hp hlt0 hr hpl
      gi_wp2
      apply cut_bw (H := YG Bt Bf g J Jx (fromL first r ++ [first + r]) wr.drew)
      case h1 =>
        intro hc
        refine wpIn_region_any (by kernel_rfl) ?_
        change wpAnyIn _ _ _ _ _ _ _ _ _ (World.drew _)
        refine tkI hro 0 13 (.func (.yield l) #[] #[]) rfl ?_
        simp only [Act.put, sA, sZ, sS]
        refine tkI hro 2 15 (.int .i64 (r : Int)) rfl ?_
        simp only [Act.put, sA, sZ, sS]
        refine wpAnyIn_ready (rs := [1, 4]) (by kernel_rfl) (by simp) (AllReadyIn.cons (o := ⟨some 14, _, _, _, _, _⟩) rfl (fun K hK => ?_) (AllReadyIn.cons (o := ⟨some 17, _, _, _, _, _⟩) rfl (fun K hK => ?_) AllReadyIn.nil))
        · go_simp
          refine hK _ _ ?_
          clear hK K
          refine tkI hro 3 16 (.int .i64 ((first : Int) + (r : Int))) rfl ?_
          simp only [Act.put, sA, sZ, sS]
          refine wpAnyIn_ready (rs := [4]) (by kernel_rfl) (by simp) (AllReadyIn.cons (o := ⟨some 17, _, _, _, _, _⟩) rfl (fun K hK => ?_) AllReadyIn.nil)
          go_simp
          refine hK _ _ ?_
          clear hK K
          refine tkI hro 5 18 (.pointer (some ⟨g, 0, none⟩)) rfl ?_
          simp only [Act.put, sA, sZ, sS]
          refine tkI hro 6 19 (.pointer (some ⟨g, 18, none⟩)) rfl ?_
          simp only [Act.put, sA, sZ, sS]
          refine wpAnyIn_ready (rs := [7]) (by kernel_rfl) (by simp) (AllReadyIn.cons (o := ⟨some 20, _, _, _, _, _⟩) rfl (fun K hK => ?_) AllReadyIn.nil)
          go_simp
          refine hK _ _ ?_
          clear hK K
          refine tkI hro 8 21 (.int .i64 (m : Int)) rfl ?_
          simp only [Act.put, sA, sZ, sS]
          refine tkI hro 9 22 (.int .i64 (p : Int)) rfl ?_
          simp only [Act.put, sA, sZ, sS]
          refine wpAnyIn_ready (rs := [10]) (by kernel_rfl) (by simp) (AllReadyIn.cons (o := ⟨some 23, _, _, _, _, _⟩) rfl (fun K hK => ?_) AllReadyIn.nil)
          go_simp
          refine RoundIn.mono HR.out ?_
          rintro e W3 ⟨b, rfl, hb⟩
          refine hK _ _ ?_
          clear hK K
          refine tkI hro 11 24 (.bool (!b)) rfl ?_
          simp only [Act.put, sA, sZ, sS]
          refine wpAnyIn_done (by kernel_rfl) ?_ _
          exact hc b W3 hb
        · go_simp
          refine hK _ _ ?_
          clear hK K
          refine tkI hro 5 18 (.pointer (some ⟨g, 0, none⟩)) rfl ?_
          simp only [Act.put, sA, sZ, sS]
          refine tkI hro 6 19 (.pointer (some ⟨g, 18, none⟩)) rfl ?_
          simp only [Act.put, sA, sZ, sS]
          refine wpAnyIn_ready (rs := [1, 7]) (by kernel_rfl) (by simp) (AllReadyIn.cons (o := ⟨some 14, _, _, _, _, _⟩) rfl (fun K hK => ?_) (AllReadyIn.cons (o := ⟨some 20, _, _, _, _, _⟩) rfl (fun K hK => ?_) AllReadyIn.nil))
          · go_simp
            refine hK _ _ ?_
            clear hK K
            refine tkI hro 3 16 (.int .i64 ((first : Int) + (r : Int))) rfl ?_
            simp only [Act.put, sA, sZ, sS]
            refine wpAnyIn_ready (rs := [7]) (by kernel_rfl) (by simp) (AllReadyIn.cons (o := ⟨some 20, _, _, _, _, _⟩) rfl (fun K hK => ?_) AllReadyIn.nil)
            go_simp
            refine hK _ _ ?_
            clear hK K
            refine tkI hro 8 21 (.int .i64 (m : Int)) rfl ?_
            simp only [Act.put, sA, sZ, sS]
            refine tkI hro 9 22 (.int .i64 (p : Int)) rfl ?_
            simp only [Act.put, sA, sZ, sS]
            refine wpAnyIn_ready (rs := [10]) (by kernel_rfl) (by simp) (AllReadyIn.cons (o := ⟨some 23, _, _, _, _, _⟩) rfl (fun K hK => ?_) AllReadyIn.nil)
            go_simp
            refine RoundIn.mono HR.out ?_
            rintro e W3 ⟨b, rfl, hb⟩
            refine hK _ _ ?_
            clear hK K
            refine tkI hro 11 24 (.bool (!b)) rfl ?_
            simp only [Act.put, sA, sZ, sS]
            refine wpAnyIn_done (by kernel_rfl) ?_ _
            exact hc b W3 hb
          · go_simp
            refine hK _ _ ?_
            clear hK K
            refine tkI hro 8 21 (.int .i64 (m : Int)) rfl ?_
            simp only [Act.put, sA, sZ, sS]
            refine wpAnyIn_ready (rs := [1]) (by kernel_rfl) (by simp) (AllReadyIn.cons (o := ⟨some 14, _, _, _, _, _⟩) rfl (fun K hK => ?_) AllReadyIn.nil)
            go_simp
            refine hK _ _ ?_
            clear hK K
            refine tkI hro 3 16 (.int .i64 ((first : Int) + (r : Int))) rfl ?_
            simp only [Act.put, sA, sZ, sS]
            refine tkI hro 9 22 (.int .i64 (p : Int)) rfl ?_
            simp only [Act.put, sA, sZ, sS]
            refine wpAnyIn_ready (rs := [10]) (by kernel_rfl) (by simp) (AllReadyIn.cons (o := ⟨some 23, _, _, _, _, _⟩) rfl (fun K hK => ?_) AllReadyIn.nil)
            go_simp
            refine RoundIn.mono HR.out ?_
            rintro e W3 ⟨b, rfl, hb⟩
            refine hK _ _ ?_
            clear hK K
            refine tkI hro 11 24 (.bool (!b)) rfl ?_
            simp only [Act.put, sA, sZ, sS]
            refine wpAnyIn_done (by kernel_rfl) ?_ _
            exact hc b W3 hb
      rintro b W3 hb
      rcases hb with ⟨rfl, hJ3, hk3⟩ | ⟨rfl, hJx3⟩
      · gi_wp2
        go_roundw
        case rel => exact ⟨r + 1, HLT.out, by go_num, by rw [fromL_succ]; exact hJ3, hnx.trans (show KpF Bt Bf g wr W3 from ⟨hk3.t, hk3.f, hk3.g⟩)⟩
        case measure =>
          have := HLT.out
          simp [RowKit.intOf]
          omega
      · gi_wp2
        refine bodyPost_ret (results_none rfl _ _ _) rfl ?_
        exact ⟨⟨_, rfl⟩, .inr ⟨_, ⟨r + 1, HLT.out, (fromL_succ _ _).symm⟩, hJx3⟩⟩
    · obtain rfl : r = m := by omega
      have h1 : ¬ (r : Int) < (r : Int) := by omega
      clear hlt0 hr
      gi_wp2
      go_end0
      exact ⟨⟨_, rfl⟩, .inl hJs⟩
theorem from_stops (F : Fence) (n : Nat) (hF : F.fn 69) (hro : F.round = none) (hn : 1 ≤ n) (Bt Bf g gs m first : Nat) (h0 : 0 < m) (hf : first ≤ m) (hm : m ≤ 100000) (w : World) (h1 : Bt < w.heap.size) (h2 : Bf < w.heap.size) (h3 : g < w.heap.size)
    (hBt : w.cell? ⟨Bt, 0, none⟩ = some (.pointer (some ⟨g, 0, none⟩))) (hBf : w.cell? ⟨Bf, 0, none⟩ = some (.int .i64 (first : Int))) (hg : w.cell? ⟨g, 18, none⟩ = some (.slice (some ⟨gs, 0, none⟩) m m)) :
    SeqStopsK F n Try.prog 69 #[.pointer (some ⟨Bt, 0, none⟩), .pointer (some ⟨Bf, 0, none⟩)] (encF m) (KpF Bt Bf g) (fun ys => ys = fromL first m)
      (fun pre => ∃ k, k ≤ m ∧ pre = fromL first k) m w := fun l J Jx W hW hJ _ hY h00 =>
  from1_in F n hF hro hn l Bt Bf g gs m first h0 hf hm J Jx _ hJ hY W ((hW.cell (p := ⟨Bt, 0, none⟩) h1).trans hBt) ((hW.cell (p := ⟨Bf, 0, none⟩) h2).trans hBf) ((hW.cell (p := ⟨g, 18, none⟩) h3).trans hg) h00
end Go.Proofs.Ytfbiinipiklkaaa
