/-
  slices.Chunk over bytes, by eights: the iterator hands on each eight bytes.
-/
import Derived.Test.YtagfhephbjinmaaHP2
import Derived.RangeFuncNested
import Derived.RangeFuncBound
import Derived.RangeFuncCalls
import Derived.RangeFuncLeaves
import Derived.RangeFuncBox
import Derived.Maps.AppendAt
import Derived.Shelf.Abstract
import Derived.Shelf.RegionOpen
import Derived.OwnWalkIn
import Derived.TacticsInMore
import Derived.LoopNIn
import Derived.LoopIn
namespace Go.Proofs.Ytagfhephbjinmaa
set_option maxRecDepth 100000
open Go.RowKit Go.Shelf Go.Lib

attribute [local go_sem] Oper.semAt_some

/-- b[L:H:M], where these come to l, l + n and l + n again. -/
theorem run_cut8m (A : Option Addr) (len cap l n : Nat) (L H M : Int) (hL : L = (l : Int)) (hH : H = ((l + n : Nat) : Int)) (hM : M = H) (h2 : l + n ≤ cap) (hn : 0 < n) (W : World) :
    (Instr.slice 43 (.slice A len cap) (some (.int .i64 L)) (some (.int .i64 H)) (some (.int .i64 M))).run Try.prog W = .ok (.slice (A.map fun a => a.add l) n n) W := by
  subst hM hL hH
  obtain ⟨i0, hi, hz0, hz1, hz2⟩ := info_parts info8
  have hb := run_sliceBound (P := Try.prog) (w := W) .i64 (l : Int) (l + n) .slice3C (by omega) (by omega)
  have hc := run_sliceBound (P := Try.prog) (w := W) .i64 ((l + n : Nat) : Int) (l + n) .slice3B (by omega) (by omega)
  have hd := run_sliceBound (P := Try.prog) (w := W) .i64 ((l + n : Nat) : Int) cap .slice3Acap (by omega) (by omega)
  simp only [Int.natCast_add] at hc hd
  simp [Instr.slice, hb, hc, hd, run_underlying Try.underlying43, Instr.sliceBounds, sizeOf, typeInfo, hi, hz1, show ((l : Int) + (n : Int)).toNat = l + n by omega]
  omega
def KpC (n₀ Bs Bn : Nat) (W W' : World) : Prop := Below n₀ W W' ∧ W'.heap[Bs]? = W.heap[Bs]? ∧ W'.heap[Bn]? = W.heap[Bn]?
theorem KpC.refl (n₀ Bs Bn : Nat) (W : World) : KpC n₀ Bs Bn W W := ⟨Below.refl _ _, rfl, rfl⟩
theorem KpC.trans {n₀ Bs Bn : Nat} {A B C : World} (h : KpC n₀ Bs Bn A B) (k : KpC n₀ Bs Bn B C) : KpC n₀ Bs Bn A C := ⟨h.1.trans k.1, k.2.1.trans h.2.1, k.2.2.trans h.2.2⟩
theorem kpC_b {n₀ Bs Bn : Nat} {w : World} (hn : n₀ ≤ w.heap.size) (hBs : Bs < w.heap.size) (hBn : Bn < w.heap.size) (W : World) (l : Nat) (o o' : Obj) (hl : w.heap.size ≤ l) (h : W.heap[l]? = some o) (h1 : o.isCells = false) (h2 : o.isWalk = false) : KpC n₀ Bs Bn W (W.putObj l o') :=
  ⟨belowK_b hn W l o o' hl h h1 h2, (grownBy_putObj' W l o').block Bs (by have := (Array.getElem?_eq_some_iff.1 h).1; omega) (fun e => by cases e; omega), (grownBy_putObj' W l o').block Bn (by have := (Array.getElem?_eq_some_iff.1 h).1; omega) (fun e => by cases e; omega)⟩
/-- The j-th eight bytes, as a slice. -/
def chV (A : Option Addr) (q j : Nat) : Value := if j < q then .slice (A.map fun a => a.add (8 * j)) 8 8 else .slice none 0 0
def encC (A : Option Addr) (q j : Nat) : Array Value := #[chV A q j]
theorem upto_id_succ (k : Nat) : upto id (k + 1) = upto id k ++ [k] := upto_succ id k

set_option maxHeartbeats 4000000 in
theorem chunk1_in (F : Fence) (n : Nat) (hF : F.fn 37) (hro : F.round = none) (hn : 1 ≤ n) (l Bs Bn n₀ : Nat) (A : Option Addr) (q len cap : Nat) (hq : len = 8 * q) (hlen : len ≤ cap) (hcap : cap ≤ maxLen) (J Jx : List Nat → World → Prop) (N0 : Nat) (hJ : AbidesFrom N0 J)
    (hY : ∀ pre x W, J pre W → pre.length < q → YieldAt F (n - 1) Try.prog l (encC A q x) W fun e W' =>
      (e = .returned (.bool true) ∧ J (pre ++ [x]) W' ∧ KpC n₀ Bs Bn W W') ∨ (e = .returned (.bool false) ∧ Jx (pre ++ [x]) W'))
    (W : World) (hBs : W.cell? ⟨Bs, 0, none⟩ = some (.slice A len cap)) (hBn : W.cell? ⟨Bn, 0, none⟩ = some (.int .i64 8)) (h0 : J [] W) :
    CallsIn F n Try.prog 37 #[.func (.yield l) #[] #[], .pointer (some ⟨Bs, 0, none⟩), .pointer (some ⟨Bn, 0, none⟩)] W fun e W' => (∃ v, e = .returned v) ∧
      ((∃ ys, ys = upto id q ∧ J ys W') ∨ (∃ pre, (∃ k, k ≤ q ∧ pre = upto id k) ∧ Jx pre W')) := by
  unfold maxLen at hcap
  refine callsIn_of_wp Try.func37 rfl hF ?_ hro
  simp only [Try.ntmps37, List.size_toArray, List.length_cons, List.length_nil, Nat.reduceAdd, Nat.reduceSub, Array.replicate_succ, Array.replicate_zero, List.push_toArray, List.append_toArray, List.nil_append, List.cons_append]
  gi_wp2
  gi_loopw [4] (fun i wr => ∃ r p : Nat, r ≤ q ∧ p = 8 * r ∧ i = .int .i64 (p : Int) ∧ J (upto id r) wr ∧ KpC n₀ Bs Bn W wr)
    (fun i _ => len - (intOf i).toNat)
  case atStart => exact ⟨0, 0, Nat.zero_le _, rfl, rfl, by simpa [upto] using h0, KpC.refl _ _ _ _⟩
  case round =>
    obtain ⟨r, p, hr, hp, rfl, hJs, hnx⟩ := hrel
    have hBx : wr.cell? ⟨Bs, 0, none⟩ = some (.slice A len cap) := (World.cell?_of_block (a := ⟨Bs, 0, none⟩) hnx.2.1).trans hBs
    have hBy : wr.cell? ⟨Bn, 0, none⟩ = some (.int .i64 8) := (World.cell?_of_block (a := ⟨Bn, 0, none⟩) hnx.2.2).trans hBn
    by_cases hlt : r < q
    · have h1 : (p : Int) < (len : Int) := by omega
      have hfr := fun W => run_from8 A len cap p (by omega) W
      have hct := fun W => run_cut8m A len cap p 8 (p : Int) ((p : Int) + 8) ((p : Int) + 8) rfl (by omega) rfl (by omega) (by decide) W
      have hmn : (8 : Int) ≤ ((len - p : Nat) : Int) := by omega
      have hmn2 : ¬ ((len - p : Nat) : Int) < 8 := by omega
      have hp8 : p + 8 ≤ 9223372036854775807 := by omega
      obtain ⟨m, hm⟩ : ∃ m, len - p = m := ⟨_, rfl⟩
      rw [hm] at hfr hmn hmn2
      have HM := Lib.hid hm
      have HP := Lib.hid hp
      have HQ := Lib.hid hq
      obtain ⟨fn, tmps, assign, body, hy, hR⟩ := hY _ r wr.drew (hJ _ _ _ none hJs (gb_drew (World.grownBy.refl wr none)) (fun r e => by cases e)) (by rw [upto_length]; exact hlt)
      dsimp only [encC, chV] at hy
      rw [if_pos hlt] at hy
      rw [← hp] at hy
      clear hm hp hq
      gi_wp2
      apply cut_h
      case h1 =>
        intro hc
        gi_region
        all_goals exact hc
      gi_wp2
      refine hR.mono ?_
      rintro e W3 (⟨rfl, hJ3, hk3⟩ | ⟨rfl, hJx3⟩)
      · have hBz : W3.cell? ⟨Bn, 0, none⟩ = some (.int .i64 8) := (World.cell?_of_block (a := ⟨Bn, 0, none⟩) hk3.2.2).trans hBy
        gi_wp2
        go_roundw
        case rel =>
          refine ⟨r + 1, p + 8, by omega, by have := HP.out; omega, by go_num, by rw [upto_id_succ]; exact hJ3, hnx.trans (KpC.trans ⟨(Below.refl _ _).drew, rfl, rfl⟩ hk3)⟩
        case measure =>
          have := HP.out
          have := HQ.out
          simp [intOf]
          omega
      · gi_wp2
        refine bodyPost_ret (results_none rfl _ _ _) rfl ?_
        exact ⟨⟨_, rfl⟩, .inr ⟨_, ⟨r + 1, by omega, rfl⟩, by rw [upto_id_succ]; exact hJx3⟩⟩
    · obtain rfl : r = q := by omega
      have h1 : ¬ (p : Int) < (len : Int) := by omega
      gi_wp2
      go_end0
      exact ⟨⟨_, rfl⟩, .inl hJs⟩

set_option maxHeartbeats 1000000 in
/-- slices.Chunk(s, 8): both are boxed; the function value captures the boxes. -/
theorem chunk_in (F : Fence) (n : Nat) (hF : F.fn 30) (hro : F.round = none) (a : Option Addr) (len cap : Nat) (w : World) :
    CallsIn F n Try.prog 30 #[.slice a len cap, .int .i64 8] w fun e w' => e = .returned (.func (.func 37) #[] #[.pointer (some ⟨w.heap.size, 0, none⟩), .pointer (some ⟨w.heap.size + 1, 0, none⟩)]) ∧
      w' = (w.alloc (.cells #[.slice a len cap] 43)).alloc (.cells #[.int .i64 8] 3) := by
  refine callsIn_of_wp Try.func30 rfl hF ?_ hro
  simp only [Try.ntmps30, List.size_toArray, List.length_cons, List.length_nil, Nat.reduceAdd, Nat.reduceSub, Array.replicate_succ, Array.replicate_zero, List.push_toArray, List.append_toArray, List.nil_append, List.cons_append]
  gi_wp2
  go_ret
  exact ⟨rfl, rfl⟩

/-- slices.Chunk(s, 8) hands back a value that goes through s by eights: all of it, or a part. -/
theorem chunk_stops (F : Fence) (n : Nat) (hF : F.fn 37) (hro : F.round = none) (hn : 1 ≤ n) (Bs Bn n₀ : Nat) (A : Option Addr) (q len cap : Nat) (hq : len = 8 * q) (hlen : len ≤ cap) (hcap : cap ≤ maxLen) (w : World) (hBs : Bs < w.heap.size) (hBn : Bn < w.heap.size)
    (hc : w.cell? ⟨Bs, 0, none⟩ = some (.slice A len cap)) (hd : w.cell? ⟨Bn, 0, none⟩ = some (.int .i64 8)) :
    SeqStopsK F n Try.prog 37 #[.pointer (some ⟨Bs, 0, none⟩), .pointer (some ⟨Bn, 0, none⟩)] (encC A q) (KpC n₀ Bs Bn) (fun ys => ys = upto id q)
      (fun pre => ∃ k, k ≤ q ∧ pre = upto id k) q w := fun l J Jx W hW hJ _ hY h0 =>
  chunk1_in F n hF hro hn l Bs Bn n₀ A q len cap hq hlen hcap J Jx _ hJ hY W ((hW.cell (p := ⟨Bs, 0, none⟩) hBs).trans hc) ((hW.cell (p := ⟨Bn, 0, none⟩) hBn).trans hd) h0
end Go.Proofs.Ytagfhephbjinmaa
