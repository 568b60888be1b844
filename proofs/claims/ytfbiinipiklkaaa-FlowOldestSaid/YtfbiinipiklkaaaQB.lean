/-
  Several texts in one: Bytes Turn Num Get Put CText Frame IMath Lift FMath FRing FList FSum FInts FRef moved.
-/
import Derived.Test.YtfbiinipiklkaaaRows
import Derived.WalkKit
import Derived.Below
import Derived.Deep.Draws
import Derived.Lib.Hide
import Derived.Maps.AppendAt
import Derived.Laws.OwnMore
import Derived.OwnWalkIn
import Derived.RangeFuncNested
import Derived.RangeFuncBound
import Derived.RangeFuncCalls
import Derived.RangeFuncLeaves
import Derived.RangeFuncBox
import Derived.Shelf.Abstract
import Derived.Shelf.RegionOpen
import Derived.TacticsInMore
import Derived.LoopNIn
import Derived.LoopIn
import Derived.Laws.BytesArg
import Derived.Lib.BufferOwn
import Derived.Lib.Zigzag
import Derived.ProofKit
import Derived.OpenShut
import Derived.ShutString
import Derived.ChangeOld
import Derived.IntWalk
import Derived.Deep.RegionHeld3
import Derived.Deep.AppendLies
import Derived.Lib.SliceRun
import Derived.BigQuiet
import Derived.Deep.MidRow
import Derived.Laws.ResultCell
import Derived.Laws.CopyOwn
import Derived.Deep.QuietTactic
import Derived.Deep.RegionLaw
import Derived.BigFrame
import Derived.DeepKeys
import Derived.Laws.StructEq
import Derived.Great.BuildSlice
import Derived.Lib.VarintBits
import Derived.Lib.QuoteBits
import Derived.WalkMore
import Derived.Deep.LoopGhost
import Derived.Lib.AppendZeros
namespace Go.Proofs.Ytfbiinipiklkaaa
set_option maxRecDepth 100000
section
open Go.RowKit
/-- A byte as a cell's value. -/
def v8 (x : UInt8) : Value := .int .u8 (x.toNat : Int)
theorem add_plain (b off j : Nat) : (⟨b, off, none⟩ : Addr).add j = ⟨b, off + j, none⟩ := by unfold Addr.add; split <;> simp_all
/-- The slice of address A and length n reads as the bytes xs; where it has any, they lie in a block below B. -/
def Rd (w : World) (B : Nat) (A : Option Addr) (n : Nat) (xs : List UInt8) : Prop :=
  xs.length = n ∧ (0 < n → ∃ b off, A = some ⟨b, off, none⟩ ∧ b < B ∧ ∀ (j : Nat) (x : UInt8), xs[j]? = some x → w.cell? ⟨b, off + j, none⟩ = some (v8 x))
section
variable {w w' : World} {B B' n : Nat} {A : Option Addr} {xs : List UInt8}
theorem Rd.len (h : Rd w B A n xs) : xs.length = n := h.1
theorem Rd.nil_ (A : Option Addr) : Rd w B A 0 [] := ⟨rfl, fun h => absurd h (by omega)⟩
theorem Rd.keep (h : Rd w B A n xs) (hk : ∀ p : Addr, p.block < B → w'.cell? p = w.cell? p) : Rd w' B A n xs :=
  ⟨h.1, fun hn => by
    obtain ⟨b, off, e, hb, hc⟩ := h.2 hn
    exact ⟨b, off, e, hb, fun j x hx => (hk _ hb).trans (hc j x hx)⟩⟩
theorem Rd.more (h : Rd w B A n xs) (hB : B ≤ B') : Rd w B' A n xs :=
  ⟨h.1, fun hn => by
    obtain ⟨b, off, e, hb, hc⟩ := h.2 hn
    exact ⟨b, off, e, by omega, hc⟩⟩
theorem Rd.below (h : Rd w B A n xs) (hb : Below B w w') : Rd w' B A n xs := h.keep fun _ hp => hb.cell hp
theorem Rd.drew (h : Rd w B A n xs) : Rd w.drew B A n xs := h
theorem Rd.drewN (h : Rd w B A n xs) (k : Nat) : Rd (w.drewN k) B A n xs := h
theorem Rd.alloc (h : Rd w B A n xs) (hB : B ≤ w.heap.size) (o : Obj) : Rd (w.alloc o) B A n xs := h.keep fun p hp => World.cell?_alloc_lt w o p (by omega)
theorem Rd.setCell (h : Rd w B A n xs) {p : Addr} (hB : B ≤ p.block) (u : Value) : Rd (w.setCell p u) B A n xs :=
  h.keep fun q hq => World.cell?_setCell_other w p q u (fun e => by subst e; omega)
theorem Rd.grown (h : Rd w B A n xs) {row : Option Nat} (hg : w.grownBy w' row) (hB : B ≤ w.heap.size) (hr : ∀ g, row = some g → B ≤ g) : Rd w' B A n xs :=
  h.keep fun p hp => World.cell?_of_block (hg.block p.block (by omega) (fun e => by have := hr _ e.symm; omega))
theorem Rd.cell {b off : Nat} (h : Rd w B (some ⟨b, off, none⟩) n xs) {k : Nat} (hk : k < n) : w.cell? ⟨b, off + k, none⟩ = some (.int .u8 ((xs[k]'(by rw [h.1]; exact hk)).toNat : Int)) := by
  obtain ⟨b', off', e, _, hc⟩ := h.2 (by omega)
  cases e
  exact hc k _ (List.getElem?_eq_getElem _)
theorem Rd.addr (h : Rd w B A n xs) (hn : 0 < n) : ∃ b off, A = some ⟨b, off, none⟩ ∧ b < B := by
  obtain ⟨b, off, e, hb, _⟩ := h.2 hn
  exact ⟨b, off, e, hb⟩
end
/-- The slice value v owns, in a row of bytes of the call's own from block 'base' on, the bytes xs. -/
def Own8 (w : World) (base : Nat) (v : Value) (xs : List UInt8) : Prop := w.ownsRow base 5 1 v xs.length (xs.map v8)
section
variable {w w' : World} {base : Nat} {v : Value} {xs : List UInt8}
theorem Own8.nil_ (w : World) (base : Nat) : Own8 w base (.slice none 0 0) [] := World.ownsRow_nil w base 5 1
/-- What is owned reads so. -/
theorem Own8.rd (h : Own8 w base v xs) : ∃ A c, v = .slice A xs.length c ∧ xs.length ≤ c ∧ c ≤ maxLen ∧ Rd w w.heap.size A xs.length xs ∧ (0 < xs.length → ∃ g, A = some ⟨g, 0, none⟩ ∧ base ≤ g) := by
  rcases h.2 with ⟨rfl, h0⟩ | ⟨g, cap, cur, rfl, hbg, hg, hnc, hcm, hcs, ht⟩
  · have : xs = [] := List.eq_nil_of_length_eq_zero h0
    subst this
    exact ⟨none, 0, rfl, by simp, by simp [maxLen], Rd.nil_ _, fun h => absurd h (by simp)⟩
  · refine ⟨some ⟨g, 0, none⟩, cap, rfl, hnc, hcm, ⟨rfl, fun _ => ⟨g, 0, rfl, (Array.getElem?_eq_some_iff.1 hg).1, fun j x hx => ?_⟩⟩, fun _ => ⟨g, rfl, hbg⟩⟩
    have := World.ownsRow.cells h (g := g) rfl j (v8 x) (by simp [hx])
    rw [add_plain] at this
    exact this
theorem Own8.alloc (h : Own8 w base v xs) (o : Obj) : Own8 (w.alloc o) base v xs := World.ownsRow.alloc h o
theorem Own8.drew (h : Own8 w base v xs) : Own8 w.drew base v xs := h
theorem Own8.below (h : Own8 w base v xs) (hb : Below w.heap.size w w') : Own8 w' base v xs := by
  refine ⟨h.1, ?_⟩
  rcases h.2 with hn | ⟨g, cap, cur, rfl, hbg, hg, rest⟩
  · exact .inl hn
  · exact .inr ⟨g, cap, cur, rfl, hbg, (hb.block g (Array.getElem?_eq_some_iff.1 hg).1).trans hg, rest⟩
theorem Own8.base_le (h : Own8 w base v xs) {base' : Nat} (hle : base' ≤ base) : Own8 w base' v xs := by
  refine ⟨h.1, ?_⟩
  rcases h.2 with hn | ⟨g, cap, cur, rfl, hbg, rest⟩
  · exact .inl hn
  · exact .inr ⟨g, cap, cur, rfl, by omega, rest⟩
end
/-- Block g is a row of just the bytes xs. -/
def Row8 (w : World) (g : Nat) (xs : List UInt8) : Prop := w.heap[g]? = some (.cells (xs.map v8).toArray 5 (0, 0))
section
variable {w w' : World} {g : Nat} {xs : List UInt8}
theorem Row8.lt (h : Row8 w g xs) : g < w.heap.size := (Array.getElem?_eq_some_iff.1 h).1
theorem Row8.cell (h : Row8 w g xs) {i : Nat} {x : UInt8} (hx : xs[i]? = some x) : w.cell? ⟨g, i, none⟩ = some (v8 x) := by
  rw [cell_of_row w g i _ _ (0, 0) h]; simp [hx]
theorem Row8.frozen (h : Row8 w g xs) (i : Nat) : w.frozen? ⟨g, i, none⟩ = false := by
  unfold Row8 at h; simp [World.frozen?, h]
theorem madeCells8 (c : Nat) : madeCells #[.int .u8 0] c = ((List.replicate c (0 : UInt8)).map v8).toArray := by
  apply Array.ext
  · simp [madeCells]
  · intro i h1 h2
    simp [madeCells, v8, Nat.mod_one]
theorem Row8.made (w : World) (c : Nat) : Row8 (w.alloc (.cells (madeCells #[.int .u8 0] c) 5)) w.heap.size (List.replicate c 0) := by
  rw [madeCells8]; exact heap_alloc_new w _
theorem Row8.alloc (h : Row8 w g xs) (o : Obj) : Row8 (w.alloc o) g xs := (Below.heap_alloc w o g h.lt).trans h
theorem Row8.drew (h : Row8 w g xs) : Row8 w.drew g xs := h
theorem Row8.set (h : Row8 w g xs) (i : Nat) (x : UInt8) : Row8 (w.setCell ⟨g, i, none⟩ (.int .u8 (x.toNat : Int))) g (xs.set i x) := by
  unfold Row8 at h ⊢
  simp [World.setCell, Array.getElem?_modify, h, List.map_set, v8]
theorem Row8.far (h : Row8 w g xs) {p : Addr} (hp : g ≠ p.block) (u : Value) : Row8 (w.setCell p u) g xs := (Below.heap_setCell w p u g hp).trans h
theorem Row8.own (h : Row8 w g xs) {base n : Nat} (hb : base ≤ g) (hn : n ≤ xs.length) (hm : xs.length ≤ maxLen) : Own8 w base (.slice (some ⟨g, 0, none⟩) n xs.length) (xs.take n) := by
  have e : (xs.take n).length = n := by simp; omega
  unfold Own8
  rw [e]
  exact ⟨by simp; omega, .inr ⟨g, xs.length, _, rfl, hb, h, hn, hm, by simp, by simp⟩⟩
theorem Row8.rd (h : Row8 w g xs) {B : Nat} (hB : g < B) : Rd w B (some ⟨g, 0, none⟩) xs.length xs :=
  ⟨rfl, fun _ => ⟨g, 0, rfl, hB, fun j x hx => by rw [Nat.zero_add]; exact h.cell hx⟩⟩
end
theorem info8 : (Try.prog.info? 5).map (fun i => (i.zero, i.size, i.bytes)) = some (some (.int .u8 0), 1, 1) := by kernel_rfl
theorem oneCell8 (xs : List UInt8) : ∀ u ∈ xs.map v8, u.oneCell' = true := by
  intro u hu
  obtain ⟨x, _, rfl⟩ := List.mem_map.1 hu
  rfl
theorem Rd.cells {w : World} {B n : Nat} {A : Option Addr} {xs : List UInt8} (h : Rd w B A n xs) (hn : 0 < n) : ∃ ad, A = some ad ∧ ∀ j v, (xs.map v8)[j]? = some v → w.cell? (ad.add j) = some v := by
  obtain ⟨b, off, e, _, hc⟩ := h.2 hn
  refine ⟨_, e, fun j v hv => ?_⟩
  rw [add_plain]
  rw [List.getElem?_map] at hv
  cases hx : xs[j]? with
  | none => rw [hx] at hv; cases hv
  | some x => rw [hx] at hv; cases hv; exact hc j x hx
section
variable {w : World} {x : UInt8}
/-- A slice of one byte that is laid in a block of its own. -/
theorem Row8.one (w : World) (x : UInt8) : Row8 (w.alloc (.cells #[.int .u8 (x.toNat : Int)] 5)) w.heap.size [x] := heap_alloc_new w _
theorem Rd.one (w : World) (x : UInt8) : Rd (w.alloc (.cells #[.int .u8 (x.toNat : Int)] 5)) (w.heap.size + 1) (some ⟨w.heap.size, 0, none⟩) 1 [x] := (Row8.one w x).rd (by omega)
end
theorem run_append8 (w : World) (ty : TypeId) (base : Nat) (v : Value) (xs : List UInt8) (hown : Own8 w base v xs) (B : Nat) (A : Option Addr) (m c : Nat) (ys : List UInt8) (hr : Rd w B A m ys) (hlen : xs.length + m ≤ 2000000000) (hbase : base ≤ w.heap.size) :
    ∃ v' w', (Builtin.append_ #[72, 72] ty #[v, .slice A m c]).run Try.prog w = .ok v' w' ∧ Own8 w' base v' (xs ++ ys) ∧ w.grownBy w' v.ownBlock ∧ (v'.ownBlock = v.ownBlock ∨ v'.ownBlock = some w.heap.size) := by
  obtain ⟨i0, hi, hz0, hz1, hz2⟩ := info_parts info8
  have go : ∀ ad, A = some ad → (∀ j u, (ys.map v8)[j]? = some u → w.cell? (ad.add j) = some u) → ∃ v' w', (Builtin.append_ #[72, 72] ty #[v, .slice A m c]).run Try.prog w = .ok v' w' ∧ Own8 w' base v' (xs ++ ys) ∧ w.grownBy w' v.ownBlock ∧ (v'.ownBlock = v.ownBlock ∨ v'.ownBlock = some w.heap.size) := by
    rintro ad rfl hc
    obtain ⟨v', w', h1, h2, h3, _, h5⟩ := run_append_own_at (P := Try.prog) w base 72 ty 5 i0 (.int .u8 0) 1 1 Try.underlying72 hi hz0 hz1 hz2 rfl (by decide) v xs.length (xs.map v8) hown ad m c (ys.map v8) (by rw [List.length_map, hr.len, Nat.mul_one]) hc (oneCell8 ys) (by unfold maxLen; omega) (by omega) hbase
    refine ⟨v', w', h1, ?_, h3, h5⟩
    unfold Own8
    rw [List.length_append, hr.len, List.map_append]
    exact h2
  rcases Nat.eq_zero_or_pos m with rfl | hm
  · obtain rfl : ys = [] := List.eq_nil_of_length_eq_zero hr.len
    cases A with
    | some ad => exact go ad rfl (fun j u hj => by simp at hj)
    | none =>
      refine ⟨v, w, ?_, by simpa using hown, World.grownBy.refl w _, .inl rfl⟩
      rcases hown.2 with ⟨rfl, h0⟩ | ⟨g, cap, cur, rfl, _, _, hnc, _⟩
      · simp [Builtin.append_, run_underlying Try.underlying72, sizeOf, typeInfo, hi, Builtin.lenOf, Builtin.firstCells]
      · simp [Builtin.append_, run_underlying Try.underlying72, sizeOf, typeInfo, hi, Builtin.lenOf, Builtin.firstCells, hnc, storeCells]
  · obtain ⟨ad, hA, hc⟩ := hr.cells hm
    exact go ad hA hc
/-- append onto an owned slice of bytes: a law for the walk. -/
theorem wpList_append8 {w : World} {ops : Array Oper} {rest : List Oper} {o : Oper} {a : Act} {Q : Exit → Act → World → Prop} (hgd : o.guard = none) (s x : Operand)
    (ho : o.op = .call { callee := .builtin .append, args := #[s, x], argTypes := #[72, 72] })
    (base : Nat) (v : Value) (xs : List UInt8) (hs : a.eval s = v) (hown : Own8 w base v xs) (B : Nat) (A : Option Addr) (m c : Nat) (ys : List UInt8) (hx : a.eval x = .slice A m c) (hr : Rd w B A m ys)
    (hlen : xs.length + m ≤ 2000000000) (hbase : base ≤ w.heap.size)
    (h : ∀ v' w', Own8 w' base v' (xs ++ ys) → w.grownBy w' v.ownBlock → (v'.ownBlock = v.ownBlock ∨ v'.ownBlock = some w.heap.size) → wpList Try.prog ops Q rest (a.put o.dst v') w') : wpList Try.prog ops Q (o :: rest) a w := by
  refine wpList_plain hgd fun K hK => ?_
  obtain ⟨v', w', hrun, h2, h3, h4⟩ := run_append8 w o.type base v xs hown B A m c ys hr hlen hbase
  unfold Oper.wp execOp
  simp only [ho, resolve, invoke, builtin, Sem.run_bind, Sem.run_pure, Result.andThen_ok, List.map_toArray, List.map_cons, List.map_nil, hs, hx, hrun]
  exact hK _ _ (h v' w' h2 h3 h4)
theorem Own8.lt {w : World} {base : Nat} {v : Value} {xs : List UInt8} (h : Own8 w base v xs) : ∀ g, v.ownBlock = some g → base ≤ g := fun g hg => (World.ownsRow.lt h g hg).1
theorem Own8.kept {w w' : World} {base : Nat} {v : Value} {xs : List UInt8} {row : Option Nat} (h : Own8 w base v xs) (hg : w.grownBy w' row) (hne : v.ownBlock = none ∨ v.ownBlock ≠ row) : Own8 w' base v xs := World.ownsRow.kept h hg hne
end
section
open Go.RowKit Go.Shelf
attribute [local go_sem] Oper.semAt_some
/-- What has come when k rounds are over: f 0, .., f (k - 1). -/
def upto {α : Type} (f : Nat → α) (k : Nat) : List α := (List.range k).map f
theorem upto_succ {α : Type} (f : Nat → α) (k : Nat) : upto f (k + 1) = upto f k ++ [f k] := by simp [upto, List.range_succ]
theorem upto_length {α : Type} (f : Nat → α) (k : Nat) : (upto f k).length = k := by simp [upto]
/-- The j-th pair that Backward hands on: the index from behind, and its byte. -/
def backAt (xs : List UInt8) (j : Nat) : Nat × UInt8 := (xs.length - 1 - j, xs[xs.length - 1 - j]?.getD 0)
theorem backAt_all (xs : List UInt8) : (upto (backAt xs) xs.length).map (·.2) = xs.reverse := by
  apply List.ext_getElem
  · simp [upto]
  · intro i h1 h2
    have hi : i < xs.length := by simpa using h2
    have : xs.length - 1 - i < xs.length := by omega
    simp [upto, backAt, List.getElem_reverse, this]
/-- What a round that goes on keeps: all below n₀, and the box of the slice that is gone through. -/
def KpB (n₀ Bs : Nat) (W W' : World) : Prop := Below n₀ W W' ∧ W'.heap[Bs]? = W.heap[Bs]?
theorem KpB.refl (n₀ Bs : Nat) (W : World) : KpB n₀ Bs W W := ⟨Below.refl _ _, rfl⟩
theorem KpB.trans {n₀ Bs : Nat} {A B C : World} (h : KpB n₀ Bs A B) (k : KpB n₀ Bs B C) : KpB n₀ Bs A C := ⟨h.1.trans k.1, k.2.trans h.2⟩
theorem kpB_b {n₀ Bs : Nat} {w : World} (hn : n₀ ≤ w.heap.size) (hBs : Bs < w.heap.size) (W : World) (l : Nat) (o o' : Obj) (hl : w.heap.size ≤ l) (h : W.heap[l]? = some o) (h1 : o.isCells = false) (h2 : o.isWalk = false) : KpB n₀ Bs W (W.putObj l o') :=
  ⟨belowK_b hn W l o o' hl h h1 h2, (grownBy_putObj' W l o').block Bs (by have := (Array.getElem?_eq_some_iff.1 h).1; omega) (fun e => by cases e; omega)⟩
def encP (x : Nat × UInt8) : Array Value := #[.int .i64 (x.1 : Int), .int .u8 (x.2.toNat : Int)]
set_option maxRecDepth 100000 in
set_option maxHeartbeats 2000000 in
theorem back1_in (F : Fence) (n : Nat) (hF : F.fn 101) (hro : F.round = none) (hn : 1 ≤ n) (l Bs n₀ : Nat) (A : Option Addr) (len cap : Nat) (xs : List UInt8) (hlen : len ≤ 9223372036854775807) (J Jx : List (Nat × UInt8) → World → Prop)
    (hY : ∀ pre x W, J pre W → pre.length < len → YieldAt F (n - 1) Try.prog l (encP x) W fun e W' =>
      (e = .returned (.bool true) ∧ J (pre ++ [x]) W' ∧ KpB n₀ Bs W W') ∨ (e = .returned (.bool false) ∧ Jx (pre ++ [x]) W'))
    (W : World) (hBs : W.cell? ⟨Bs, 0, none⟩ = some (.slice A len cap)) (hc : Rd W n₀ A len xs) (h0 : J [] W) :
    CallsIn F n Try.prog 101 #[.func (.yield l) #[] #[], .pointer (some ⟨Bs, 0, none⟩)] W fun e W' => (∃ v, e = .returned v) ∧
      ((∃ ys, ys = upto (backAt xs) len ∧ J ys W') ∨ (∃ pre, (∃ k, k ≤ len ∧ pre = upto (backAt xs) k) ∧ Jx pre W')) := by
  refine callsIn_of_wp Try.func101 rfl hF ?_ hro
  simp only [Try.ntmps101, List.size_toArray, List.length_cons, List.length_nil, Nat.reduceAdd, Nat.reduceSub, Array.replicate_succ, Array.replicate_zero, List.push_toArray, List.append_toArray, List.nil_append, List.cons_append]
  have HL := Lib.hid hc.len
  gi_wp2
  gi_loopw [3] (fun i wr => ∃ r : Nat, r ≤ len ∧ i = .int .i64 ((r : Int) - 1) ∧ J (upto (backAt xs) (len - r)) wr ∧ KpB n₀ Bs W wr)
    (fun i _ => (intOf i + 1).toNat)
  case atStart => exact ⟨len, Nat.le_refl _, rfl, by simpa [upto] using h0, KpB.refl _ _ _⟩
  case round =>
    obtain ⟨r, hr, rfl, hJs, hnx⟩ := hrel
    have hBx : wr.cell? ⟨Bs, 0, none⟩ = some (.slice A len cap) := (World.cell?_of_block (a := ⟨Bs, 0, none⟩) hnx.2).trans hBs
    rcases r with _ | q
    · have e0 : ((0 : Nat) : Int) - 1 = -1 := rfl
      rw [e0]
      clear e0
      gi_wp2
      go_end0
      exact ⟨⟨_, rfl⟩, .inl ⟨_, rfl, by simpa using hJs⟩⟩
    · have e0 : ((q + 1 : Nat) : Int) - 1 = (q : Int) := by omega
      rw [e0]
      clear e0
      have hxl : xs.length = len := HL.out
      obtain ⟨b, off, rfl, hb, hcs⟩ := hc.2 (by omega)
      have hq : q < xs.length := by omega
      have hbk : backAt xs (len - (q + 1)) = (q, xs[q]) := by
        have : xs.length - 1 - (len - (q + 1)) = q := by omega
        simp [backAt, this, hq]
      have HS : Hid (upto (backAt xs) (len - (q + 1)) ++ [(q, xs[q])] = upto (backAt xs) (len - q)) := by
        show _ = _
        rw [← hbk, ← upto_succ]
        congr 1
        omega
      obtain ⟨x, hx⟩ : ∃ x, xs[q] = x := ⟨_, rfl⟩
      have hcx : wr.cell? ⟨b, off + q, none⟩ = some (.int .u8 (x.toNat : Int)) := by
        rw [← hx]
        exact (hnx.1.cell (p := ⟨b, off + q, none⟩) hb).trans (hcs q _ (List.getElem?_eq_getElem hq))
      rw [hx] at HS
      obtain ⟨fn, tmps, assign, body, hy, hR⟩ := hY _ (q, x) wr hJs (by rw [upto_length]; omega)
      dsimp only [encP] at hy
      have hlt : (q : Int) < (len : Int) := by omega
      have hge : (0 : Int) ≤ (q : Int) := by omega
      clear hxl hx hbk hq
      gi_wp2
      refine hR.mono ?_
      rintro e W3 (⟨rfl, hJ3, hk3⟩ | ⟨rfl, hJx3⟩)
      · gi_wp2
        go_roundw
        case rel => exact ⟨q, by omega, rfl, by rw [← HS.out]; exact hJ3, hnx.trans hk3⟩
        case measure => simp [intOf]
      · gi_wp2
        refine bodyPost_ret (results_none rfl _ _ _) rfl ?_
        exact ⟨⟨_, rfl⟩, .inr ⟨_, ⟨len - q, by omega, HS.out⟩, hJx3⟩⟩
set_option maxHeartbeats 1000000 in
/-- slices.Backward(s): the slice value is boxed; the function value captures the box. -/
theorem back_in (F : Fence) (n : Nat) (hF : F.fn 98) (hro : F.round = none) (a : Option Addr) (len cap : Nat) (w : World) :
    CallsIn F n Try.prog 98 #[.slice a len cap] w fun e w' => e = .returned (.func (.func 101) #[] #[.pointer (some ⟨w.heap.size, 0, none⟩)]) ∧ w' = w.alloc (.cells #[.slice a len cap] 72) := by
  refine callsIn_of_wp Try.func98 rfl hF ?_ hro
  simp only [Try.ntmps98, List.size_toArray, List.length_cons, List.length_nil, Nat.reduceAdd, Nat.reduceSub, Array.replicate_succ, Array.replicate_zero, List.push_toArray, List.append_toArray, List.nil_append, List.cons_append]
  gi_wp2
  go_ret
  exact ⟨rfl, rfl⟩
/-- slices.Backward(s) hands back a value that goes through s from behind: all of it, or a part. -/
theorem back_stops (F : Fence) (n : Nat) (hF : F.fn 101) (hro : F.round = none) (hn : 1 ≤ n) (Bs n₀ : Nat) (A : Option Addr) (len cap : Nat) (xs : List UInt8) (hlen : len ≤ 9223372036854775807) (w : World) (hBs : Bs < w.heap.size) (hn₀ : n₀ ≤ w.heap.size)
    (hc : w.cell? ⟨Bs, 0, none⟩ = some (.slice A len cap)) (hI : Rd w n₀ A len xs) :
    SeqStopsK F n Try.prog 101 #[.pointer (some ⟨Bs, 0, none⟩)] encP (KpB n₀ Bs) (fun ys => ys = upto (backAt xs) len)
      (fun pre => ∃ k, k ≤ len ∧ pre = upto (backAt xs) k) len w := fun l J Jx W hW _ _ hY h0 =>
  back1_in F n hF hro hn l Bs n₀ A len cap xs hlen J Jx hY W ((hW.cell (p := ⟨Bs, 0, none⟩) hBs).trans hc) (hI.below (hW.mono hn₀)) h0
/-- make([]byte, l, c) -/
theorem run_make8 (l c : Nat) (hlc : l ≤ c) (hb : c ≤ 1000000000) (w : World) :
    (Instr.makeSlice 72 (.int .i64 (l : Int)) (.int .i64 (c : Int))).run Try.prog w = .ok (.slice (some ⟨w.heap.size, 0, none⟩) l c) (w.alloc (.cells (madeCells #[.int .u8 0] c) 5)) := by
  obtain ⟨i0, hi, hz0, hz1, hz2⟩ := info_parts info8
  have h := run_make (P := Try.prog) w 72 5 i0 (.int .u8 0) Try.underlying72 hi hz0 .i64 .i64 l c (by omega) (by omega) (by rw [hz2]; omega) (by omega)
  simp only [Int.toNat_natCast, hz1, Nat.mul_one] at h
  exact h
set_option maxRecDepth 100000 in
set_option maxHeartbeats 2000000 in
/-- octet.Turn: a new slice that owns the bytes, the last one first; nothing that lay has turned. -/
theorem turn_in (F : Fence) (n : Nat) (hT : F.fn 90) (hB1 : F.fn 98) (hB2 : F.fn 101) (hro : F.round = none) (hn : 3 ≤ n) (A : Option Addr) (len cap : Nat) (xs : List UInt8) (hlen : len ≤ 1000000000) (w : World) (hI : Rd w w.heap.size A len xs) :
    CallsIn F n Try.prog 90 #[.slice A len cap] w fun e W' => ∃ v, e = .returned v ∧ Own8 W' w.heap.size v xs.reverse ∧ Below w.heap.size w W' := by
  have h1 : 1 ≤ n := by omega
  obtain ⟨i0, hi, hz0, hz1, hz2⟩ := info_parts info8
  have hmk : ∀ W : World, (Instr.makeSlice 72 (.int .i64 0) (.int .i64 (len : Int))).run Try.prog W = _ := run_make8 0 len (Nat.zero_le _) hlen
  refine callsIn_of_wp_marks Try.func90 rfl hT ?_ hro
  simp only [Try.ntmps90, List.size_toArray, List.length_cons, List.length_nil, Nat.reduceAdd, Nat.reduceSub, Array.replicate_succ, Array.replicate_zero, List.push_toArray, List.append_toArray, List.nil_append, List.cons_append]
  gi_wp2_with (gi_at_call 98; refine (back_in F (n - 1) hB1 hro _ _ _ _).mono ?_; rintro e w' ⟨rfl, rfl⟩)
  have bT := Boxed.new (w.alloc (.cells (madeCells #[.int .u8 0] len) 5)) 72 (.slice (some ⟨w.heap.size, 0, none⟩) 0 len)
  rw [World.size_alloc] at bT
  have bS := Boxed.new ((w.alloc (.cells (madeCells #[.int .u8 0] len) 5)).alloc (.cells #[.slice (some ⟨w.heap.size, 0, none⟩) 0 len] 72)) 72 (.slice A len cap)
  simp only [World.size_alloc] at bS
  have hO : (w.alloc (.cells (madeCells #[.int .u8 0] len) 5)).ownsRow w.heap.size 5 1 (.slice (some ⟨w.heap.size, 0, none⟩) 0 len) 0 [] :=
    World.ownsRow_made w _ len (Nat.le_refl _) (by simp [maxLen]; omega) (by simp [size_madeCells])
  have hB0 : Below w.heap.size w (((w.alloc (.cells (madeCells #[.int .u8 0] len) 5)).alloc (.cells #[.slice (some ⟨w.heap.size, 0, none⟩) 0 len] 72)).alloc (.cells #[.slice A len cap] 72)) :=
    (((Below.refl _ w).alloc (Nat.le_refl _) _).alloc (by simp) _).alloc (by simp; omega) _
  refine wpIn_rangeFunc_ownG hro h1 (gf := 101) (lb := #[.pointer (some ⟨w.heap.size + 1 + 1, 0, none⟩)]) rfl hB2 (enters_of Try.func101 (by kernel_rfl) rfl)
    (back_stops F (n - 1) hB2 hro (by omega) (w.heap.size + 1 + 1) w.heap.size A len cap xs (by omega) _ (by simp) (by simp; omega) bS.cell (hI.below hB0)) (fun h k => h.trans k) (kpB_b (by simp; omega) (by simp)) (Below.refl _ _) (fun _ => rfl)
    (fun (pre : List (Nat × UInt8)) W => ((∃ v, Boxed W (w.heap.size + 1) 72 v ∧ W.ownsRow w.heap.size 5 1 v pre.length (pre.map fun p => v8 p.2) ∧ True) ∧ Boxed W (w.heap.size + 1 + 1) 72 (.slice A len cap)) ∧ Below w.heap.size w W)
    (fun _ _ _ => False)
    (OwnFrom.and (OwnFrom.and (Own.from (holdsRow_own w.heap.size (w.heap.size + 1) 72 5 1 (fun (pre : List (Nat × UInt8)) => pre.length) (fun (pre : List (Nat × UInt8)) => pre.map fun p => v8 p.2) (fun _ _ => True)) _) (Own.from (boxed_own _ _ _) _)) (ownFrom_below (Nat.le_refl _) (by simp; omega)))
    (fun _ _ _ _ _ hs _ _ => hs)
    ⟨⟨⟨_, bT.alloc _, (hO.alloc _).alloc _, trivial⟩, bS⟩, hB0⟩
    (fun (x : Nat × UInt8) => { tmps := #[.slice A len cap, undef, .slice none 0 0, .pointer (some ⟨w.heap.size + 1, 0, none⟩), undef, .int .u8 (x.2.toNat : Int), .slice A len cap, .int .i64 (len : Int), .slice (some ⟨w.heap.size, 0, none⟩) 0 len, .slice A len cap,
      .func (.func 101) #[] #[.pointer (some ⟨w.heap.size + 1 + 1, 0, none⟩)], .int .i64 (x.1 : Int), .int .u8 (x.2.toNat : Int), undef, undef, undef, undef, undef], defers := [] }) ?assign ?body ?done ?stop
  case assign =>
    intro l x W K hK
    dsimp only [encP]
    gi_wp2
    exact hK
  case body =>
    rintro l pre ⟨q, x⟩ W ⟨⟨⟨v, hv, hrow, -⟩, hS⟩, hB⟩ hlt
    have hc := hv.cell
    gi_wp2_with (gi_at_builtin; refine wpListIn_append_own _ rfl _ _ 72 rfl w.heap.size 5 i0 (.int .u8 0) 1 1 Try.underlying72 hi hz0 hz1 hz2 rfl (by decide) _ _ _ rfl (hrow.alloc _) ⟨W.heap.size, 0, none⟩ 1 1 [.int .u8 (x.toNat : Int)] rfl rfl (cell_one_new _ _ _) (by simp [Value.oneCell']) (by unfold maxLen; omega) (by omega) (by have := hB.size; simp; omega) ?_; intro v' w1 hown' hgrow _; obtain ⟨g', cap', rfl⟩ := ownsRow_succ hown'; obtain ⟨hv1, hv2, hr2, hk2, hb2⟩ := hv.appended (by decide) hrow hB.size (Nat.le_succ _) hown' hgrow; have hc1 := hv1.cell; have hf1 := hv1.frozen; have hS2 := ((hS.alloc (.cells #[.int .u8 (x.toNat : Int)] 5)).kept hgrow (hS.not_row (by decide) hrow)).other (B' := w.heap.size + 1) (by omega) (.slice (some ⟨g', 0, none⟩) (pre.length + 1) cap'))
    exact ⟨hk2.from _, ⟨hb2, hS2.trans hS.symm⟩, ⟨⟨_, hv2, by simpa [v8] using hr2⟩, hS2⟩, hB.trans hb2⟩
  case done =>
    rintro D ys W hD rfl ⟨⟨⟨v, hv, hrow, -⟩, hS⟩, hB⟩ hK
    have hc := hv.cell
    gi_wp2
    refine ⟨by simp, .inl ⟨_, _, rfl, run_takeDeferred hK, ?_⟩⟩
    refine ⟨_, results_tmp rfl _ _ _, v, rfl, ?_, hB.trans (belowK_b (w := w) (Nat.le_refl _) W D _ _ (by simp at hD; omega) hK rfl rfl)⟩
    have := ownsRow_putObj hrow (.deferred none) hK rfl
    unfold Own8
    rw [← hI.len, upto_length, hI.len] at this
    have e : (upto (backAt xs) len).map (fun p => v8 p.2) = xs.reverse.map v8 := by
      rw [← backAt_all, hI.len, List.map_map]
      rfl
    rw [e] at this
    simpa [hI.len] using this
  case stop =>
    rintro D c pre W _ _ h _
    exact h.elim
end
section
/-- The number that the bytes tell, the highest first. -/
def num (xs : List UInt8) : Nat := xs.foldl (fun n x => 256 * n + x.toNat) 0
/-- The k lowest digits of n in base 256, the lowest first. -/
def dig (n : Nat) : Nat → List UInt8
  | 0 => []
  | k + 1 => UInt8.ofNat n :: dig (n / 256) k
theorem num_snoc (xs : List UInt8) (x : UInt8) : num (xs ++ [x]) = 256 * num xs + x.toNat := by simp [num]
theorem foldl_num (xs : List UInt8) : ∀ n : Nat, xs.foldl (fun n x => 256 * n + x.toNat) n = 256 ^ xs.length * n + num xs := by
  induction xs with
  | nil => intro n; simp [num]
  | cons x xs ih =>
    intro n
    simp only [List.foldl_cons, num, List.length_cons]
    rw [ih, ih]
    rw [Nat.pow_succ, Nat.mul_zero, Nat.mul_add, Nat.mul_add, ← Nat.mul_assoc]
    simp only [Nat.mul_zero, Nat.zero_add]
    omega
theorem num_append (xs ys : List UInt8) : num (xs ++ ys) = 256 ^ ys.length * num xs + num ys := by
  rw [num, List.foldl_append, foldl_num]; rfl
theorem num_cons (x : UInt8) (xs : List UInt8) : num (x :: xs) = 256 ^ xs.length * x.toNat + num xs := by
  have := num_append [x] xs
  simpa [num] using this
theorem num_lt (xs : List UInt8) : num xs < 256 ^ xs.length := by
  induction xs with
  | nil => simp [num]
  | cons x xs ih =>
    rw [num_cons, List.length_cons, Nat.pow_succ]
    have := x.toNat_lt
    have h : 256 ^ xs.length * (x.toNat + 1) ≤ 256 ^ xs.length * 256 := Nat.mul_le_mul_left _ (by omega)
    rw [Nat.mul_add] at h
    omega
theorem pow256_le {k : Nat} (h : k ≤ 8) : 256 ^ k ≤ 18446744073709551616 := by
  have : 256 ^ k ≤ 256 ^ 8 := Nat.pow_le_pow_right (by omega) h
  simpa using this
theorem num_lt64 (xs : List UInt8) (h : xs.length ≤ 8) : num xs < 18446744073709551616 := Nat.lt_of_lt_of_le (num_lt xs) (pow256_le h)
theorem num_snoc_lt (xs : List UInt8) (h : xs.length < 8) : 256 * num xs + 255 < 18446744073709551616 := by
  have := num_lt64 (xs ++ [255]) (by simp; omega)
  rw [num_snoc] at this
  simpa using this
theorem shl_or (n x : Nat) (hx : x < 256) : (n * 256) ||| x = 256 * n + x := by
  have := Nat.shiftLeft_add_eq_or_of_lt (i := 8) (b := x) (by omega) n
  rw [Nat.shiftLeft_eq, show (2 : Nat) ^ 8 = 256 from rfl] at this
  omega
theorem dig_length (k : Nat) : ∀ n, (dig n k).length = k := by
  induction k with
  | zero => intro n; rfl
  | succ k ih => intro n; simp [dig, ih]
theorem dig_snoc (k : Nat) : ∀ n, dig n (k + 1) = dig n k ++ [UInt8.ofNat (n / 256 ^ k)] := by
  induction k with
  | zero => intro n; simp [dig]
  | succ k ih =>
    intro n
    rw [dig, ih, dig]
    simp [Nat.div_div_eq_div_mul, Nat.pow_succ, Nat.mul_comm]
end
section
open Go.RowKit Go.Shelf
attribute [local go_sem] Oper.semAt_some
def firstRF : Code → Option Code
  | .rangeFunc g ps a b => some (.rangeFunc g ps a b)
  | .seq a b => match firstRF a with
    | some c => some c
    | none => firstRF b
  | .block _ c => firstRF c
  | .scope c => firstRF c
  | .cond _ a b => match firstRF a with
    | some c => some c
    | none => firstRF b
  | _ => none
noncomputable def getLoop : Code := (Try.f94.body.bind firstRF).getD .skip
set_option maxRecDepth 100000 in
set_option maxHeartbeats 2000000 in
theorem get_loop (F : Fence) (n : Nat) (hB2 : F.fn 101) (hro : F.round = none) (hn : 4 ≤ n) (A : Option Addr) (len cap : Nat) (xs : List UInt8) (hlen : len ≤ 8) (n₀ N S : Nat) (w w0 : World) (hn₀ : n₀ ≤ N) (hNS : N ≠ S) (hle : n₀ ≤ w.heap.size) (hle0 : n₀ ≤ w0.heap.size)
    (hI : Rd w n₀ A len xs) (bN : Boxed w N 101 (.int .u64 0)) (bS : Boxed w S 72 (.slice A len cap)) (hB0 : Below n₀ w0 w) (v0 v1 v2 v3 v4 v6 v7 v8 v9 v10 v11 v12 v13 v14 v15 : Value)
    (Q : Exit → Act → World → Prop)
    (hQ : ∀ (D : Nat) (W : World) (q : Nat), w.heap.size ≤ D → q = num xs.reverse → Boxed W N 101 (.int .u64 (q : Nat)) → Below n₀ w0 W → W.heap[D]? = some (.deferred (some [])) →
      Q .normal { tmps := #[v0, v1, v2, v3, v4, .pointer (some ⟨N, 0, none⟩), v6, v7, v8, v9, v10, v11, v12, v13, v14, v15, .slice A len cap,
        .func (.func 101) #[] #[.pointer (some ⟨S, 0, none⟩)], undef, undef, undef, undef, undef, undef, undef, undef], defers := [{ target := .collected D, args := #[] }] } W) :
    getLoop.wpIn F n Try.prog Q { tmps := #[v0, v1, v2, v3, v4, .pointer (some ⟨N, 0, none⟩), v6, v7, v8, v9, v10, v11, v12, v13, v14, v15, .slice A len cap,
      .func (.func 101) #[] #[.pointer (some ⟨S, 0, none⟩)], undef, undef, undef, undef, undef, undef, undef, undef], defers := [] } w := by
  have h1 : 1 ≤ n := by omega
  have hN := bN.lt
  have hSl := bS.lt
  refine wpIn_rangeFunc_ownG hro h1 (gf := 101) (lb := #[.pointer (some ⟨S, 0, none⟩)]) rfl hB2 (enters_of Try.func101 (by kernel_rfl) rfl)
    (back_stops F (n - 1) hB2 hro (by omega) S n₀ A len cap xs (by omega) _ hSl hle bS.cell hI) (fun h k => h.trans k) (kpB_b hle hSl) (Below.refl _ _) (fun _ => rfl)
    (fun (pre : List (Nat × UInt8)) W => (Boxed W N 101 (.int .u64 (num (pre.map (·.2)) : Nat)) ∧ Boxed W S 72 (.slice A len cap)) ∧ Below n₀ w0 W)
    (fun _ _ _ => False)
    (OwnFrom.and (OwnFrom.and (Own.from (boxed_own _ _ _) _) (Own.from (boxed_own _ _ _) _)) (ownFrom_below hle0 hle))
    (fun _ _ _ _ _ hs _ _ => hs)
    ⟨⟨bN, bS⟩, hB0⟩
    (fun (x : Nat × UInt8) => { tmps := #[v0, v1, v2, v3, v4, .pointer (some ⟨N, 0, none⟩), v6, .int .u8 (x.2.toNat : Int), v8, v9, v10, v11, v12, v13, v14, v15, .slice A len cap,
      .func (.func 101) #[] #[.pointer (some ⟨S, 0, none⟩)], .int .i64 (x.1 : Int), .int .u8 (x.2.toNat : Int), undef, undef, undef, undef, undef, undef], defers := [] }) ?assign ?body ?done ?stop
  case assign =>
    intro l x W K hK
    dsimp only [encP]
    gi_wp2
    exact hK
  case body =>
    rintro l pre ⟨q, x⟩ W ⟨⟨hv, hS⟩, hB⟩ hlt
    have hc := hv.cell
    have hf := hv.frozen
    have hx := x.toNat_lt
    have hm := num_snoc_lt (pre.map (·.2)) (by simp; omega)
    have hsn : num ((pre ++ [(q, x)]).map (·.2)) = 256 * num (pre.map (·.2)) + x.toNat := by simp [num_snoc]
    have HS := Lib.hid hsn
    clear hsn
    obtain ⟨m, hm0⟩ : ∃ m, num (pre.map (·.2)) = m := ⟨_, rfl⟩
    rw [hm0] at hm HS hc hv
    clear hm0
    have e2 : bits .or .u64 ((m : Int) * 256) (x.toNat : Int) = ((256 * m + x.toNat : Nat) : Int) := by
      have := u64_or_nat (m * 256) x.toNat (by omega) (by omega)
      rw [shl_or _ _ hx, Int.natCast_mul] at this
      exact this
    gi_wp2
    rw [show 256 * (m : Int) + (x.toNat : Int) = ((256 * m + x.toNat : Nat) : Int) from by omega]
    have hv2 : Boxed (W.setCell ⟨N, 0, none⟩ (.int .u64 ((256 * m + x.toNat : Nat) : Int))) N 101 (.int .u64 (num ((pre ++ [(q, x)]).map (·.2)) : Nat)) := by
      rw [HS.out]; exact hv.set _
    have hS2 := hS.other (B' := N) (fun e => hNS e.symm) (.int .u64 ((256 * m + x.toNat : Nat) : Int))
    have hb2 := (Below.refl n₀ W).setCell (p := ⟨N, 0, none⟩) hn₀ (.int .u64 ((256 * m + x.toNat : Nat) : Int))
    exact ⟨(KeepsOthers.setCell _ _ _).from _, ⟨hb2, hS2.trans hS.symm⟩, ⟨hv2, hS2⟩, hB.trans hb2⟩
  case done =>
    rintro D ys W hD rfl ⟨⟨hv, hS⟩, hB⟩ hK
    exact hQ D W _ hD (by rw [← hI.len, backAt_all]) hv hB hK
  case stop =>
    rintro D c pre W _ _ h _
    exact h.elim
theorem Rd.take {w : World} {B n : Nat} {A : Option Addr} {xs : List UInt8} (h : Rd w B A n xs) {k : Nat} (hk : k ≤ n) : Rd w B A k (xs.take k) := by
  refine ⟨by rw [List.length_take, h.1]; omega, fun h0 => ?_⟩
  obtain ⟨b, off, e, hb, hc⟩ := h.2 (by omega)
  refine ⟨b, off, e, hb, fun j x hx => hc j x ?_⟩
  rw [List.getElem?_take] at hx
  split at hx
  · exact hx
  · cases hx
/-- The number that bytes tell, in an order: that of the first eight. -/
def getOf (xs : List UInt8) (big : Bool) : Nat := num (if big then xs.take 8 else (xs.take 8).reverse)
theorem Own8.rd8 {w : World} {base : Nat} {v : Value} {xs : List UInt8} (h : Own8 w base v xs) {k : Nat} (hk : xs.length ≤ k) : ∃ A m c, v = .slice A m c ∧ m ≤ k ∧ Rd w w.heap.size A m xs := by
  obtain ⟨A, c, rfl, _, _, hr, _⟩ := h.rd
  exact ⟨A, _, c, rfl, hk, hr⟩
set_option maxRecDepth 100000 in
set_option maxHeartbeats 2000000 in
/-- octet.Get: the number that the first eight bytes tell. -/
theorem get_in (F : Fence) (n : Nat) (hG : F.fn 94) (hT : F.fn 90) (hB1 : F.fn 98) (hB2 : F.fn 101) (hro : F.round = none) (hn : 4 ≤ n) (A : Option Addr) (len cap : Nat) (xs : List UInt8) (big : Bool) (hlen : len ≤ 1000000000) (hcap : len ≤ cap) (hcap2 : cap ≤ maxLen) (w : World) (hI : Rd w w.heap.size A len xs) :
    CallsIn F n Try.prog 94 #[.slice A len cap, .bool big] w fun e W' => e = .returned (.int .u64 ((num (if big then xs.take 8 else (xs.take 8).reverse) : Nat) : Int)) ∧ Below w.heap.size w W' := by
  have h1 : 1 ≤ n := by omega
  unfold maxLen at hcap2
  have hR := hI.len
  by_cases h8 : len ≤ 8
  · have hI8 : Rd w w.heap.size A len (xs.take 8) := by
      rw [List.take_of_length_le (by omega)]; exact hI
    have h8' : (len : Int) ≤ 8 := by omega
    clear hI hR
    cases big
    · refine callsIn_of_wp_marks Try.func94 rfl hG ?_ hro
      simp only [Try.ntmps94, List.size_toArray, List.length_cons, List.length_nil, Nat.reduceAdd, Nat.reduceSub, Array.replicate_succ, Array.replicate_zero, List.push_toArray, List.append_toArray, List.nil_append, List.cons_append]
      gi_wp2_with (gi_at_call 98; refine (back_in F (n - 1) hB1 hro _ _ _ _).mono ?_; rintro e w' ⟨rfl, rfl⟩)
      have bN := (Boxed.new w 101 (.int .u64 0)).alloc (.cells #[.slice A len cap] 72)
      have bS := Boxed.new (w.alloc (.cells #[.int .u64 0] 101)) 72 (.slice A len cap)
      rw [World.size_alloc] at bS
      have hB0 : Below w.heap.size w ((w.alloc (.cells #[.int .u64 0] 101)).alloc (.cells #[.slice A len cap] 72)) := ((Below.refl _ w).alloc (Nat.le_refl _) _).alloc (by simp) _
      refine get_loop F n hB2 hro hn A len cap (xs.take 8) (by omega) w.heap.size w.heap.size (w.heap.size + 1) _ w (Nat.le_refl _) (by omega) (by simp; omega) (Nat.le_refl _) (hI8.below hB0) bN bS hB0 _ _ _ _ _ _ _ _ _ _ _ _ _ _ _ _ ?_
      intro D W q hD hq hv hB hK
      have HQ := Lib.hid hq
      clear hq
      have hc := hv.cell
      gi_wp2
      refine ⟨by simp, .inl ⟨_, _, rfl, run_takeDeferred hK, ?_⟩⟩
      refine ⟨_, results_tmp rfl _ _ _, ?_, hB.trans (belowK_b (w := w) (Nat.le_refl _) W D _ _ (by simp at hD; omega) hK rfl rfl)⟩
      rw [HQ.out]
      rfl
    · refine callsIn_of_wp_marks Try.func94 rfl hG ?_ hro
      simp only [Try.ntmps94, List.size_toArray, List.length_cons, List.length_nil, Nat.reduceAdd, Nat.reduceSub, Array.replicate_succ, Array.replicate_zero, List.push_toArray, List.append_toArray, List.nil_append, List.cons_append]
      gi_wp2_with (first
        | (gi_at_call 90; refine (turn_in F (n - 1) hT hB1 hB2 hro (by omega) _ _ _ (xs.take 8) (by omega) _ hI8).mono ?_; rintro e w1 ⟨v, rfl, hown, hb1⟩; obtain ⟨A1, m1, c1, rfl, hm1, hrd⟩ := hown.rd8 (k := 8) (by simp; omega))
        | (gi_at_call 98; refine (back_in F (n - 1) hB1 hro _ _ _ _).mono ?_; rintro e w' ⟨rfl, rfl⟩))
      have bN := (Boxed.new w1 101 (.int .u64 0)).alloc (.cells #[.slice A1 m1 c1] 72)
      have bS := Boxed.new (w1.alloc (.cells #[.int .u64 0] 101)) 72 (.slice A1 m1 c1)
      rw [World.size_alloc] at bS
      have hB0 : Below w1.heap.size w1 ((w1.alloc (.cells #[.int .u64 0] 101)).alloc (.cells #[.slice A1 m1 c1] 72)) := ((Below.refl _ w1).alloc (Nat.le_refl _) _).alloc (by simp) _
      have hsz := hb1.size
      refine get_loop F n hB2 hro hn A1 m1 c1 (xs.take 8).reverse (by omega) w1.heap.size w1.heap.size (w1.heap.size + 1) _ w1 (Nat.le_refl _) (by omega) (by simp; omega) (Nat.le_refl _) (hrd.below hB0) bN bS hB0 _ _ _ _ _ _ _ _ _ _ _ _ _ _ _ _ ?_
      intro D W q hD hq hv hB hK
      have HQ := Lib.hid hq
      clear hq
      have hc := hv.cell
      gi_wp2
      refine ⟨by simp, .inl ⟨_, _, rfl, run_takeDeferred hK, ?_⟩⟩
      refine ⟨_, results_tmp rfl _ _ _, ?_, (hb1.trans (hB.mono hsz)).trans (belowK_b (w := w) (Nat.le_refl _) W D _ _ (by simp at hD; omega) hK rfl rfl)⟩
      rw [HQ.out]
      simp
  · have hI8 : Rd w w.heap.size A 8 (xs.take 8) := hI.take (by omega)
    have h8' : (8 : Int) < (len : Int) := by omega
    clear hI hR
    cases big
    · refine callsIn_of_wp_marks Try.func94 rfl hG ?_ hro
      simp only [Try.ntmps94, List.size_toArray, List.length_cons, List.length_nil, Nat.reduceAdd, Nat.reduceSub, Array.replicate_succ, Array.replicate_zero, List.push_toArray, List.append_toArray, List.nil_append, List.cons_append]
      gi_wp2_with (gi_at_call 98; refine (back_in F (n - 1) hB1 hro _ _ _ _).mono ?_; rintro e w' ⟨rfl, rfl⟩)
      have bN := (Boxed.new w 101 (.int .u64 0)).alloc (.cells #[.slice A 8 cap] 72)
      have bS := Boxed.new (w.alloc (.cells #[.int .u64 0] 101)) 72 (.slice A 8 cap)
      rw [World.size_alloc] at bS
      have hB0 : Below w.heap.size w ((w.alloc (.cells #[.int .u64 0] 101)).alloc (.cells #[.slice A 8 cap] 72)) := ((Below.refl _ w).alloc (Nat.le_refl _) _).alloc (by simp) _
      refine get_loop F n hB2 hro hn A 8 cap (xs.take 8) (by omega) w.heap.size w.heap.size (w.heap.size + 1) _ w (Nat.le_refl _) (by omega) (by simp; omega) (Nat.le_refl _) (hI8.below hB0) bN bS hB0 _ _ _ _ _ _ _ _ _ _ _ _ _ _ _ _ ?_
      intro D W q hD hq hv hB hK
      have HQ := Lib.hid hq
      clear hq
      have hc := hv.cell
      gi_wp2
      refine ⟨by simp, .inl ⟨_, _, rfl, run_takeDeferred hK, ?_⟩⟩
      refine ⟨_, results_tmp rfl _ _ _, ?_, hB.trans (belowK_b (w := w) (Nat.le_refl _) W D _ _ (by simp at hD; omega) hK rfl rfl)⟩
      rw [HQ.out]
      rfl
    · refine callsIn_of_wp_marks Try.func94 rfl hG ?_ hro
      simp only [Try.ntmps94, List.size_toArray, List.length_cons, List.length_nil, Nat.reduceAdd, Nat.reduceSub, Array.replicate_succ, Array.replicate_zero, List.push_toArray, List.append_toArray, List.nil_append, List.cons_append]
      gi_wp2_with (first
        | (gi_at_call 90; refine (turn_in F (n - 1) hT hB1 hB2 hro (by omega) _ _ _ (xs.take 8) (by omega) _ hI8).mono ?_; rintro e w1 ⟨v, rfl, hown, hb1⟩; obtain ⟨A1, m1, c1, rfl, hm1, hrd⟩ := hown.rd8 (k := 8) (by simp; omega))
        | (gi_at_call 98; refine (back_in F (n - 1) hB1 hro _ _ _ _).mono ?_; rintro e w' ⟨rfl, rfl⟩))
      have bN := (Boxed.new w1 101 (.int .u64 0)).alloc (.cells #[.slice A1 m1 c1] 72)
      have bS := Boxed.new (w1.alloc (.cells #[.int .u64 0] 101)) 72 (.slice A1 m1 c1)
      rw [World.size_alloc] at bS
      have hB0 : Below w1.heap.size w1 ((w1.alloc (.cells #[.int .u64 0] 101)).alloc (.cells #[.slice A1 m1 c1] 72)) := ((Below.refl _ w1).alloc (Nat.le_refl _) _).alloc (by simp) _
      have hsz := hb1.size
      refine get_loop F n hB2 hro hn A1 m1 c1 (xs.take 8).reverse (by omega) w1.heap.size w1.heap.size (w1.heap.size + 1) _ w1 (Nat.le_refl _) (by omega) (by simp; omega) (Nat.le_refl _) (hrd.below hB0) bN bS hB0 _ _ _ _ _ _ _ _ _ _ _ _ _ _ _ _ ?_
      intro D W q hD hq hv hB hK
      have HQ := Lib.hid hq
      clear hq
      have hc := hv.cell
      gi_wp2
      refine ⟨by simp, .inl ⟨_, _, rfl, run_takeDeferred hK, ?_⟩⟩
      refine ⟨_, results_tmp rfl _ _ _, ?_, (hb1.trans (hB.mono hsz)).trans (belowK_b (w := w) (Nat.le_refl _) W D _ _ (by simp at hD; omega) hK rfl rfl)⟩
      rw [HQ.out]
      simp
end
section
open Go.RowKit Go.Shelf
theorem turn_any (A : Option Addr) (len cap : Nat) (xs : List UInt8) (hlen : len ≤ 1000000000) (w : World) (hI : Rd w w.heap.size A len xs) :
    Calls Try.prog 90 #[.slice A len cap] w fun e W' => ∃ v, e = .returned v ∧ Own8 W' w.heap.size v xs.reverse ∧ Below w.heap.size w W' :=
  callsIn_wide.1 (turn_in Fence.wide 3 trivial trivial trivial rfl (by omega) A len cap xs hlen w hI)
theorem get_any (A : Option Addr) (len cap : Nat) (xs : List UInt8) (big : Bool) (hlen : len ≤ 1000000000) (hcap : len ≤ cap) (hcap2 : cap ≤ maxLen) (w : World) (hI : Rd w w.heap.size A len xs) :
    Calls Try.prog 94 #[.slice A len cap, .bool big] w fun e W' => e = .returned (.int .u64 (getOf xs big : Nat)) ∧ Below w.heap.size w W' :=
  callsIn_wide.1 (get_in Fence.wide 4 trivial trivial trivial trivial rfl (by omega) A len cap xs big hlen hcap hcap2 w hI)
theorem digs_set {n s k : Nat} (hk : k < s) : (dig n k ++ List.replicate (s - k) 0).set k (UInt8.ofNat (n / 256 ^ k)) = dig n (k + 1) ++ List.replicate (s - (k + 1)) 0 := by
  rw [dig_snoc, List.append_assoc]
  rw [List.set_append_right _ _ (by rw [dig_length]; exact Nat.le_refl _), dig_length, Nat.sub_self]
  congr 1
  obtain ⟨m, hm⟩ : ∃ m, s - k = m + 1 := ⟨s - k - 1, by omega⟩
  have hm' : s - (k + 1) = m := by omega
  rw [hm, hm', List.replicate_succ]
  rfl
theorem digs_len (n s k : Nat) (hk : k ≤ s) : (dig n k ++ List.replicate (s - k) (0 : UInt8)).length = s := by
  rw [List.length_append, dig_length, List.length_replicate]; omega
theorem shr_byte (n k : Nat) : ((n : Int) / 2 ^ (8 * k) % 256) = ((UInt8.ofNat (n / 256 ^ k)).toNat : Int) := by
  have e : (2 : Nat) ^ (8 * k) = 256 ^ k := by rw [Nat.pow_mul]
  have e2 : (2 : Int) ^ (8 * k) = ((256 ^ k : Nat) : Int) := by rw [← e, Int.natCast_pow]; rfl
  rw [e2, UInt8.toNat_ofNat']
  omega
set_option maxRecDepth 100000 in
set_option maxHeartbeats 1000000 in
theorem put_mid (n : Nat) (s : Nat) (hs : s ≤ 8) (big : Bool) (w : World) :
    Calls Try.prog 83 #[.int .u64 (n : Int), .int .i64 (s : Int), .bool big] w fun e W' => ∃ v, e = .returned v ∧ Own8 W' w.heap.size v (if big then (dig n s).reverse else dig n s) ∧ Below w.heap.size w W' := by
  have hmk : ∀ W : World, (Instr.makeSlice 72 (.int .i64 (s : Int)) (.int .i64 (s : Int))).run Try.prog W = _ := run_make8 s s (Nat.le_refl _) (by omega)
  have hs' : (s : Int) ≤ 8 := by omega
  have hs0 : (0 : Int) ≤ (s : Int) := by omega
  go_enter Try.func83, Try.ntmps83
  go_wp2_with fail
  go_loopw [15] (fun i wr => ∃ k : Nat, k ≤ s ∧ i = .int .i64 (k : Int) ∧ Row8 wr w.heap.size (dig n k ++ List.replicate (s - k) 0) ∧ Below w.heap.size w wr)
    (fun i _ => s - (intOf i).toNat)
  case atStart => exact ⟨0, Nat.zero_le _, rfl, by simpa [dig] using Row8.made w s, (Below.refl _ _).alloc (Nat.le_refl _) _⟩
  case round =>
    obtain ⟨k, hk, rfl, hrow, hbel⟩ := hrel
    by_cases hlt : k < s
    · have hlt' : (k : Int) < (s : Int) := by omega
      have hk8 : k < 8 := by omega
      have hk0 : (0 : Int) ≤ (k : Int) := by omega
      have hc := hrow.cell (i := k) (List.getElem?_eq_getElem (by rw [digs_len n s k hk]; exact hlt))
      unfold v8 at hc
      have hf := hrow.frozen k
      have hset := hrow.set k (UInt8.ofNat (n / 256 ^ k))
      rw [digs_set hlt, ← shr_byte] at hset
      have hb := hbel.setCell (p := ⟨w.heap.size, k, none⟩) (Nat.le_refl _) (.int .u8 ((n : Int) / 2 ^ (8 * k) % 256))
      clear hrow hbel
      go_wp2_with fail
      go_roundw
      case rel => exact ⟨k + 1, by omega, by go_num, hset, hb⟩
      case measure => simp [intOf]; omega
    · obtain rfl : s = k := by omega
      have hz0 : s - s = 0 := by omega
      rw [hz0, List.replicate_zero, List.append_nil] at hrow
      clear hz0
      have hrd := hrow.rd (B := wr.heap.size) hrow.lt
      have how := hrow.own (base := w.heap.size) (Nat.le_refl _) (Nat.le_refl _) (by rw [dig_length]; unfold maxLen; omega)
      rw [List.take_length] at how
      rw [dig_length] at hrd how
      clear hrow
      have hsz := hbel.size
      cases big
      · go_wp2_with fail
        go_ret
        exact ⟨_, rfl, how, hbel⟩
      · go_wp2_with (go_at_call 90; refine (turn_any _ _ _ _ (by omega) _ hrd).mono ?_; rintro e w1 ⟨v, rfl, hown, hb1⟩)
        go_ret
        exact ⟨_, rfl, hown.base_le hsz, hbel.trans (hb1.mono hsz)⟩
set_option maxRecDepth 100000 in
set_option maxHeartbeats 1000000 in
theorem put_low (n : Nat) (z : Int) (hz : z < 0) (big : Bool) (w : World) :
    Calls Try.prog 83 #[.int .u64 (n : Int), .int .i64 z, .bool big] w fun e W' => ∃ v, e = .returned v ∧ Own8 W' w.heap.size v (if big then (dig n 0).reverse else dig n 0) ∧ Below w.heap.size w W' := by
  have hmk : ∀ W : World, (Instr.makeSlice 72 (.int .i64 0) (.int .i64 0)).run Try.prog W = _ := run_make8 0 0 (Nat.le_refl _) (by omega)
  go_enter Try.func83, Try.ntmps83
  go_wp2_with fail
  go_loopw [15] (fun i wr => ∃ k : Nat, k ≤ 0 ∧ i = .int .i64 (k : Int) ∧ Row8 wr w.heap.size (dig n k ++ List.replicate (0 - k) 0) ∧ Below w.heap.size w wr)
    (fun i _ => 0 - (intOf i).toNat)
  case atStart => exact ⟨0, Nat.zero_le _, rfl, by simpa [dig] using Row8.made w 0, (Below.refl _ _).alloc (Nat.le_refl _) _⟩
  case round =>
    obtain ⟨k, hk, rfl, hrow, hbel⟩ := hrel
    obtain rfl : k = 0 := by omega
    have hz0 : 0 - 0 = 0 := by omega
    rw [hz0, List.replicate_zero, List.append_nil] at hrow
    clear hz0
    have hrd := hrow.rd (B := wr.heap.size) hrow.lt
    have how := hrow.own (base := w.heap.size) (Nat.le_refl _) (Nat.le_refl _) (by rw [dig_length]; unfold maxLen; omega)
    rw [List.take_length] at how
    rw [dig_length] at hrd how
    clear hrow
    have hsz := hbel.size
    cases big
    · go_wp2_with fail
      go_ret
      exact ⟨_, rfl, how, hbel⟩
    · go_wp2_with (go_at_call 90; refine (turn_any _ _ _ _ (by omega) _ hrd).mono ?_; rintro e w1 ⟨v, rfl, hown, hb1⟩)
      go_ret
      exact ⟨_, rfl, hown.base_le hsz, hbel.trans (hb1.mono hsz)⟩
set_option maxRecDepth 100000 in
set_option maxHeartbeats 1000000 in
theorem put_high (n : Nat) (z : Int) (hz : 8 < z) (big : Bool) (w : World) :
    Calls Try.prog 83 #[.int .u64 (n : Int), .int .i64 z, .bool big] w fun e W' => ∃ v, e = .returned v ∧ Own8 W' w.heap.size v (if big then (dig n 8).reverse else dig n 8) ∧ Below w.heap.size w W' := by
  have hmk : ∀ W : World, (Instr.makeSlice 72 (.int .i64 8) (.int .i64 8)).run Try.prog W = _ := run_make8 8 8 (Nat.le_refl _) (by omega)
  have hz0 : (0 : Int) ≤ z := by omega
  go_enter Try.func83, Try.ntmps83
  go_wp2_with fail
  go_loopw [15] (fun i wr => ∃ k : Nat, k ≤ 8 ∧ i = .int .i64 (k : Int) ∧ Row8 wr w.heap.size (dig n k ++ List.replicate (8 - k) 0) ∧ Below w.heap.size w wr)
    (fun i _ => 8 - (intOf i).toNat)
  case atStart => exact ⟨0, Nat.zero_le _, rfl, by simpa [dig] using Row8.made w 8, (Below.refl _ _).alloc (Nat.le_refl _) _⟩
  case round =>
    obtain ⟨k, hk, rfl, hrow, hbel⟩ := hrel
    by_cases hlt : k < 8
    · have hlt' : (k : Int) < 8 := by omega
      have hk8 : k < 8 := by omega
      have hk0 : (0 : Int) ≤ (k : Int) := by omega
      have hc := hrow.cell (i := k) (List.getElem?_eq_getElem (by rw [digs_len n 8 k hk]; exact hlt))
      unfold v8 at hc
      have hf := hrow.frozen k
      have hset := hrow.set k (UInt8.ofNat (n / 256 ^ k))
      rw [digs_set hlt, ← shr_byte] at hset
      have hb := hbel.setCell (p := ⟨w.heap.size, k, none⟩) (Nat.le_refl _) (.int .u8 ((n : Int) / 2 ^ (8 * k) % 256))
      clear hrow hbel
      go_wp2_with fail
      go_roundw
      case rel => exact ⟨k + 1, by omega, by go_num, hset, hb⟩
      case measure => simp [intOf]; omega
    · obtain rfl : k = 8 := by omega
      have hz0 : 8 - 8 = 0 := by omega
      rw [hz0, List.replicate_zero, List.append_nil] at hrow
      clear hz0
      have hrd := hrow.rd (B := wr.heap.size) hrow.lt
      have how := hrow.own (base := w.heap.size) (Nat.le_refl _) (Nat.le_refl _) (by rw [dig_length]; unfold maxLen; omega)
      rw [List.take_length] at how
      rw [dig_length] at hrd how
      clear hrow
      have hsz := hbel.size
      cases big
      · go_wp2_with fail
        go_ret
        exact ⟨_, rfl, how, hbel⟩
      · go_wp2_with (go_at_call 90; refine (turn_any _ _ _ _ (by omega) _ hrd).mono ?_; rintro e w1 ⟨v, rfl, hown, hb1⟩)
        go_ret
        exact ⟨_, rfl, hown.base_le hsz, hbel.trans (hb1.mono hsz)⟩
/-- How many bytes a size stands for. -/
def sizeOf8 (z : Int) : Nat := if z < 0 then 0 else if 8 < z then 8 else z.toNat
/-- The bytes of n, so many, in an order. -/
def bytesOf (n : Nat) (k : Nat) (big : Bool) : List UInt8 := if big then (dig n k).reverse else dig n k
/-- octet.Put: a new slice of the number's lowest digits, in the order that is asked. -/
theorem put_any (n : Nat) (z : Int) (big : Bool) (w : World) :
    Calls Try.prog 83 #[.int .u64 (n : Int), .int .i64 z, .bool big] w fun e W' => ∃ v, e = .returned v ∧ Own8 W' w.heap.size v (bytesOf n (sizeOf8 z) big) ∧ Below w.heap.size w W' := by
  unfold bytesOf sizeOf8
  by_cases h0 : z < 0
  · rw [if_pos h0]; exact put_low n z h0 big w
  · rw [if_neg h0]
    by_cases h8 : 8 < z
    · rw [if_pos h8]; exact put_high n z h8 big w
    · rw [if_neg h8]
      obtain ⟨s, rfl⟩ := Int.eq_ofNat_of_zero_le (show 0 ≤ z by omega)
      rw [Int.toNat_natCast]
      exact put_mid n s (by omega) big w
end
section
open Go.RowKit Go.Shelf
theorem Own8.sl {w : World} {base : Nat} {v : Value} {xs : List UInt8} (h : Own8 w base v xs) : ∃ A m c, v = .slice A m c ∧ m = xs.length ∧ m ≤ c ∧ c ≤ maxLen ∧ Rd w w.heap.size A m xs := by
  obtain ⟨A, c, rfl, h1, h2, hr, _⟩ := h.rd
  exact ⟨A, _, c, rfl, rfl, h1, h2, hr⟩
end
section
open Go.RowKit
section
variable {a b w w' : World} {row : Option Nat}
theorem gb_drew (h : a.grownBy w row) : a.grownBy w.drew row := ⟨h.os, h.tape, h.output, h.size, h.block⟩
theorem gb_trans (h : a.grownBy b row) (k : b.grownBy w row) : a.grownBy w row := World.grownBy.trans h k
/-- A contract that leaves the world, as a drawn region asks it. -/
theorem quiet_same {P : Program} {f : FuncId} {args : Array Value} {n : Nat} {v : Value} (h : Calls P f args (w.drewN n) fun e w' => e = .returned v ∧ w.drewN n = w') :
    Calls P f args (w.drewN n) fun e w' => e = .returned v ∧ ∃ m, w' = w.drewN m :=
  h.mono fun _ _ g => ⟨g.1, n, g.2.symm⟩
end
end
section
end
section
open Go.ChangeShapes Go.WideShapes Go.ChangeAt Go.RowKit
theorem own_knob : ownKnob Try.prog.godebug = none := by kernel_rfl
theorem laid_out : laidOutB Try.prog = true := by kernel_rfl
section
variable {H : Type} {enc : TypeId × Value → H} {P : Program} {w : World} {base : Nat} {spare : Nat → Bool} {held : Bool}
theorem trodAll_len : ∀ {ts : List TypeId} {vs : List Value} {ds : List (DataW H)} {ps : List MemPlace}, DataW.TrodAll enc P w base spare held ts vs ds ps → ds.length = ts.length ∧ vs.length = ts.length
  | [], _, _, _, h => by obtain ⟨rfl, rfl, rfl⟩ := trodAll_nil h; exact ⟨rfl, rfl⟩
  | t :: ts, _, _, _, h => by
    obtain ⟨v, vs', d, ds', p, q, rfl, rfl, rfl, h0, h1⟩ := trodAll_cons h
    obtain ⟨e1, e2⟩ := trodAll_len h1
    simp [e1, e2]
theorem trodAll_below (hl : laidOutB P = true) {W W' : World} (hb : Below W.heap.size W W') : ∀ {ts : List TypeId} {vs : List Value} {ds : List (DataW H)} {ps : List MemPlace}, ts.all (fun t => P.readableRec t && decide (t < P.types.size)) = true →
    DataW.TrodAll enc P W 0 (fun _ => true) true ts vs ds ps → (∀ x ∈ ps, x.block < W.heap.size) → DataW.TrodAll enc P W' 0 (fun b => decide (b < W.heap.size)) true ts vs ds ps
  | [], _, _, _, _, h, _ => by obtain ⟨rfl, rfl, rfl⟩ := trodAll_nil h; exact trodAll_mk0
  | t :: ts, _, _, _, hr, h, hlt => by
    obtain ⟨v, vs', d, ds', p, q, rfl, rfl, rfl, h0, h1⟩ := trodAll_cons h
    simp only [List.all_cons, Bool.and_eq_true, decide_eq_true_eq] at hr
    exact trodAll_cons_mk (Below.trod hl hr.1.1 hr.1.2 h0 hb fun x hx => hlt x (List.mem_append_left _ hx)) (trodAll_below hl hb (by simpa using hr.2) h1 fun x hx => hlt x (List.mem_append_right _ hx))
end
/-- What a law's walk has to show. -/
def WalksTrue (k : Nat) (f : Func) : Prop :=
  ∀ (H : Type) (enc : TypeId × Value → H) (W : World) (base : Nat) (args : Array Value) (ds : List (DataW H)) (p : List MemPlace),
    (∀ (j : Nat) t v, f.params[j]? = some t → args[j]? = some v → Value.okWide Try.prog W .any base t v) →
    DataW.TrodAll enc Try.prog W 0 (fun _ => true) true f.params.toList args.toList ds p →
    Calls Try.prog k args W fun e W' => e = .returned (.bool true) ∧ Below W.heap.size W W'
/-- The lift. -/
theorem law_lift {k : Nat} {f : Func} {s : ChangeSpec} (hf : Try.prog.funcs[k]? = some f) (hin : Try.prog.inits.idxOf? k = none) (hv : s.vars = []) (hres : f.resultTypes = #[4])
    (hsp : ∀ (H : Type) (ds : List (DataW H)), ds.length = f.params.toList.length → (s.fn H ds).results = [.lit (.bool true)] ∧ (s.fn H ds).args = ds ∧ (s.fn H ds).vars = [])
    (hrd : f.params.toList.all (fun t => Try.prog.readableRec t && decide (t < Try.prog.types.size)) = true)
    (hwalk : WalksTrue k f) (os : Os) (started : os.Started) (H : Type) (enc : TypeId × Value → H)
    (witness : ∃ (w : World) (tape : Tape) (i : Input), w.os = os ∧ (w.forCall tape i).Shaped Try.checked.prog ∧ i.vars = [] ∧ Input.okWide Try.checked.prog (w.forCall tape i) .any w.heap.size k i ∧
      s.pre6 enc Try.checked.prog f [] false (w.forCall tape i).memory i.args ∧ ({} : Assume).holds Try.checked.prog (lone (Frame.enter Try.checked.prog k i.args .normal) [] (w.forCall tape i))) :
    ReturnsInHanded {} Try.checked os k .any (s.pre6 enc Try.prog f [] false) (s.post enc Try.prog f false true false false) := by
  refine returnsInHanded_of_change (C := Try.checked) own_knob started hin hf witness ?_
  intro W base args ds gs before hval hW _ _
  have hW' := hW
  obtain ⟨p, q, hA, hV, rfl, hfz, hnd⟩ := hW
  rw [hv] at hV
  obtain ⟨rfl, rfl⟩ := trodVars_none hV
  have hlt : ∀ x ∈ p, x.block < W.heap.size := fun x hx => hW'.lt x (by simpa using hx)
  refine (hwalk H enc W base args ds p hval hA).mono fun e W' ⟨he, bel⟩ => ?_
  subst he
  obtain ⟨r1, r2, r3⟩ := hsp H (ds ++ []) (by rw [List.append_nil]; exact (trodAll_len hA).1)
  refine ⟨_, rfl, ds, [], _, [], p, [], hW', ?_, ?_, ?_, bel.frame _, fun h => by cases h⟩
  · rw [r1, hres]
    exact trodAll_mk1 (shut_bool Try.underlying4 _)
  · rw [r2, List.append_nil]
    exact trodAll_below laid_out bel hrd hA hlt
  · rw [hv, r3]
    rfl
theorem range_i64 {n : Int} (h : (Lit.int .i64 n).wf = true) : -9223372036854775808 ≤ n ∧ n ≤ 9223372036854775807 := by
  simp [Lit.wf, IntKind.min, IntKind.max, IntKind.signed, IntKind.bits] at h; omega
theorem range_u16 {n : Int} (h : (Lit.int .u16 n).wf = true) : 0 ≤ n ∧ n < 65536 := by
  simp [Lit.wf, IntKind.min, IntKind.max, IntKind.signed, IntKind.bits] at h; omega
theorem range_u8 {n : Int} (h : (Lit.int .u8 n).wf = true) : 0 ≤ n ∧ n < 256 := by
  simp [Lit.wf, IntKind.min, IntKind.max, IntKind.signed, IntKind.bits] at h; omega
end
section
/-- Byte i, 0 behind the end. -/
def batN (xs : List UInt8) (i : Nat) : Nat := (xs.getD i 0).toNat
theorem batN_lt (xs : List UInt8) (i : Nat) : batN xs i < 256 := (xs.getD i 0).toNat_lt
/-- The word that begins at byte i. -/
def wat (xs : List UInt8) (i : Nat) : Nat := 256 * batN xs i + batN xs (i + 1)
/-- A number in two bytes. -/
def be2 (n : Nat) : List UInt8 := [UInt8.ofNat (n / 256), UInt8.ofNat (n % 256)]
theorem be2_dig (n : Nat) : (dig n 2).reverse = be2 n := by
  simp only [dig, be2, List.reverse_cons, List.reverse_nil, List.nil_append, List.cons_append]
  congr 2
  apply UInt8.toNat_inj.1
  simp
/-- An address: of IPv6?, its sixteen bytes. -/
structure Ad where
  six : Bool
  b : List UInt8
/-- A header. -/
structure Fr where
  head : Int
  total : Int
  tos : Int
  id : Int
  frag : Bool
  keep : Bool
  ttl : Int
  proto : Int
  s : Ad
  d : Ad
/-- Both addresses have sixteen bytes. -/
structure Fr.Ok (f : Fr) : Prop where
  s : f.s.b.length = 16
  d : f.d.b.length = 16
def z16 : List UInt8 := [0, 0, 0, 0, 0, 0, 0, 0, 0, 0, 0, 0, 0, 0, 0, 0]
def Ad.zero : Ad := ⟨false, z16⟩
def Fr.zero : Fr := ⟨0, 0, 0, 0, false, false, 0, 0, Ad.zero, Ad.zero⟩
/-- Is an address one of IPv4? -/
def shortB (a : Ad) : Bool := !a.six && (a.b.drop 4).all (· == 0)
structure Fr.Good (f : Fr) : Prop where
  head : f.head = 20
  t0 : 20 ≤ f.total
  t1 : f.total ≤ 65535
  frag : f.frag = false
  o0 : 0 ≤ f.tos
  o1 : f.tos ≤ 255
  l0 : 0 ≤ f.ttl
  l1 : f.ttl ≤ 255
  p0 : 0 ≤ f.proto
  p1 : f.proto ≤ 255
  i0 : 0 ≤ f.id
  i1 : f.id ≤ 65535
  s : shortB f.s = true
  d : shortB f.d = true
section
variable (O T I W L P c : Nat) (s d rest : List UInt8)
end
end
section
open Go.RowKit Go.Lib
end
section
open Go.RowKit Go.Lib
/-- The part of a slice from byte k on, n bytes: what it reads as. -/
theorem Rd.part {w : World} {B len : Nat} {A : Option Addr} {xs : List UInt8} (h : Rd w B A len xs) {k n : Nat} (hk : k + n ≤ len) (hn : 0 < n) :
    Rd w B (A.map fun a => a.add k) n ((xs.drop k).take n) := by
  refine ⟨by rw [List.length_take, List.length_drop, h.1]; omega, fun _ => ?_⟩
  obtain ⟨b, off, rfl, hb, hc⟩ := h.2 (by omega)
  refine ⟨b, off + k, by simp [add_plain], hb, fun j x hx => ?_⟩
  rw [show off + k + j = off + (k + j) by omega]
  refine hc (k + j) x ?_
  rw [List.getElem?_take] at hx
  split at hx
  · rw [List.getElem?_drop] at hx; exact hx
  · cases hx
/-- b[l:h] of bytes, the address under one name. -/
def cutA (A : Option Addr) (cap l : Nat) : Option Addr := if cap = l then A else A.map fun a => a.add l
theorem Rd.cut {w : World} {B len : Nat} {A : Option Addr} {xs : List UInt8} (h : Rd w B A len xs) {l n : Nat} (hk : l + n ≤ len) (cap : Nat) (hcap : len ≤ cap) : Rd w B (cutA A cap l) n ((xs.drop l).take n) := by
  unfold cutA
  rcases Nat.eq_zero_or_pos n with rfl | hn
  · rw [List.take_zero]; exact Rd.nil_ _
  · rw [if_neg (by omega)]; exact h.part hk hn
theorem Rd.from {w : World} {B len : Nat} {A : Option Addr} {xs : List UInt8} (h : Rd w B A len xs) {l : Nat} (hk : l ≤ len) (cap : Nat) (hcap : len ≤ cap) : Rd w B (cutA A cap l) (len - l) (xs.drop l) := by
  have := h.cut (l := l) (n := len - l) (by omega) cap hcap
  rwa [List.take_of_length_le (by rw [List.length_drop, h.1]; exact Nat.le_refl _)] at this
theorem run_from8 (A : Option Addr) (len cap l : Nat) (h1 : l ≤ len) (W : World) :
    (Instr.slice 72 (.slice A len cap) (some (.int .i64 (l : Int))) none none).run Try.prog W = .ok (.slice (cutA A cap l) (len - l) (cap - l)) W := by
  obtain ⟨i0, hi, hz0, hz1, hz2⟩ := info_parts info8
  have hb := run_sliceBound (P := Try.prog) (w := W) .i64 (l : Int) len .sliceB (by omega) (by omega)
  simp [Instr.slice, hb, run_underlying Try.underlying72, Instr.sliceBounds, sizeOf, typeInfo, hi, hz1, cutA]
/-- The slice reads as these lists of bytes. -/
def LsAt (w : World) (B : Nat) (A : Option Addr) (len : Nat) (l : List (List UInt8)) : Prop :=
  l.length = len ∧ (0 < len → ∃ b off, A = some ⟨b, off, none⟩ ∧ b < B ∧ ∀ (j : Nat) (xs : List UInt8), l[j]? = some xs →
    ∃ A' n' c', w.cell? ⟨b, off + j, none⟩ = some (.slice A' n' c') ∧ n' ≤ c' ∧ c' ≤ maxLen ∧ Rd w B A' n' xs)
section
variable {w w' : World} {B B' len : Nat} {A : Option Addr} {l : List (List UInt8)}
theorem LsAt.size (h : LsAt w B A len l) : l.length = len := h.1
theorem LsAt.nil_ (A : Option Addr) : LsAt w B A 0 [] := ⟨rfl, fun h => absurd h (by omega)⟩
theorem LsAt.keep (h : LsAt w B A len l) (hk : ∀ p : Addr, p.block < B → w'.cell? p = w.cell? p) : LsAt w' B A len l :=
  ⟨h.1, fun hn => by
    obtain ⟨b, off, e, hb, hc⟩ := h.2 hn
    refine ⟨b, off, e, hb, fun j p hp => ?_⟩
    obtain ⟨A', l', c', h2, h4, h5, h3⟩ := hc j p hp
    exact ⟨A', l', c', (hk _ hb).trans h2, h4, h5, h3.keep hk⟩⟩
theorem LsAt.below (h : LsAt w B A len l) (hb : Below B w w') : LsAt w' B A len l := h.keep fun _ hp => hb.cell hp
theorem LsAt.alloc (h : LsAt w B A len l) (hB : B ≤ w.heap.size) (o : Obj) : LsAt (w.alloc o) B A len l := h.keep fun p hp => World.cell?_alloc_lt w o p (by omega)
theorem LsAt.drewN (h : LsAt w B A len l) (k : Nat) : LsAt (w.drewN k) B A len l := h.keep fun _ _ => rfl
theorem LsAt.more (h : LsAt w B A len l) (hB : B ≤ B') : LsAt w B' A len l :=
  ⟨h.1, fun hn => by
    obtain ⟨b, off, e, hb, hc⟩ := h.2 hn
    refine ⟨b, off, e, by omega, fun j p hp => ?_⟩
    obtain ⟨A', l', c', h2, h4, h5, h3⟩ := hc j p hp
    exact ⟨A', l', c', h2, h4, h5, h3.more hB⟩⟩
theorem LsAt.take (h : LsAt w B A len l) {k : Nat} (hk : k ≤ len) : LsAt w B A k (l.take k) := by
  refine ⟨by rw [List.length_take, h.1]; omega, fun h0 => ?_⟩
  obtain ⟨b, off, e, hb, hc⟩ := h.2 (by omega)
  refine ⟨b, off, e, hb, fun j x hx => hc j x ?_⟩
  rw [List.getElem?_take] at hx
  split at hx
  · exact hx
  · cases hx
end
/-- A slice of one that was just laid in a block of its own. -/
theorem LsAt.one {w : World} {B n c : Nat} {A : Option Addr} {xs : List UInt8} (h : Rd w B A n xs) (hB : B ≤ w.heap.size) (hn : n ≤ c) (hc : c ≤ maxLen) :
    LsAt (w.alloc (.cells #[.slice A n c] 72)) (w.heap.size + 1) (some ⟨w.heap.size, 0, none⟩) 1 [xs] :=
  ⟨rfl, fun _ => ⟨w.heap.size, 0, rfl, by omega, fun j x hx => by
    match j, hx with
    | 0, hx =>
      cases hx
      exact ⟨A, n, c, by rw [cell_of_row _ w.heap.size _ _ _ (0, 0) (heap_alloc_new w _)]; rfl, hn, hc, (h.alloc hB _).more (by omega)⟩⟩⟩
/-- The cells of a row of byte slices read as these lists of bytes. -/
def CellsAt (w : World) (B : Nat) (cs : List Value) (l : List (List UInt8)) : Prop :=
  l.length = cs.length ∧ ∀ (j : Nat) (u : Value) (xs : List UInt8), cs[j]? = some u → l[j]? = some xs → ∃ A' n' c', u = .slice A' n' c' ∧ n' ≤ c' ∧ c' ≤ maxLen ∧ Rd w B A' n' xs
theorem CellsAt.nil_ (w : World) (B : Nat) : CellsAt w B [] [] := ⟨rfl, fun j u xs h _ => by simp at h⟩
theorem CellsAt.cons {w : World} {B n c : Nat} {A : Option Addr} {xs : List UInt8} {cs : List Value} {l : List (List UInt8)} (h : Rd w B A n xs) (hn : n ≤ c) (hc : c ≤ maxLen) (hl : CellsAt w B cs l) : CellsAt w B (.slice A n c :: cs) (xs :: l) :=
  ⟨by simp [hl.1], fun j u ys h1 h2 => by
    match j, h1, h2 with
    | 0, h1, h2 => cases h1; cases h2; exact ⟨A, n, c, rfl, hn, hc, h⟩
    | j + 1, h1, h2 => exact hl.2 j u ys (by simpa using h1) (by simpa using h2)⟩
/-- A row of byte slices that was just laid in a block of its own. -/
theorem CellsAt.laid {w : World} {B : Nat} {cs : List Value} {l : List (List UInt8)} (h : CellsAt w B cs l) (hB : B ≤ w.heap.size) (n : Nat) (hn : cs.length = n) :
    LsAt (w.alloc (.cells cs.toArray 72)) (w.heap.size + 1) (some ⟨w.heap.size, 0, none⟩) n l :=
  ⟨by rw [h.1, hn], fun _ => ⟨w.heap.size, 0, rfl, by omega, fun j x hx => by
    have hj : j < cs.length := by have := (List.getElem?_eq_some_iff.1 hx).1; rw [h.1] at this; exact this
    obtain ⟨A', n', c', e, h1, h2, h3⟩ := h.2 j _ x (List.getElem?_eq_getElem hj) hx
    refine ⟨A', n', c', ?_, h1, h2, (h3.alloc hB _).more (by omega)⟩
    rw [Nat.zero_add, cell_of_row _ w.heap.size j _ _ (0, 0) (heap_alloc_new w _)]
    simp [hj, e]⟩⟩
/-- A block that was just laid: of these bytes. -/
theorem Rd.laid (w : World) (xs : List UInt8) (n : Nat) (hn : xs.length = n) : Rd (w.alloc (.cells (xs.map v8).toArray 5)) (w.heap.size + 1) (some ⟨w.heap.size, 0, none⟩) n xs := by
  subst hn
  exact (show Row8 (w.alloc (.cells (xs.map v8).toArray 5)) w.heap.size xs from heap_alloc_new w _).rd (by omega)
theorem CellsAt.one {w : World} {B n c : Nat} {A : Option Addr} {xs : List UInt8} (h : Rd w B A n xs) (hn : n ≤ c) (hc : c ≤ maxLen) : CellsAt w B [.slice A n c] [xs] := (CellsAt.nil_ w B).cons h hn hc
theorem small_max {n : Nat} (h : n ≤ 1000) : n ≤ maxLen := by unfold maxLen; omega
end
section
open Go.RowKit Go.Lib
theorem LsAt.at {w : World} {B n : Nat} {A : Option Addr} {l : List (List UInt8)} (h : LsAt w B A n l) {k : Nat} {xs : List UInt8} (hx : l[k]? = some xs) :
    ∃ b off A' n' c', A = some ⟨b, off, none⟩ ∧ w.cell? ⟨b, off + k, none⟩ = some (.slice A' n' c') ∧ Rd w B A' n' xs := by
  have hk := (List.getElem?_eq_some_iff.1 hx).1
  obtain ⟨b, off, e, _, hc⟩ := h.2 (by rw [← h.1]; omega)
  obtain ⟨A', n', c', h1, _, _, h2⟩ := hc k xs hx
  exact ⟨b, off, A', n', c', e, h1, h2⟩
theorem flat_drop {l : List (List UInt8)} {k : Nat} {xs : List UInt8} (h : l[k]? = some xs) : (l.drop k).flatten = xs ++ (l.drop (k + 1)).flatten := by
  obtain ⟨hl, he⟩ := List.getElem?_eq_some_iff.1 h
  rw [List.drop_eq_getElem_cons hl, he, List.flatten_cons]
end
section
open Go.RowKit Go.Lib
/-- A whole number as a cell's value. -/
def vI (x : Nat) : Value := .int .i64 (x : Int)
/-- The slice reads as these numbers. -/
def RdI (w : World) (B : Nat) (A : Option Addr) (n : Nat) (xs : List Nat) : Prop :=
  xs.length = n ∧ (0 < n → ∃ b off, A = some ⟨b, off, none⟩ ∧ b < B ∧ ∀ (j : Nat) (x : Nat), xs[j]? = some x → w.cell? ⟨b, off + j, none⟩ = some (vI x))
section
variable {w w' : World} {B B' n : Nat} {A : Option Addr} {xs : List Nat}
theorem RdI.len (h : RdI w B A n xs) : xs.length = n := h.1
theorem RdI.nil_ (A : Option Addr) : RdI w B A 0 [] := ⟨rfl, fun h => absurd h (by omega)⟩
theorem RdI.keep (h : RdI w B A n xs) (hk : ∀ p : Addr, p.block < B → w'.cell? p = w.cell? p) : RdI w' B A n xs :=
  ⟨h.1, fun hn => by
    obtain ⟨b, off, e, hb, hc⟩ := h.2 hn
    exact ⟨b, off, e, hb, fun j x hx => (hk _ hb).trans (hc j x hx)⟩⟩
theorem RdI.below (h : RdI w B A n xs) (hb : Below B w w') : RdI w' B A n xs := h.keep fun _ hp => hb.cell hp
theorem RdI.alloc (h : RdI w B A n xs) (hB : B ≤ w.heap.size) (o : Obj) : RdI (w.alloc o) B A n xs := h.keep fun p hp => World.cell?_alloc_lt w o p (by omega)
theorem RdI.addr (h : RdI w B A n xs) (hn : 0 < n) : ∃ b off, A = some ⟨b, off, none⟩ ∧ b < B := by
  obtain ⟨b, off, e, hb, _⟩ := h.2 hn
  exact ⟨b, off, e, hb⟩
theorem RdI.cell {b off : Nat} (h : RdI w B (some ⟨b, off, none⟩) n xs) {k x : Nat} (hx : xs[k]? = some x) : w.cell? ⟨b, off + k, none⟩ = some (.int .i64 (x : Int)) := by
  have := (List.getElem?_eq_some_iff.1 hx).1
  obtain ⟨b', off', e, _, hc⟩ := h.2 (by rw [← h.1]; omega)
  cases e
  exact hc k x hx
end
/-- The slice value v owns, in a row of the call's own from block 'base' on, these numbers. -/
def OwnI (w : World) (base : Nat) (v : Value) (xs : List Nat) : Prop := w.ownsRow base 3 1 v xs.length (xs.map vI)
section
variable {w w' : World} {base : Nat} {v : Value} {xs : List Nat}
theorem OwnI.nil_ (w : World) (base : Nat) : OwnI w base (.slice none 0 0) [] := World.ownsRow_nil w base 3 1
theorem OwnI.alloc (h : OwnI w base v xs) (o : Obj) : OwnI (w.alloc o) base v xs := World.ownsRow.alloc h o
theorem OwnI.lt (h : OwnI w base v xs) : ∀ g, v.ownBlock = some g → base ≤ g := fun g hg => (World.ownsRow.lt h g hg).1
theorem OwnI.sl (h : OwnI w base v xs) : ∃ A m c, v = .slice A m c ∧ m = xs.length ∧ m ≤ c ∧ c ≤ maxLen ∧ RdI w w.heap.size A m xs := by
  rcases h.2 with ⟨rfl, h0⟩ | ⟨g, cap, cur, rfl, hbg, hg, hnc, hcm, hcs, ht⟩
  · have : xs = [] := List.eq_nil_of_length_eq_zero h0
    subst this
    exact ⟨none, 0, 0, rfl, rfl, Nat.le_refl _, by simp [maxLen], RdI.nil_ _⟩
  · refine ⟨_, _, cap, rfl, rfl, hnc, hcm, rfl, fun _ => ⟨g, 0, rfl, (Array.getElem?_eq_some_iff.1 hg).1, fun j x hx => ?_⟩⟩
    have := World.ownsRow.cells h (g := g) rfl j (vI x) (by simp [hx])
    rw [add_plain] at this
    exact this
end
theorem OwnI.form {w : World} {base : Nat} {v : Value} {xs : List Nat} (h : OwnI w base v xs) : ∃ A m c, v = .slice A m c := by
  obtain ⟨A, m, c, e, _⟩ := h.sl
  exact ⟨A, m, c, e⟩
end
section
open Go.RowKit Go.Lib
end
section
open Go.RowKit Go.Lib
theorem size8 : (Try.prog.info? 5).map (·.size) = some 1 := by kernel_rfl
theorem range_keep {w w' : World} {b o B : Nat} {cs : List Value} (h : w.rangeAt b o cs) (hlt : b < B) (hb : Below B w w') : w'.rangeAt b o cs := fun j v hv => (hb.cell (p := ⟨b, o + j, none⟩) hlt).trans (h j v hv)
theorem range_rd {w : World} {b o B n : Nat} {xs : List UInt8} (h : w.rangeAt b o (xs.map v8)) (hn : xs.length = n) (hB : b < B) : Rd w B (some ⟨b, o, none⟩) n xs :=
  ⟨hn, fun _ => ⟨b, o, rfl, hB, fun j x hx => h j _ (by rw [List.getElem?_map, hx]; rfl)⟩⟩
theorem below_setRow {B : Nat} {w0 w : World} (h : Below B w0 w) {g : Nat} (hg : B ≤ g) (ds : Array Value) : Below B w0 (w.setRow g ds) :=
  ⟨h.os, h.tape, h.output, by rw [World.setRow]; simpa using h.size, fun k hk => by rw [setRow_other w g k ds (by omega)]; exact h.block k hk⟩
theorem Rd.cellD {w : World} {B n : Nat} {xs : List UInt8} {b off : Nat} (h : Rd w B (some ⟨b, off, none⟩) n xs) {k : Nat} (hk : k < n) : w.cell? ⟨b, off + k, none⟩ = some (.int .u8 (batN xs k : Int)) := by
  have := h.cell hk
  unfold batN
  rw [List.getD, List.getElem?_eq_getElem (by rw [h.len]; exact hk)]
  exact this
theorem v8_of (n : Nat) (h : n < 256) : v8 (UInt8.ofNat n) = .int .u8 (n : Int) := by
  unfold v8
  rw [UInt8.toNat_ofNat', Nat.mod_eq_of_lt h]
/-- The cells of an address, of a header. -/
def adL (a : Ad) : List Value := .bool a.six :: a.b.map v8
theorem sizeAd : (Try.prog.info? 24).map (·.size) = some 17 := by kernel_rfl
theorem results_cell0 {fn : Func} {p : Tmp} {ty : TypeId} (h : fn.results = #[.cell p ty]) (tmps : Array Value) (P : Program) (w : World) :
    (results fn tmps).run P w = ((asAddr (tmps.getD p undef)).run P w).andThen fun a w₁ => (loadVar ty a).run P w₁ := by
  simp only [results, h]
  simp [Sem.run_bind, Result.andThen]
theorem sixteen {xs : List UInt8} (h : xs.length = 16) : ∃ a b c d e f g i j k l m n o p q, xs = [a, b, c, d, e, f, g, i, j, k, l, m, n, o, p, q] := by
  match xs, h with
  | [a, b, c, d, e, f, g, i, j, k, l, m, n, o, p, q], _ => exact ⟨a, b, c, d, e, f, g, i, j, k, l, m, n, o, p, q, rfl⟩
theorem info_16 : ∃ i, Try.prog.info? 22 = some i := info_of_underlying Try.underlying22
theorem info_ad : ∃ i, Try.prog.info? 24 = some i := info_of_underlying Try.underlying24
theorem cells_u8' : Try.prog.cellsOf 5 = 1 := by kernel_rfl
theorem cells_16' : Try.prog.cellsOf 22 = 16 := by kernel_rfl
theorem cells_ad' : Try.prog.cellsOf 24 = 17 := by kernel_rfl
theorem plain_u8 : Try.prog.plainKey 5 = true := by kernel_rfl
theorem plain_int : Try.prog.plainKey 3 = true := by kernel_rfl
theorem plain_bool : Try.prog.plainKey 4 = true := by kernel_rfl
theorem run_eq8 (w : World) (d : Nat) (x y : UInt8) : (Op.equalIn (d + 1) 5 (v8 x) (v8 y)).run Try.prog w = .ok (decide (x = y)) w := by
  unfold v8
  rw [run_equalIn_int w d 5 .u8 _ _ _ Try.underlying5]
  congr 1
  have : ((x.toNat : Int) == (y.toNat : Int)) = decide ((x.toNat : Int) = (y.toNat : Int)) := rfl
  rw [this]
  congr 1
  apply propext
  constructor
  · intro h
    exact UInt8.toNat_inj.1 (by omega)
  · intro h
    rw [h]
theorem all_range {xs ys : List UInt8} {n : Nat} (hx : xs.length = n) (hy : ys.length = n) : ((List.range n).all fun i => decide (xs[i]? = ys[i]?)) = decide (xs = ys) := by
  apply Bool.eq_iff_iff.2
  rw [List.all_eq_true, decide_eq_true_eq]
  constructor
  · intro h
    apply List.ext_getElem?
    intro i
    by_cases hi : i < n
    · exact of_decide_eq_true (h i (List.mem_range.2 hi))
    · rw [List.getElem?_eq_none (by omega), List.getElem?_eq_none (by omega)]
  · intro h i _
    rw [h]
    simp
theorem under_ad : Try.prog.underlying 24 = some (.struct (Try.prog.fieldsOf 24)) := by kernel_rfl
theorem held_ad : Try.prog.stoodInHeld 24 = false := by kernel_rfl
/-- Fields compared, one behind the other. -/
theorem run_fields (w : World) (d : Nat) (xs ys : Array Value) (g : Nat → Bool) : ∀ (fs : List Field) (k : Nat), (∀ j f, fs[j]? = some f → f.name ≠ "_" ∧ ∃ a b, (part f.type xs f.offset).run Try.prog w = .ok a w ∧ (part f.type ys f.offset).run Try.prog w = .ok b w ∧ (Op.equalIn d f.type a b).run Try.prog w = .ok (g (k + j)) w) →
    (Op.eqFields d xs ys fs).run Try.prog w = .ok ((List.range' k fs.length).all g) w
  | [], k, _ => by simp [Op.eqFields]
  | f :: fs, k, h => by
    obtain ⟨hn, a, b, pa, pb, he⟩ := h 0 f rfl
    have ih := run_fields w d xs ys g fs (k + 1) (fun j f' hj => by
      have := h (j + 1) f' (by simpa using hj)
      rwa [show k + 1 + j = k + (j + 1) by omega])
    simp only [Op.eqFields, hn, ne_eq, not_false_eq_true, if_true, Sem.run_bind, pa, pb, he, Result.andThen_ok, List.length_cons, List.range'_succ, List.all_cons]
    cases hg : g k
    · simp
    · simpa using ih
/-- Two addresses are alike. -/
def adB (a b : Ad) : Bool := a.six == b.six && decide (a.b = b.b)
theorem fields_ad : ∃ o0 o1 : Nat, (Try.prog.fieldsOf 24).toList = [⟨ "Six", 4, 0, false, "", "", o0⟩, ⟨ "B", 22, 1, false, "", "", o1⟩] :=
  ⟨((Try.prog.fieldsOf 24).toList[0]?.map (·.byteOffset)).getD 0, ((Try.prog.fieldsOf 24).toList[1]?.map (·.byteOffset)).getD 0, by kernel_rfl⟩
theorem Own8.frozen {w : World} {base g n c : Nat} {xs : List UInt8} (h : Own8 w base (.slice (some ⟨g, 0, none⟩) n c) xs) (j : Nat) : w.frozen? ⟨g, j, none⟩ = false := by
  rcases h.2 with ⟨e, _⟩ | ⟨g', cap', cur, e, _, hg, _⟩
  · cases e
  · cases e
    exact frozen_of_row w g j cur _ hg
def adC (a : Ad) : Value := .agg (adL a).toArray
theorem adL_len {a : Ad} (h : a.b.length = 16) : (adL a).length = 17 := by simp [adL, h]
theorem adL_one (a : Ad) : ∀ v ∈ adL a, v.oneCell' = true := by
  intro v hv
  unfold adL at hv
  rcases List.mem_cons.1 hv with rfl | hv
  · rfl
  · exact oneCell8 _ v hv
theorem info_u8 : ∃ i, Try.prog.info? 5 = some i := by
  cases h : Try.prog.info? 5 with
  | none => have := size8; rw [h] at this; cases this
  | some i => exact ⟨i, rfl⟩
theorem run_items8 (w : World) (d : Nat) (xs ys : List UInt8) (hl : ys.length = xs.length) : ∀ is : List Nat, (∀ i ∈ is, i < xs.length) → (Op.eqItems (d + 1) 5 1 (xs.map v8).toArray (ys.map v8).toArray is).run Try.prog w = .ok (is.all fun i => decide (xs[i]? = ys[i]?)) w
  | [], _ => by simp [Op.eqItems]
  | i :: is, h => by
    have hi := h i (by simp)
    have hi' : i < ys.length := by omega
    have hx : (xs.map v8).toArray[i * 1]? = some (v8 xs[i]) := by simp [hi]
    have hy : (ys.map v8).toArray[i * 1]? = some (v8 ys[i]) := by simp [hi']
    simp only [Op.eqItems, Sem.run_bind, run_part_plain w plain_u8 hx, run_part_plain w plain_u8 hy, Result.andThen_ok, run_eq8]
    have ih := run_items8 w d xs ys hl is fun j hj => h j (by simp [hj])
    by_cases e : xs[i] = ys[i]
    · simp only [e, decide_true, Bool.not_true, Bool.false_eq_true, if_false]
      rw [ih]
      simp [List.getElem?_eq_getElem hi, List.getElem?_eq_getElem hi', e]
    · simp only [e, decide_false, Bool.not_false, if_true, Sem.run_pure]
      simp [List.getElem?_eq_getElem hi, List.getElem?_eq_getElem hi', e]
theorem part16 (w : World) {cs : List Value} {xs : List UInt8} {o : Nat} (h : (cs.drop o).take 16 = xs.map v8) : (part 22 cs.toArray o).run Try.prog w = .ok (.agg (xs.map v8).toArray) w := by
  obtain ⟨i, hi⟩ := info_16
  have e : cs.toArray.extract o (o + 16) = (xs.map v8).toArray := by
    rw [← h]; simp [List.extract_eq_take_drop]
  unfold part isAgg
  simp only [Sem.run_bind, run_underlying Try.underlying22, Result.andThen_ok, Sem.run_pure, if_true, run_sizeOf w hi, cells_16', e]
theorem part_bool (w : World) {cs : List Value} {v : Value} {o : Nat} (h : cs[o]? = some v) : (part 4 cs.toArray o).run Try.prog w = .ok v w := run_part_plain w plain_bool (by simpa using h)
theorem part_int (w : World) {cs : List Value} {v : Value} {o : Nat} (h : cs[o]? = some v) : (part 3 cs.toArray o).run Try.prog w = .ok v w := run_part_plain w plain_int (by simpa using h)
theorem adB_refl (a : Ad) : adB a a = true := by simp [adB]
theorem adB_eq {a b : Ad} : adB a b = true ↔ a = b := by
  obtain ⟨s, x⟩ := a
  obtain ⟨t, y⟩ := b
  simp [adB]
theorem sizeAdL {a : Ad} (h : a.b.length = 16) : (Try.prog.info? 24).map (·.size) = some (adL a).length := by rw [adL_len h]; exact sizeAd
theorem run_eq16 (w : World) (d : Nat) {xs ys : List UInt8} (hx : xs.length = 16) (hy : ys.length = 16) : (Op.equalIn (d + 2) 22 (.agg (xs.map v8).toArray) (.agg (ys.map v8).toArray)).run Try.prog w = .ok (decide (xs = ys)) w := by
  obtain ⟨i, hi⟩ := info_u8
  rw [show d + 2 = (d + 1) + 1 from rfl, run_equalIn_array w (d + 1) _ _ Try.underlying22 hi, cells_u8', run_items8 w d xs ys (by omega) _ (fun i hi => by rw [hx]; exact List.mem_range.1 hi)]
  rw [all_range hx hy]
theorem part_ad (w : World) {cs : List Value} {a : Ad} {o : Nat} (h : (cs.drop o).take 17 = adL a) : (part 24 cs.toArray o).run Try.prog w = .ok (adC a) w := by
  obtain ⟨i, hi⟩ := info_ad
  have e : cs.toArray.extract o (o + 17) = (adL a).toArray := by
    rw [← h]; simp [List.extract_eq_take_drop]
  unfold part isAgg
  simp only [Sem.run_bind, run_underlying Try.underlying24, Result.andThen_ok, Sem.run_pure, if_true, run_sizeOf w hi, cells_ad', e, adC]
theorem run_eq_ad (w : World) (d : Nat) {a b : Ad} (ha : a.b.length = 16) (hb : b.b.length = 16) : (Op.equalIn (d + 3) 24 (adC a) (adC b)).run Try.prog w = .ok (adB a b) w := by
  have pa := part_bool w (cs := adL a) (o := 0) rfl
  have pb := part_bool w (cs := adL b) (o := 0) rfl
  have qa := part16 w (cs := adL a) (xs := a.b) (o := 1) (by simp [adL, ha, List.take_of_length_le])
  have qb := part16 w (cs := adL b) (xs := b.b) (o := 1) (by simp [adL, hb, List.take_of_length_le])
  have e16 := run_eq16 w d ha hb
  have eb : (Op.equalIn (d + 2) 4 (.bool a.six) (.bool b.six)).run Try.prog w = .ok (a.six == b.six) w := run_equalIn_bool' w (d + 1) 4 a.six b.six Try.underlying4
  unfold adC
  rw [show d + 3 = (d + 2) + 1 from rfl, run_equalIn_agg w (d + 2) _ _ _ under_ad held_ad]
  obtain ⟨o0, o1, hf⟩ := fields_ad
  rw [hf, run_fields w (d + 2) _ _ (fun i => if i = 0 then a.six == b.six else decide (a.b = b.b)) _ 0 ?_]
  · simp [adB, List.range']
  · intro j f hj
    match j, hj with
    | 0, hj => cases hj; exact ⟨show ("Six" : String) ≠ "_" by decide, _, _, pa, pb, eb⟩
    | 1, hj => cases hj; exact ⟨show ("B" : String) ≠ "_" by decide, _, _, qa, qb, e16⟩
end
end Go.Proofs.Ytfbiinipiklkaaa
