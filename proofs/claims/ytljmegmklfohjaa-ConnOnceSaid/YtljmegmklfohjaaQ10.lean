/-
  Several texts in one: PConcat PPseudo PAddr PRPseudo PMath PSmall PCell PRead PRRead PTwo PFill PRSums PRFill.
-/
import Derived.Lib.AppendZeros
import Derived.Deep.QuietTactic
import Derived.Deep.RegionLaw
import Derived.BigQuiet
import Derived.Lib.VarintBits
import Derived.Laws.CopyOwn
import Derived.Deep.MidRow
import Derived.Laws.ResultCell
import Derived.BigFrame
import Derived.DeepKeys
import Derived.Laws.StructEq
import Derived.Great.BuildSlice
import Derived.Test.YtljmegmklfohjaaTK
import Derived.Test.YtljmegmklfohjaaQB
namespace Go.Proofs.Ytljmegmklfohjaa
set_option maxRecDepth 100000
section
open Go.RowKit Go.Lib
end
section
open Go.RowKit Go.Lib
end
section
open Go.RowKit Go.Lib Go.ChangeShapes Go.WideShapes Go.ChangeAt
section
variable {H : Type} {enc : TypeId × Value → H} {W : World}
theorem one_of_take {cs : List Value} {i : Nat} {v : Value} (h : (cs.drop i).take 1 = [v]) : cs[i]? = some v := by
  have := congrArg (·[0]?) h
  simpa using this
end
end
section
open Go.RowKit Go.Lib
end
section
open Go.RowKit Go.Lib
/-- How many bytes the TCP header has, by what it tells. -/
def hlN (xs : List UInt8) : Nat := 4 * (batN xs 12 / 16)
/-- Why no segment begins there. -/
def faultT (xs : List UInt8) : Nat := if xs.length < 20 then 2 else if hlN xs < 20 then 3 else if xs.length < hlN xs then 2 else 0
def faultU (xs : List UInt8) : Nat := if xs.length < 8 then 2 else if wat xs 4 < 8 then 3 else if xs.length < wat xs 4 then 2 else 0
def faultP (n : Int) (xs : List UInt8) : Nat := if n = 6 then faultT xs else if n = 17 then faultU xs else 5
/-- A header. -/
structure Po where
  s : Nat
  d : Nat
  f : Nat
  h : Nat
  t : Nat
def Po.zero : Po := ⟨0, 0, 0, 0, 0⟩
def poT (xs : List UInt8) : Po := ⟨wat xs 0, wat xs 2, batN xs 13 % 64, hlN xs, xs.length⟩
def poU (xs : List UInt8) : Po := ⟨wat xs 0, wat xs 2, 0, 8, wat xs 4⟩
def rdP (n : Int) (xs : List UInt8) : Po := if faultP n xs = 0 then (if n = 6 then poT xs else poU xs) else Po.zero
section
variable {six : Bool} {a b : List UInt8} {u : Bool} {xs : List UInt8}
end
end
section
open Go.RowKit Go.Lib
/-- The row of an owned slice. -/
theorem Own8.row {w : World} {base g N C : Nat} {ys : List UInt8} (h : Own8 w base (.slice (some ⟨g, 0, none⟩) N C) ys) :
    ∃ L : List Value, w.heap[g]? = some (.cells L.toArray 5 (0, 0)) ∧ L.length = C ∧ N ≤ C ∧ C ≤ maxLen ∧ base ≤ g ∧ L.take N = ys.map v8 := by
  obtain ⟨hl, h⟩ := h
  rcases h with ⟨e, _⟩ | ⟨g', cap, cur, e, hb, hg, hn, hm, hs, ht⟩
  · cases e
  · obtain ⟨rfl, hN, rfl⟩ : g = g' ∧ N = ys.length ∧ C = cap := by cases e; exact ⟨rfl, rfl, rfl⟩
    subst hN
    exact ⟨cur.toList, by simpa using hg, by simpa using hs, hn, hm, hb, by simpa using ht⟩
end
section
open Go.RowKit Go.Lib
/-- Block g is a row of just these cells, of type T. -/
def Blk_10 (w : World) (T : TypeId) (g : Nat) (cs : List Value) : Prop := w.heap[g]? = some (.cells cs.toArray T (0, 0))
section
variable {w w' : World} {T : TypeId} {g : Nat} {cs : List Value}
theorem Blk_10.lt (h : Blk_10 w T g cs) : g < w.heap.size := (Array.getElem?_eq_some_iff.1 h).1
theorem Blk_10.new (w : World) (T : TypeId) (cs : List Value) : Blk_10 (w.alloc (.cells cs.toArray T)) T w.heap.size cs := heap_alloc_new w _
theorem Blk_10.alloc (h : Blk_10 w T g cs) (o : Obj) : Blk_10 (w.alloc o) T g cs := (Below.heap_alloc w o g h.lt).trans h
theorem Blk_10.drew (h : Blk_10 w T g cs) : Blk_10 w.drew T g cs := h
theorem Blk_10.below (h : Blk_10 w T g cs) {B : Nat} (hB : g < B) (hb : Below B w w') : Blk_10 w' T g cs := (hb.block g hB).trans h
theorem Blk_10.cell (h : Blk_10 w T g cs) {i : Nat} {v : Value} (hv : cs[i]? = some v) : w.cell? ⟨g, i, none⟩ = some v := by
  rw [cell_of_row w g i _ _ (0, 0) h]; simpa using hv
theorem Blk_10.frozen (h : Blk_10 w T g cs) (i : Nat) : w.frozen? ⟨g, i, none⟩ = false := by
  unfold Blk_10 at h; simp [World.frozen?, h]
theorem Blk_10.set (h : Blk_10 w T g cs) (i : Nat) (v : Value) : Blk_10 (w.setCell ⟨g, i, none⟩ v) T g (cs.set i v) := by
  unfold Blk_10 at h ⊢
  simp [World.setCell, Array.getElem?_modify, h]
theorem Blk_10.far (h : Blk_10 w T g cs) {p : Addr} (hp : g ≠ p.block) (u : Value) : Blk_10 (w.setCell p u) T g cs := (Below.heap_setCell w p u g hp).trans h
theorem Blk_10.setRow_ (h : Blk_10 w T g cs) (ds : List Value) : Blk_10 (w.setRow g ds.toArray) T g ds := setRow_heap w g _ _ T (0, 0) h
theorem Blk_10.grown (h : Blk_10 w T g cs) {row : Option Nat} (hg : w.grownBy w' row) (hr : row ≠ some g) : Blk_10 w' T g cs := (hg.block g h.lt (fun e => hr e.symm)).trans h
theorem Blk_10.range (h : Blk_10 w T g cs) : w.rangeAt g 0 cs := fun j v hv => by
  rw [Nat.zero_add]; exact h.cell hv
theorem Blk_10.mid (h : Blk_10 w T g cs) {pre mid post : List Value} (e : cs = pre ++ (mid ++ post)) {o : Nat} (ho : pre.length = o) : w.rangeAt g o mid := fun j v hv => by
  refine h.cell ?_
  subst ho
  rw [e, List.getElem?_append_right (by omega), Nat.add_sub_cancel_left, List.getElem?_append_left (List.getElem?_eq_some_iff.1 hv).1]; exact hv
end
/-- A whole value into its block: a law for the walk. -/
theorem wpList_storeR_10 {w : World} {ops : Array Oper} {rest : List Oper} {op : Oper} {a : Act} {Q : Exit → Act → World → Prop} (hgd : op.guard = none) (T : TypeId) (x y : Operand) (ho : op.op = .store T x y)
    (g : Nat) (hx : a.eval x = .pointer (some ⟨g, 0, none⟩)) (cs : List Value) (hy : a.eval y = .agg cs.toArray) (old : List Value) (hb : Blk_10 w T g old) (hl : old.length = cs.length)
    (hi : (Try.prog.info? T).map (·.size) = some cs.length) (h1 : ∀ v ∈ cs, v.oneCell' = true)
    (h : wpList Try.prog ops Q rest (a.put op.dst undef) (w.setRow g cs.toArray)) : wpList Try.prog ops Q (op :: rest) a w := by
  refine wpList_plain hgd fun K hK => ?_
  have hr := run_storeVar_row (P := Try.prog) w g T T old.toArray cs.toArray hb (by simpa using hi) (by simpa using hl) (Array.all_eq_true_iff_forall_mem.2 (fun v hv => h1 v (by simpa using hv)))
  unfold Oper.wp execOp
  simp only [ho, hx, hy, Instr.storeAt, Instr.sureAddr, Sem.run_bind, Sem.run_pure, Result.andThen_ok, hr]
  exact hK _ _ h
/-- The same, at a step of a region that draws. -/
theorem step_storeR_10 {w : World} {ops : Array Oper} {op : Oper} {a : Act} {K : Act → World → Prop} {Q : Exit → Act → World → Prop} {E : Prop} (hgd : op.guard = none) (T : TypeId) (x y : Operand) (ho : op.op = .store T x y)
    (g : Nat) (hx : a.eval x = .pointer (some ⟨g, 0, none⟩)) (cs : List Value) (hy : a.eval y = .agg cs.toArray) (old : List Value) (hb : Blk_10 w T g old) (hl : old.length = cs.length)
    (hi : (Try.prog.info? T).map (·.size) = some cs.length) (h1 : ∀ v ∈ cs, v.oneCell' = true)
    (h : K (a.put op.dst undef) (w.setRow g cs.toArray)) : if Region.wanted op (yielded ops a.tmps) = true then Oper.wp Try.prog op a w K Q else E := by
  have hw : Region.wanted op (yielded ops a.tmps) = true := by simp [Region.wanted, hgd]
  rw [if_pos hw]
  have hr := run_storeVar_row (P := Try.prog) w g T T old.toArray cs.toArray hb (by simpa using hi) (by simpa using hl) (Array.all_eq_true_iff_forall_mem.2 (fun v hv => h1 v (by simpa using hv)))
  unfold Oper.wp execOp
  simp only [ho, hx, hy, Instr.storeAt, Instr.sureAddr, Sem.run_bind, Sem.run_pure, Result.andThen_ok, hr]
  exact h
/-- A struct put together: a law for the walk, under a guard that says yes, or under none. -/
theorem wpList_buildw {w : World} {ops : Array Oper} {rest : List Oper} {op : Oper} {a : Act} {Q : Exit → Act → World → Prop} (T : TypeId) (parts : Array (Nat × Operand)) (ho : op.op = .build T parts) (hw : Region.wanted op (yielded ops a.tmps) = true) (vals : List (Nat × Value)) (hv : (parts.map fun (i, x) => (i, a.eval x)).toList = vals)
    (cells : Array Value) (hb : Try.prog.built T vals = some cells) (hk : wpList Try.prog ops Q rest (a.put op.dst (.agg cells)) w) : wpList Try.prog ops Q (op :: rest) a w :=
  BigFrame.wpList_want hw fun K hK => by
    unfold Oper.wp execOp
    simp only [ho, Sem.run_bind, run_build w T _ cells (by rw [hv]; exact hb), Result.andThen_ok, Sem.run_pure]
    exact hK _ _ hk
end
section
open Go.RowKit Go.Lib
section
variable {A : Option Addr} {len cap : Nat} {xs : List UInt8}
end
end
section
open Go.RowKit Go.Lib
section
variable {A : Option Addr} {len cap : Nat} {xs : List UInt8}
end
end
section
open Go.RowKit Go.Lib
section
variable {W : World} {A1 A2 : Option Addr} {n1 n2 c1 c2 : Nat} {x y : List UInt8}
end
end
section
open Go.RowKit Go.Lib
end
section
open Go.RowKit Go.Lib
end
section
open Go.RowKit Go.Lib
end
end Go.Proofs.Ytljmegmklfohjaa
