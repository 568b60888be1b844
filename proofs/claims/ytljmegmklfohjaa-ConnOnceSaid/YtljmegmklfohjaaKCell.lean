/-
  Tuples and packets in memory: their cells; laws for whole loads and stores of them and of parts; put together; compared with themselves.
-/
import Derived.Test.YtljmegmklfohjaaKMath
namespace Go.Proofs.Ytljmegmklfohjaa
open Go.RowKit Go.Lib
/-- A row of cells that is known whole, of any type: one block. -/
abbrev Blk (w : World) (T : TypeId) (g : Nat) (cs : List Value) : Prop := Blk_10 w T g cs
section
variable {w : World} {T : TypeId} {g : Nat} {t : Tu} {p : Pk}
end
/-- A part of a block, whole: a law for the walk, guarded by yes or not guarded. -/
theorem wpList_loadM {w : World} {ops : Array Oper} {rest : List Oper} {op : Oper} {a : Act} {Q : Exit → Act → World → Prop} (T : TypeId) (x : Operand) (ho : op.op = .load T x) (hw : Region.wanted op (yielded ops a.tmps) = true)
    (g o : Nat) (hx : a.eval x = .pointer (some ⟨g, o, none⟩)) (cs : List Value) (hb : w.rangeAt g o cs) (d : TypeDesc) (hu : Try.prog.underlying T = some d) (hd : d.isRow = true) (hi : (Try.prog.info? T).map (·.size) = some cs.length)
    (hk : wpList Try.prog ops Q rest (a.put op.dst (.agg cs.toArray)) w) : wpList Try.prog ops Q (op :: rest) a w :=
  BigFrame.wpList_want hw fun _ hK => wp_load_mid T x ho g o hx cs d hb hu hd hi (hK _ _ hk)
/-- A whole value is stored into a cell that was just laid. -/
theorem wpList_storeNewG {arr : Array Value} {w : World} {ops : Array Oper} {rest : List Oper} {op : Oper} {a : Act} {Q : Exit → Act → World → Prop} (hgd : op.guard = none) (T : TypeId) (x y : Operand) (ho : op.op = .store T x y)
    (hx : a.eval x = .pointer (some ⟨w.heap.size, 0, none⟩)) (cs : List Value) (hy : a.eval y = .agg cs.toArray) (hl : arr.size = cs.length) (hi : (Try.prog.info? T).map (·.size) = some cs.length) (h1 : ∀ v ∈ cs, v.oneCell' = true)
    (h : ∀ w', Blk w' T w.heap.size cs → Below w.heap.size w w' → w'.heap.size = w.heap.size + 1 → wpList Try.prog ops Q rest (a.put op.dst undef) w') :
    wpList Try.prog ops Q (op :: rest) a (w.alloc (.cells arr T)) := by
  have hb := Blk_10.new w T arr.toList
  rw [Array.toArray_toList] at hb
  refine wpList_storeR_10 hgd T x y ho w.heap.size hx cs hy arr.toList hb (by rw [Array.length_toList]; exact hl) hi h1 ?_
  refine h _ (hb.setRow_ _) (below_setRow ((Below.refl _ _).alloc (Nat.le_refl _) _) (Nat.le_refl _) _) ?_
  rw [World.setRow]; simp
end Go.Proofs.Ytljmegmklfohjaa
