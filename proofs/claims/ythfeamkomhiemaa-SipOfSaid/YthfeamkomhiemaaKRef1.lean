/-
  The document's Turn, Family, and its header with a Type.
-/
import Derived.Test.YthfeamkomhiemaaKCell
namespace Go.Proofs.Ythfeamkomhiemaa
open Go.RowKit Go.Lib
/-- A tuple in its box, and a box of noughts. -/
theorem box_tu (w : World) (t : Tu) (zs : List Value) (T : TypeId) : ∃ Y : World, (w.alloc (.cells (tuL t).toArray 34)).alloc (.cells zs.toArray T) = Y ∧ Blk Y 34 w.heap.size (tuL t) ∧ Blk Y T (w.heap.size + 1) zs ∧ Below w.heap.size w Y := by
  refine ⟨_, rfl, (Blk_10.new w 34 (tuL t)).alloc _, ?_, ((Below.refl w.heap.size w).alloc (Nat.le_refl _) _).alloc (by simp) _⟩
  have := Blk_10.new (w.alloc (.cells (tuL t).toArray 34)) T zs
  rwa [World.size_alloc] at this
/-- Are two addresses of one family? -/
def famB (a b : Ad) : Bool := a.six == b.six && (a.six || (shortB a && shortB b))
/-- The Type of a tuple's family. -/
def tyOf (t : Tu) : Int := if t.s.six = true then 34525 else 2048
def typedL (L : Lk) (t : Tu) : Lk := { L with ty := tyOf t }
end Go.Proofs.Ythfeamkomhiemaa
