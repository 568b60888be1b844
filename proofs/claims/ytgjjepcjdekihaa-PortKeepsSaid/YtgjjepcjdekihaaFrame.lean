/-
  Plain lemmas on worlds: only one block, and what is new, has turned; a block of several cells of which one is written.
-/
import Derived.Test.YtgjjepcjdekihaaBytes
import Derived.Lib.BufferOwn
namespace Go.Proofs.Ytgjjepcjdekihaa
open Go.RowKit

section
variable {a b w w' : World} {row : Option Nat}
theorem gb_drewN (h : a.grownBy w row) (n : Nat) : a.grownBy (w.drewN n) row := ⟨h.os, h.tape, h.output, h.size, h.block⟩
theorem gb_drew (h : a.grownBy w row) : a.grownBy w.drew row := ⟨h.os, h.tape, h.output, h.size, h.block⟩
theorem gb_alloc (h : a.grownBy w row) (o : Obj) : a.grownBy (w.alloc o) row := Lib.grownBy_allocR h o
theorem gb_set {g : Nat} (h : a.grownBy w (some g)) (i : Nat) (u : Value) : a.grownBy (w.setCell ⟨g, i, none⟩ u) (some g) := Lib.grownBy_setB h i u
theorem gb_trans (h : a.grownBy b row) (k : b.grownBy w row) : a.grownBy w row := World.grownBy.trans h k
theorem gb_below {B : Nat} (h : a.grownBy w row) (hb : Below B w w') (hB : a.heap.size ≤ B) : a.grownBy w' row :=
  ⟨hb.os.trans h.os, hb.tape.trans h.tape, hb.output.trans h.output, Nat.le_trans h.size hb.size, fun i hi hne => (hb.block i (by omega)).trans (h.block i hi hne)⟩
/-- What turned one block only leaves all below it. -/
theorem gb_to_below {g B : Nat} (h : w.grownBy w' (some g)) (hg : B ≤ g) (hB : B ≤ w.heap.size) : Below B w w' :=
  ⟨h.os, h.tape, h.output, h.size, fun k hk => h.block k (by omega) (fun e => by cases e; omega)⟩
theorem below_drewN {B : Nat} (h : Below B a w) (n : Nat) : Below B a (w.drewN n) := ⟨h.os, h.tape, h.output, h.size, h.block⟩

/-- A contract that leaves the world, as a drawn region asks it. -/
theorem quiet_same {P : Program} {f : FuncId} {args : Array Value} {n : Nat} {v : Value} (h : Calls P f args (w.drewN n) fun e w' => e = .returned v ∧ w.drewN n = w') :
    Calls P f args (w.drewN n) fun e w' => e = .returned v ∧ ∃ m, w' = w.drewN m :=
  h.mono fun _ _ g => ⟨g.1, n, g.2.symm⟩
theorem heap_set {P i : Nat} {cs : Array Value} {t : TypeId} {m : Nat × Nat} (h : w.heap[P]? = some (.cells cs t m)) (u : Value) : (w.setCell ⟨P, i, none⟩ u).heap[P]? = some (.cells (cs.setIfInBounds i u) t m) := by
  simp [World.setCell, Array.getElem?_modify, h]
end

end Go.Proofs.Ytgjjepcjdekihaa
