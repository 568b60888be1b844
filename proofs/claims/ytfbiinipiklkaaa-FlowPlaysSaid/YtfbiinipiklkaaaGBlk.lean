/-
  Blocks known whole: one cell, or all of them, stored anew, the world behind a letter; laws for the walk and for a step of a region that draws. No program function is named here.
-/
import Derived.Test.YtfbiinipiklkaaaKCell
import Derived.Test.YtfbiinipiklkaaaGSl
namespace Go.Proofs.Ytfbiinipiklkaaa
open Go.RowKit Go.Lib

theorem gb_setCell (w : World) (g i : Nat) (u : Value) : w.grownBy (w.setCell ⟨g, i, none⟩ u) (some g) :=
  ⟨rfl, rfl, rfl, by simp, fun k _ hk => Below.heap_setCell w ⟨g, i, none⟩ u k (fun e => hk (by rw [e]))⟩
theorem gb_setRow1 (w : World) (g : Nat) (ds : Array Value) : w.grownBy (w.setRow g ds) (some g) :=
  ⟨rfl, rfl, rfl, by simp [World.setRow], fun k _ hk => setRow_other w g k ds (fun e => hk (by rw [e]))⟩
theorem Blk.gb {w w' : World} {T : TypeId} {g : Nat} {cs : List Value} (h : Blk w T g cs) {row : Option Nat} (hg : w.grownBy w' row) (hne : row ≠ some g) : Blk w' T g cs := (hg.block g (Blk_10.lt h) (fun e => hne e.symm)).trans h
theorem below_gb {w w' : World} {g B : Nat} {w0 : World} (h : Below B w0 w) (hg : w.grownBy w' (some g)) (hB : B ≤ g) (hs : B ≤ w.heap.size) : Below B w0 w' := h.grown hg hs (fun k hk => by cases hk; exact hB)
theorem wpList_storeB1 {w : World} {ops : Array Oper} {rest : List Oper} {op : Oper} {a : Act} {Q : Exit → Act → World → Prop} (hgd : op.guard = none) (T : TypeId) (x y : Operand) (ho : op.op = .store T x y)
    (g i : Nat) (hx : a.eval x = .pointer (some ⟨g, i, none⟩)) (u : Value) (hy : a.eval y = u) (U : TypeId) (cs : List Value) (hb : Blk w U g cs) (hi : i < cs.length) (hT : (Try.prog.info? T).map (·.size) = some 1) (h1 : u.oneCell' = true) (hu : u.cells = #[u])
    (h : ∀ w', Blk w' U g (cs.set i u) → w.grownBy w' (some g) → wpList Try.prog ops Q rest (a.put op.dst undef) w') : wpList Try.prog ops Q (op :: rest) a w := by
  refine wpList_plain hgd fun K hK => ?_
  have hk := h _ (Blk_10.set hb i u) (gb_setCell w g i u)
  have hs := run_store1 w g i T u _ (Blk_10.cell hb (List.getElem?_eq_getElem hi)) (Blk_10.frozen hb i) hT h1 hu
  unfold Oper.wp execOp
  simp only [ho, hx, hy, Instr.storeAt, Instr.sureAddr, Sem.run_bind, Sem.run_pure, Result.andThen_ok, hs]
  exact hK _ _ hk
theorem step_storeB1 {w : World} {ops : Array Oper} {op : Oper} {a : Act} {K : Act → World → Prop} {Q : Exit → Act → World → Prop} {D : Prop} (hgd : op.guard = none) (T : TypeId) (x y : Operand) (ho : op.op = .store T x y)
    (g i : Nat) (hx : a.eval x = .pointer (some ⟨g, i, none⟩)) (u : Value) (hy : a.eval y = u) (U : TypeId) (cs : List Value) (hb : Blk w U g cs) (hi : i < cs.length) (hT : (Try.prog.info? T).map (·.size) = some 1) (h1 : u.oneCell' = true) (hu : u.cells = #[u])
    (h : ∀ w', Blk w' U g (cs.set i u) → w.grownBy w' (some g) → K (a.put op.dst undef) w') : if Region.wanted op (yielded ops a.tmps) = true then Oper.wp Try.prog op a w K Q else D := by
  have hw : Region.wanted op (yielded ops a.tmps) = true := by simp [Region.wanted, hgd]
  rw [if_pos hw]
  have hk := h _ (Blk_10.set hb i u) (gb_setCell w g i u)
  have hs := run_store1 w g i T u _ (Blk_10.cell hb (List.getElem?_eq_getElem hi)) (Blk_10.frozen hb i) hT h1 hu
  unfold Oper.wp execOp
  simp only [ho, hx, hy, Instr.storeAt, Instr.sureAddr, Sem.run_bind, Sem.run_pure, Result.andThen_ok, hs]
  exact hk
theorem wpList_storeBA {w : World} {ops : Array Oper} {rest : List Oper} {op : Oper} {a : Act} {Q : Exit → Act → World → Prop} (hgd : op.guard = none) (T : TypeId) (x y : Operand) (ho : op.op = .store T x y)
    (g : Nat) (hx : a.eval x = .pointer (some ⟨g, 0, none⟩)) (cs : List Value) (hy : a.eval y = .agg cs.toArray) (old : List Value) (hb : Blk w T g old) (hl : old.length = cs.length)
    (hi : (Try.prog.info? T).map (·.size) = some cs.length) (h1 : ∀ v ∈ cs, v.oneCell' = true)
    (h : ∀ w', Blk w' T g cs → w.grownBy w' (some g) → wpList Try.prog ops Q rest (a.put op.dst undef) w') : wpList Try.prog ops Q (op :: rest) a w :=
  wpList_storeR_10 hgd T x y ho g hx cs hy old hb hl hi h1 (h _ (Blk_10.setRow_ hb cs) (gb_setRow1 w g _))
theorem step_storeBA {w : World} {ops : Array Oper} {op : Oper} {a : Act} {K : Act → World → Prop} {Q : Exit → Act → World → Prop} {E : Prop} (hgd : op.guard = none) (T : TypeId) (x y : Operand) (ho : op.op = .store T x y)
    (g : Nat) (hx : a.eval x = .pointer (some ⟨g, 0, none⟩)) (cs : List Value) (hy : a.eval y = .agg cs.toArray) (old : List Value) (hb : Blk w T g old) (hl : old.length = cs.length)
    (hi : (Try.prog.info? T).map (·.size) = some cs.length) (h1 : ∀ v ∈ cs, v.oneCell' = true)
    (h : ∀ w', Blk w' T g cs → w.grownBy w' (some g) → K (a.put op.dst undef) w') : if Region.wanted op (yielded ops a.tmps) = true then Oper.wp Try.prog op a w K Q else E :=
  step_storeR_10 hgd T x y ho g hx cs hy old hb hl hi h1 (h _ (Blk_10.setRow_ hb cs) (gb_setRow1 w g _))
end Go.Proofs.Ytfbiinipiklkaaa
