/-
  A slice of one element of many cells, written out.
-/
import Derived.Test.YtfbiinipiklkaaaGSl
import Derived.Great.CaseRows
namespace Go.Proofs.Ytfbiinipiklkaaa
set_option maxRecDepth 100000
open Go.RowKit Go.Lib

theorem wpList_build1 {α : Type} (E : Enc α) (hk : E.k ≤ 1000) (x : α) {w : World} {ops : Array Oper} {rest : List Oper} {o : Oper} {a : Act} {Q : Exit → Act → World → Prop} (hgd : o.guard = none) (i : Tmp) (ho : o.op = .buildSlice E.S 1 #[(0, .tmp i)])
    (C : Array Value) (hC : (E.f x).toArray = C) (hev : a.eval (.tmp i) = .agg C)
    (h : wpList Try.prog ops Q rest (a.put o.dst (.slice (some ⟨w.heap.size, 0, none⟩) 1 1)) (w.alloc (.cells C E.T))) : wpList Try.prog ops Q (o :: rest) a w := by
  subst hC
  obtain ⟨i0, hi, hz0, hz1, hz2⟩ := E.parts
  refine Great.wpList_buildRows hgd E.S E.T #[(0, .tmp i)] E.k [.agg (E.f x).toArray] ho (fun _ => i) w.heap.size rfl o.dst rfl E.und (by rw [hi]; show some i0.size = _; rw [hz1]) (by rw [hi]; show i0.zero.isSome = true; rw [hz0]; rfl) E.pos Nat.zero_lt_one (by simp; omega) rfl ?_ ?_ ?_
  · intro v hv
    rw [List.mem_singleton.1 hv]
    show (E.f x).toArray.size = _
    rw [List.size_toArray, E.len]
  · intro j hj
    obtain rfl : j = 0 := by simpa using hj
    exact hev
  · have e : ([Value.agg (E.f x).toArray].flatMap fun v => v.cells.toList).toArray = (E.f x).toArray := by
      show ((E.f x).toArray.toList ++ []).toArray = _
      rw [List.append_nil]
    rw [e]
    exact h
end Go.Proofs.Ytfbiinipiklkaaa
