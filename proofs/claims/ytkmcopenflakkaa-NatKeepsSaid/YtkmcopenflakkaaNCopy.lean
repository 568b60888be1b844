/-
  builtin copy into the middle of an owned slice: a law for the walk.
-/
import Derived.Test.YtkmcopenflakkaaNMay
import Derived.Laws.CopyOwn
namespace Go.Proofs.Ytkmcopenflakkaa
set_option maxRecDepth 100000
open Go.RowKit Go.Lib

theorem splice_setL {L : List Value} {N off : Nat} {ys zs : List UInt8} (h : L.take N = ys.map v8) (hN : ys.length = N) (ho : off + zs.length ≤ N) : (splice L off (zs.map v8)).take N = (setL ys off zs).map v8 := by
  have e : L = ys.map v8 ++ L.drop N := by rw [← h, List.take_append_drop]
  have e1 : L.take off = (ys.map v8).take off := by rw [e, List.take_append_of_le_length (by rw [List.length_map]; omega)]
  have e2 : L.drop (off + zs.length) = (ys.map v8).drop (off + zs.length) ++ L.drop N := by
    conv => lhs; rw [e]
    rw [List.drop_append_of_le_length (by rw [List.length_map]; omega)]
  rw [setL_eq (by omega)]
  unfold splice
  rw [List.length_map, e1, e2, ← List.append_assoc, ← List.append_assoc, List.take_append_of_le_length (by
    rw [List.length_append, List.length_append, List.length_take, List.length_drop, List.length_map, List.length_map]; omega), List.take_of_length_le (by
    rw [List.length_append, List.length_append, List.length_take, List.length_drop, List.length_map, List.length_map]; omega)]
  rw [List.map_append, List.map_append, List.map_take, List.map_drop, List.append_assoc]
theorem wpList_copyO {w : World} {ops : Array Oper} {rest : List Oper} {o : Oper} {a : Act} {Q : Exit → Act → World → Prop} (hgd : o.guard = none) (d s : Operand)
    (ho : o.op = .call { callee := .builtin .copy, args := #[d, s], argTypes := #[22, 22] })
    (g off n dc sc : Nat) (sp : Option Addr) (hd : a.eval d = .slice (some ⟨g, off, none⟩) n dc) (hs : a.eval s = .slice sp n sc)
    {N C base B : Nat} {ys zs : List UInt8} (hown : Own8 w base (.slice (some ⟨g, 0, none⟩) N C) ys) (hN : ys.length = N) (hr : Rd w B sp n zs) (hfit : off + n ≤ N) (hn0 : 0 < n)
    (h : ∀ w', Own8 w' base (.slice (some ⟨g, 0, none⟩) N C) (setL ys off zs) → w.grownBy w' (some g) → wpList Try.prog ops Q rest (a.put o.dst (goInt n)) w') : wpList Try.prog ops Q (o :: rest) a w := by
  obtain ⟨L, hrow, hLC, hNC, hCm, hbg, hL⟩ := hown.row
  obtain ⟨ad, rfl, hc⟩ := hr.cells hn0
  have hzl := hr.len
  have hlen : (zs.map v8).length = n := by rw [List.length_map]; exact hzl
  refine Go.wpList_copy_own hgd d s 22 22 ho 5 Try.underlying22 size8 g off n dc ad n sc hd hs L.toArray 5 hrow (zs.map v8) (by rw [hlen]; exact (Nat.min_self n).symm) hc (by rw [hlen]; simp; omega) (oneCell8 _) ?_
  have hrow' : (w.setRow g (splice L off (zs.map v8)).toArray).heap[g]? = some (.cells (splice L off (zs.map v8)).toArray 5 (0, 0)) := setRow_heap w g _ _ _ _ hrow
  have hk := h _ (Own8.ofRow hrow' (by rw [splice_len L off _ (by rw [hlen]; omega)]; exact hLC) hNC hCm hbg (splice_setL hL hN (by omega)) (by rw [setL_len]; exact hN)) (gb_setRow (World.grownBy.refl w _) _)
  have es : L.toArray.toList.take off ++ (zs.map v8 ++ L.toArray.toList.drop (off + (zs.map v8).length)) = splice L off (zs.map v8) := rfl
  rw [es, hlen]
  exact hk
/-- A row of bytes in a block stays, where another one grows. -/
theorem Row8.stay {w w' : World} {g k : Nat} {xs : List UInt8} (h : Row8 w k xs) (hg : w.grownBy w' (some g)) (hne : k ≠ g) : Row8 w' k xs := (gb_stay hg h.lt hne).trans h
theorem Row8.below {w w' : World} {k B : Nat} {xs : List UInt8} (h : Row8 w k xs) (hb : Below B w w') (hk : k < B) : Row8 w' k xs := (hb.block k hk).trans h
end Go.Proofs.Ytkmcopenflakkaa
