/-
  What slices.SortFunc leaves of a slice that a call owns, whatever its elements (split from VP1). No program function is named here.
-/
import Derived.Shelf.SlSortCmp.WholeK
import Derived.Test.YtfbiinipiklkaaaGSl
namespace Go.Proofs.Ytfbiinipiklkaaa
set_option maxRecDepth 100000
open Go.RowKit Go.Lib

section
variable {α : Type} [Inhabited α] (E : Enc α)
theorem flat_cells (d : Array α) : (Go.Sort.flatK E.f E.k d).toList = E.cells d.toList := by
  have hp := E.pos
  apply List.ext_getElem?
  intro t
  by_cases ht : t < d.size * E.k
  · have h1 : t / E.k < d.size := Nat.div_lt_of_lt_mul (by rw [Nat.mul_comm]; exact ht)
    have h2 : t % E.k < E.k := Nat.mod_lt _ hp
    have h3 : d.toList[t / E.k]? = some d[t / E.k]! := by
      rw [Array.getElem?_toList, Array.getElem?_eq_getElem h1, getElem!_pos d _ h1]
    have h4 := Enc.cells_get (E := E) d.toList (t / E.k) _ h3 (t % E.k) h2
    rw [show t / E.k * E.k + t % E.k = t by rw [Nat.mul_comm]; exact Nat.div_add_mod t E.k] at h4
    have h5 : t % E.k < (E.f d[t / E.k]!).length := by rw [E.len]; exact h2
    have h6 : t < (Go.Sort.flatK E.f E.k d).size := by rw [Go.Sort.size_flatK]; exact ht
    rw [h4, Array.getElem?_toList, Array.getElem?_eq_getElem h6, ← getElem!_pos (Go.Sort.flatK E.f E.k d) t h6, Go.Sort.get_flatK E.f E.k d t ht, List.getElem?_eq_getElem h5, getElem!_pos (E.f d[t / E.k]!) (t % E.k) h5]
  · rw [List.getElem?_eq_none (by rw [Array.length_toList, Go.Sort.size_flatK]; omega), List.getElem?_eq_none (by rw [Enc.cells_len, Array.length_toList]; omega)]
theorem put_take (F c : Array Value) (h : F.size ≤ c.size) : (Go.Sort.putCells id 0 F c).toList.take F.size = F.toList := by
  apply List.ext_getElem?
  intro t
  rw [List.getElem?_take]
  by_cases ht : t < F.size
  · rw [if_pos ht]
    have h1 : t < c.size := by omega
    simp [Go.Sort.putCells, h1, ht]
  · rw [if_neg ht, List.getElem?_eq_none (by rw [Array.length_toList]; omega)]
theorem heap_grow_old' (w : World) (os : Array Obj) {k : Nat} (h : k < w.heap.size) : (Go.Sort.grow w os).heap[k]? = w.heap[k]? := Go.Sort.heap_grow_old w os h
/-- The row holds other elements, as many; all else is as it was, but for new blocks. -/
theorem OwnG.sorted {w : World} {base n c g : Nat} {xs : List α} (h : OwnG E w base (.slice (some ⟨g, 0, none⟩) n c) xs) (d : Array α) (hd : d.size = xs.length) (m : Nat) (os : Array Obj) :
    OwnG E (sortWorldK E.f E.k w g 0 m d os) base (.slice (some ⟨g, 0, none⟩) n c) d.toList ∧ w.grownBy (sortWorldK E.f E.k w g 0 m d os) (some g) := by
  have hg0 := h.ltS g rfl
  have hn := h.lenEq
  have hF : (Go.Sort.flatK E.f E.k d).size = d.size * E.k := Go.Sort.size_flatK _ _ _
  have hsz : (Go.Sort.putRowK E.f E.k (Go.Sort.ahead w m) g 0 d).heap.size = w.heap.size := by
    unfold Go.Sort.putRowK
    rw [Go.Sort.size_putRow]
    rfl
  have hgr : w.grownBy (sortWorldK E.f E.k w g 0 m d os) (some g) := by
    refine ⟨rfl, rfl, rfl, ?_, fun k hk hne => ?_⟩
    · unfold sortWorldK
      rw [Go.Sort.size_grow, hsz]
      omega
    · unfold sortWorldK
      rw [Go.Sort.heap_grow_old _ _ (by rw [hsz]; exact hk)]
      unfold Go.Sort.putRowK Go.Sort.putRow Go.Sort.mapBlock
      show (w.heap.modify g _)[k]? = _
      rw [Array.getElem?_modify, if_neg (fun e => hne (by rw [e]))]
  refine ⟨?_, hgr⟩
  rcases h.2 with ⟨e, _⟩ | ⟨g', cap, cur, e, hb, hg, hnc, hcm, hcs, ht⟩
  · cases e
  · cases e
    refine ⟨?_, .inr ⟨g, c, Go.Sort.putCells id 0 (Go.Sort.flatK E.f E.k d) cur, ?_, hb, ?_, ?_, hcm, ?_, ?_⟩⟩
    · rw [Enc.cells_len]
    · rw [show d.toList.length = xs.length from hd]
    · unfold sortWorldK
      rw [Go.Sort.heap_grow_old _ _ (by rw [hsz]; exact hg0)]
      unfold Go.Sort.putRowK Go.Sort.putRow Go.Sort.mapBlock
      show (w.heap.modify g _)[g]? = _
      rw [Array.getElem?_modify, if_pos rfl, hg]
      rfl
    · rw [Array.length_toList, hd]; exact hnc
    · unfold Go.Sort.putCells
      rw [Array.size_mapIdx]
      exact hcs
    · have h1 := put_take (Go.Sort.flatK E.f E.k d) cur (by rw [hF, hcs, hd]; exact Nat.mul_le_mul_right _ hnc)
      rw [hF] at h1
      rw [Array.length_toList, h1, flat_cells]
/-- What an owned row holds, in the sort's words. -/
theorem OwnG.holds {w : World} {base n c g : Nat} {xs : List α} (h : OwnG E w base (.slice (some ⟨g, 0, none⟩) n c) xs) : Go.Sort.HoldsK E.f E.k w g 0 xs.toArray := by
  intro j hj
  have hj' : j < xs.length * E.k := by
    have := hj
    rw [Go.Sort.size_flatK] at this
    exact this
  have hl : j < (E.cells xs).length := by rw [Enc.cells_len]; exact hj'
  have h1 := World.ownsRow.cells h (g := g) rfl j _ (List.getElem?_eq_getElem hl)
  rw [add_plain] at h1
  refine ⟨?_, ?_⟩
  · rw [h1]
    have h2 := flat_cells E xs.toArray
    have h3 : (Go.Sort.flatK E.f E.k xs.toArray).toList[j]? = (E.cells xs)[j]? := by rw [h2]
    rw [Array.getElem?_toList, Array.getElem?_eq_getElem hj, List.getElem?_eq_getElem hl] at h3
    rw [getElem!_pos (Go.Sort.flatK E.f E.k xs.toArray) j hj]
    exact h3.symm
  · rw [Nat.zero_add]
    exact h.frozen j
end
end Go.Proofs.Ytfbiinipiklkaaa
