/-
  Arguments that are slices of whatever elements, by a decoder of one; names.
-/
import Derived.Test.YtfbiinipiklkaaaVEnc
import Derived.Test.YtfbiinipiklkaaaQ10
import Derived.Deep.Slices
import Derived.Deep.Fields
namespace Go.Proofs.Ytfbiinipiklkaaa
set_option maxRecDepth 100000
open Go.RowKit Go.Lib Go.ChangeShapes Go.WideShapes Go.ChangeAt Go.Deep
section
variable {H : Type} {enc : TypeId × Value → H} {W : World}
theorem cU_str : Try.prog.cellsOf 9 = 1 := by kernel_rfl
theorem pieceU (cs : List Value) (a n : Nat) : (cs.drop a).take n ++ cs.drop (a + n) = cs.drop a := by
  rw [← List.drop_drop]
  exact List.take_append_drop n (cs.drop a)
theorem lastU (cs : List Value) (a n : Nat) (h : cs.length = a + n) : (cs.drop a).take n = cs.drop a := List.take_of_length_le (by rw [List.length_drop]; omega)
theorem name_dec {fuel : Nat} {cs : List Value} {y : DataW H × List MemPlace} (h : DataW.trod enc Try.prog W 0 (fun _ => true) true fuel 9 cs = some y) : ∃ s : List UInt8, cs = [strV s] ∧ s.length ≤ maxLen := by
  obtain ⟨s, h0, _, w0⟩ := DataW.trod_string Try.underlying9 h
  exact ⟨s.data.toList, h0, w0⟩
/-- A slice whose elements read so. -/
theorem slice_dec {α : Type} (E : Enc α) (hC : Try.prog.cellsOf E.T = E.k) (hk : 0 < E.k) (z : α) {Pr : α → Prop} (dec : ∀ {fuel : Nat} {cs : List Value} {y : DataW H × List MemPlace}, DataW.trod enc Try.prog W 0 (fun _ => true) true fuel E.T cs = some y → ∃ x : α, cs = E.f x ∧ Pr x)
    {fuel : Nat} {u : Value} {x : DataW H × List MemPlace} (hf : DataW.trod enc Try.prog W 0 (fun _ => true) true fuel E.S [u] = some x) :
    ∃ A len cap xs, u = .slice A len cap ∧ len ≤ cap ∧ cap ≤ maxLen ∧ RdG E W W.heap.size A len xs ∧ ∀ x, x ∈ xs → Pr x := by
  rcases open_slice E.und hf with ⟨hcs, _⟩ | ⟨a, len, cap, m, n, D, Pl, hcs, _, hl, hm, hmm, _, hi⟩
  · cases hcs
    exact ⟨none, 0, 0, [], rfl, Nat.le_refl _, by simp [maxLen], RdG.nil_ _, fun _ h => by cases h⟩
  · cases hcs
    have hmc : m = cap := by simpa using hmm
    rcases Nat.eq_zero_or_pos len with h0 | h0
    · subst h0
      exact ⟨_, 0, cap, [], rfl, hl, hm, RdG.nil_ _, fun _ h => by cases h⟩
    · have each : ∀ i, ∃ x : α, i < len → Pr x ∧ ∀ j, j < E.k → W.cell? ((a.add (i * E.k)).add j) = (E.f x)[j]? := by
        intro i
        by_cases hil : i < len
        · obtain ⟨cs', hc, ht⟩ := hi i (by omega)
          rw [hC] at hc
          obtain ⟨x, rfl, hp⟩ := dec ht
          obtain ⟨_, _, hat⟩ := World.cells?_some hc
          exact ⟨x, fun _ => ⟨hp, hat⟩⟩
        · exact ⟨z, fun h => absurd h hil⟩
      obtain ⟨b, off, spot⟩ := a
      obtain ⟨x0, hx0⟩ := each 0
      have c0 := (hx0 h0).2 0 hk
      have hl0 : 0 < (E.f x0).length := by rw [E.len]; exact hk
      rw [List.getElem?_eq_getElem hl0] at c0
      have hspot : spot = none := by simpa [Addr.add] using World.cell?_spot c0
      subst hspot
      rw [add_plain, add_plain] at c0
      refine ⟨_, len, cap, (List.range len).map fun i => Classical.choose (each i), rfl, hl, hm, ⟨by simp, fun _ => ⟨b, off, rfl, World.block_lt_of_cell? W _ c0, fun j v hv => ?_⟩⟩, fun x hx => ?_⟩
      · have hjl : j < len * E.k := by
          have := (List.getElem?_eq_some_iff.1 hv).1
          rw [Enc.cells_len, List.length_map, List.length_range] at this
          exact this
        have hq : j / E.k < len := (Nat.div_lt_iff_lt_mul hk).2 hjl
        have hr := Nat.mod_lt j hk
        have hd : j / E.k * E.k + j % E.k = j := by rw [Nat.mul_comm]; exact Nat.div_add_mod j E.k
        have hx : ((List.range len).map fun i => Classical.choose (each i))[j / E.k]? = some (Classical.choose (each (j / E.k))) := by
          rw [List.getElem?_map, List.getElem?_range hq]; rfl
        have e := Enc.cells_get (E := E) _ (j / E.k) _ hx (j % E.k) hr
        rw [hd] at e
        rw [e] at hv
        have := ((Classical.choose_spec (each (j / E.k))) hq).2 (j % E.k) hr
        refine Eq.trans (congrArg W.cell? ?_) (this.trans hv)
        rw [add_plain, add_plain, Nat.add_assoc, hd]
      · obtain ⟨i, hir, rfl⟩ := List.mem_map.1 hx
        exact ((Classical.choose_spec (each i)) (List.mem_range.1 hir)).1
end
end Go.Proofs.Ytfbiinipiklkaaa
