/-
  Arguments that are slices of byte slices, as lists.
-/
import Derived.Test.YtaabfhfiipmhcaaRAwake
import Derived.Test.YtaabfhfiipmhcaaLift
import Derived.Deep.Slices
namespace Go.Proofs.Ytaabfhfiipmhcaa
open Go.RowKit Go.Lib Go.ChangeShapes Go.WideShapes Go.ChangeAt Go.Deep

section
variable {H : Type} {enc : TypeId × Value → H} {W : World}
/-- A cell of bytes. -/
theorem cell_bytes {fuel : Nat} {u : Value} {x : DataW H × List MemPlace} (h : DataW.trod enc Try.prog W 0 (fun _ => true) true fuel 22 [u] = some x) :
    ∃ A len cap xs, u = .slice A len cap ∧ len ≤ cap ∧ cap ≤ maxLen ∧ Rd W W.heap.size A len xs := by
  have hu : ∃ A len cap, u = .slice A len cap := by
    rcases open_ints Try.underlying22 Try.underlying5 (by kernel_rfl) h with ⟨hcs, _⟩ | ⟨a, l, c, zs, hcs, _⟩
    · cases hcs; exact ⟨_, _, _, rfl⟩
    · cases hcs; exact ⟨_, _, _, rfl⟩
  obtain ⟨A, len, cap, rfl⟩ := hu
  obtain ⟨A', len', cap', xs, he, h1, h2, h3⟩ := rd_of_trod h
  cases he
  exact ⟨A, len, cap, xs, rfl, h1, h2, h3⟩

theorem open_lists {r : Reach} {b0 : Nat} {v : Value} {d : DataW H} {ps : List MemPlace} (hv : Value.okWide Try.prog W r b0 32 v) (hd : DataW.Trod enc Try.prog W 0 (fun _ => true) true 32 v d ps) :
    ∃ A len cap l, v = .slice A len cap ∧ len ≤ cap ∧ cap ≤ maxLen ∧ LsAt W W.heap.size A len l := by
  obtain ⟨A, len, cap, rfl⟩ := okWide_slice Try.underlying32 hv
  obtain ⟨fuel, hf⟩ := hd
  rcases open_slice Try.underlying32 hf with ⟨hcs, _⟩ | ⟨a, l, c, m, n, D, Pl, hcs, _, hl, hm, hmm, _, hi⟩
  · simp [Value.cells] at hcs
    obtain ⟨rfl, rfl, rfl⟩ := hcs
    exact ⟨none, 0, 0, [], rfl, Nat.le_refl _, by simp [maxLen], LsAt.nil_ _⟩
  · simp [Value.cells] at hcs
    obtain ⟨rfl, rfl, rfl⟩ := hcs
    have hmc : m = cap := by simpa using hmm
    have hC : Try.prog.cellsOf 22 = 1 := by kernel_rfl
    have each : ∀ i, i < len → ∃ u q y, W.cell? (a.add i) = some u ∧ DataW.trod enc Try.prog W 0 (fun _ => true) true q 22 [u] = some y := by
      intro i hil
      obtain ⟨cs', hc, ht'⟩ := hi i (by omega)
      rw [hC] at hc
      obtain ⟨_, hcl, hat⟩ := World.cells?_some hc
      obtain ⟨u, rfl⟩ : ∃ u, cs' = [u] := by
        match cs', hcl with
        | [u], _ => exact ⟨u, rfl⟩
      refine ⟨u, n, (D i, Pl i), ?_, ht'⟩
      have := hat 0 (by omega)
      rw [Nat.mul_one] at this
      have e : (a.add i).add 0 = a.add i := by simp [Addr.add]
      rw [e] at this
      rw [this]; rfl
    rcases Nat.eq_zero_or_pos len with h0 | h0
    · subst h0
      exact ⟨_, 0, cap, [], rfl, hl, hm, LsAt.nil_ _⟩
    obtain ⟨b, off, spot⟩ := a
    obtain ⟨u0, _, _, hu0, _⟩ := each 0 h0
    have hspot : spot = none := by simpa [Addr.add] using World.cell?_spot hu0
    subst hspot
    rw [add_plain] at hu0
    have hb := World.block_lt_of_cell? W _ hu0
    have each2 : ∀ i, ∃ xs : List UInt8, i < len → ∃ A' n' c', W.cell? ⟨b, off + i, none⟩ = some (.slice A' n' c') ∧ n' ≤ c' ∧ c' ≤ maxLen ∧ Rd W W.heap.size A' n' xs := by
      intro i
      by_cases hi' : i < len
      · obtain ⟨u, q, y, c0, t0⟩ := each i hi'
        rw [add_plain] at c0
        obtain ⟨A', l', c', xs, rfl, h1, h2, hr⟩ := cell_bytes t0
        exact ⟨xs, fun _ => ⟨A', l', c', c0, h1, h2, hr⟩⟩
      · exact ⟨[], fun h => absurd h hi'⟩
    refine ⟨_, len, cap, (List.range len).map fun i => Classical.choose (each2 i), rfl, hl, hm, by simp, fun _ => ⟨b, off, rfl, hb, fun j x hx => ?_⟩⟩
    rw [List.getElem?_map] at hx
    by_cases hj : j < len
    · rw [List.getElem?_range hj] at hx
      cases hx
      exact Classical.choose_spec (each2 j) hj
    · rw [List.getElem?_eq_none (by simpa using hj)] at hx; cases hx
end
end Go.Proofs.Ytaabfhfiipmhcaa
