/-
  Arguments that are addresses: one bool, and sixteen bytes.
-/
import Derived.Test.YtgjjepcjdekihaaPPseudo
import Derived.Test.YtgjjepcjdekihaaLift
namespace Go.Proofs.Ytgjjepcjdekihaa
open Go.RowKit Go.Lib Go.ChangeShapes Go.WideShapes Go.ChangeAt

section
variable {H : Type} {enc : TypeId × Value → H} {W : World}
theorem cells_bool : Try.prog.cellsOf 4 = 1 := by kernel_rfl
theorem cells_u8 : Try.prog.cellsOf 5 = 1 := by kernel_rfl
theorem cells_16 : Try.prog.cellsOf 33 = 16 := by kernel_rfl
theorem cells_addr : Try.prog.cellsOf 35 = 17 := by kernel_rfl
theorem one_of_take {cs : List Value} {i : Nat} {v : Value} (h : (cs.drop i).take 1 = [v]) : cs[i]? = some v := by
  have := congrArg (·[0]?) h
  simpa using this
theorem open_addr {r : Reach} {b0 : Nat} {v : Value} {d : DataW H} {ps : List MemPlace} (hv : Value.okWide Try.prog W r b0 35 v) (hd : DataW.Trod enc Try.prog W 0 (fun _ => true) true 35 v d ps) :
    ∃ s bs, v = .agg (addrC s bs) ∧ bs.length = 16 := by
  obtain ⟨cs, rfl, hcs⟩ := okWide_struct Try.underlying35 hv
  rw [cells_addr] at hcs
  obtain ⟨fuel, hf⟩ := hd
  obtain ⟨y0, y1, n, _, hl, h0, h1⟩ := trod_struct2 Try.underlying35 hf
  obtain ⟨b, hb, _⟩ := DataW.trod_bool Try.underlying4 h0
  obtain ⟨xs, m, _, _, hxl, hxn, hx⟩ := DataW.trod_array Try.underlying33 h1
  have hb' : cs[0]? = some (.bool b) := by
    have := one_of_take (i := 0) (cs := (Value.agg cs).cells.toList) (v := .bool b) (by rw [← hb]; rw [cells_bool])
    simpa [Value.cells] using this
  have each : ∀ i, ∃ x : UInt8, i < 16 → cs[i + 1]? = some (v8 x) := by
    intro i
    by_cases hi : i < 16
    · have hxi := hx i hi
      obtain ⟨x, hxx⟩ : ∃ x, xs[i]? = some x := ⟨_, List.getElem?_eq_getElem (by rw [hxn]; exact hi)⟩
      rw [hxx] at hxi
      obtain ⟨z, hz, _, hw⟩ := DataW.trod_int Try.underlying5 hxi
      obtain ⟨r1, r2⟩ := range_u8 hw
      rw [cells_u8, cells_16, Nat.mul_one] at hz
      have := one_of_take hz
      refine ⟨UInt8.ofNat z.toNat, fun _ => ?_⟩
      rw [v8_of _ (by omega), show ((z.toNat : Nat) : Int) = z by omega]
      simp [Value.cells, hi] at this
      simpa using this
    · exact ⟨0, fun h => absurd h hi⟩
  refine ⟨b, (List.range 16).map fun i => Classical.choose (each i), ?_, by simp⟩
  congr 1
  apply Array.ext_getElem?
  intro i
  unfold addrC
  match i with
  | 0 => rw [hb']; rfl
  | i + 1 =>
    by_cases hi : i < 16
    · rw [Classical.choose_spec (each i) hi]
      simp [hi]
    · rw [Array.getElem?_eq_none (by omega), Array.getElem?_eq_none (by simp; omega)]
end
end Go.Proofs.Ytgjjepcjdekihaa
