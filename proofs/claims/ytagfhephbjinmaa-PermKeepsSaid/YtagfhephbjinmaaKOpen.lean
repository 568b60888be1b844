/-
  Arguments of stage 11: headers of frames, tuples.
-/
import Derived.Test.YtagfhephbjinmaaKMake
import Derived.Deep.Slices
import Derived.Deep.Fields
import Derived.BigFrame
namespace Go.Proofs.Ytagfhephbjinmaa
set_option maxRecDepth 100000
open Go.RowKit Go.Lib Go.ChangeShapes Go.WideShapes Go.ChangeAt Go.Deep
section
variable {H : Type} {enc : TypeId × Value → H} {W : World}
/-- Sixteen cells that read as an array of bytes. -/
theorem sixteen_cells {fuel : Nat} {cs : List Value} {y : DataW H × List MemPlace} (h : DataW.trod enc Try.prog W 0 (fun _ => true) true fuel 28 cs = some y) :
    ∃ bs : List UInt8, bs.length = 16 ∧ ∀ i, i < 16 → cs[i]? = (bs.map v8)[i]? := by
  obtain ⟨xs, m, _, _, hxl, hxn, hx⟩ := DataW.trod_array Try.underlying28 h
  have each : ∀ i, ∃ x : UInt8, i < 16 → cs[i]? = some (v8 x) := by
    intro i
    by_cases hi : i < 16
    · have hxi := hx i hi
      obtain ⟨x, hxx⟩ : ∃ x, xs[i]? = some x := ⟨_, List.getElem?_eq_getElem (by rw [hxn]; exact hi)⟩
      rw [hxx] at hxi
      obtain ⟨z, hz, _, hw⟩ := DataW.trod_int Try.underlying5 hxi
      obtain ⟨r1, r2⟩ := range_u8 hw
      rw [cells_u8, Nat.mul_one] at hz
      have := one_of_take hz
      refine ⟨UInt8.ofNat z.toNat, fun _ => ?_⟩
      rw [v8_of _ (by omega), show ((z.toNat : Nat) : Int) = z by omega]
      exact this
    · exact ⟨0, fun h => absurd h hi⟩
  refine ⟨(List.range 16).map fun i => Classical.choose (each i), by simp, fun i hi => ?_⟩
  rw [Classical.choose_spec (each i) hi]
  simp [hi]
end
end Go.Proofs.Ytagfhephbjinmaa
