/-
  Six whole numbers as an argument.
-/
import Derived.Test.YtljmegmklfohjaaQB
import Derived.Test.YtljmegmklfohjaaQ10
import Derived.Deep.Slices
import Derived.Deep.Fields
namespace Go.Proofs.Ytljmegmklfohjaa
set_option maxRecDepth 100000
open Go.RowKit Go.Lib Go.ChangeShapes Go.WideShapes Go.ChangeAt Go.Deep

section
variable {H : Type} {enc : TypeId × Value → H} {W : World}
def In64 (z : Int) : Prop := -9223372036854775808 ≤ z ∧ z ≤ 9223372036854775807
theorem cZ_int : Try.prog.cellsOf 3 = 1 := by kernel_rfl
theorem cZ_six : Try.prog.cellsOf 30 = 6 := by kernel_rfl
/-- Six numbers by value. -/
def zL (l : List Int) : List Value := l.map fun z => Value.int .i64 z
def zC (l : List Int) : Value := .agg (zL l).toArray
theorem open_idle {v : Value} {d : DataW H} {ps : List MemPlace} (hd : DataW.Trod enc Try.prog W 0 (fun _ => true) true 30 v d ps) :
    ∃ l : List Int, v = zC l ∧ l.length = 6 ∧ ∀ x, x ∈ l → In64 x := by
  obtain ⟨fuel, hf⟩ := hd
  obtain ⟨xs, m, _, _, hl, hxn, hx⟩ := DataW.trod_array Try.underlying30 hf
  rw [cZ_six] at hl
  have hv : ∃ cs, v = .agg cs := by
    cases v with
    | agg cs => exact ⟨cs, rfl⟩
    | _ => simp [Value.cells] at hl
  obtain ⟨cs, rfl⟩ := hv
  have each : ∀ i, ∃ z : Int, (i < 6 → cs.toList[i]? = some (.int .i64 z)) ∧ In64 z := by
    intro i
    by_cases hi : i < 6
    · have hxi := hx i hi
      obtain ⟨x, hxx⟩ : ∃ x, xs[i]? = some x := ⟨_, List.getElem?_eq_getElem (by rw [hxn]; exact hi)⟩
      rw [hxx] at hxi
      obtain ⟨z, hz, _, hw⟩ := DataW.trod_int Try.underlying3 hxi
      rw [cZ_int, Nat.mul_one] at hz
      exact ⟨z, fun _ => one_of_take hz, range_i64 hw⟩
    · exact ⟨0, fun h => absurd h hi, by decide, by decide⟩
  refine ⟨(List.range 6).map fun i => Classical.choose (each i), ?_, by simp, fun x hx => ?_⟩
  · unfold zC zL
    congr 1
    have : cs.toList = ((List.range 6).map fun i => Classical.choose (each i)).map fun z => Value.int .i64 z := by
      apply List.ext_getElem?
      intro i
      by_cases hi : i < 6
      · rw [(Classical.choose_spec (each i)).1 hi, List.getElem?_map, List.getElem?_map, List.getElem?_range hi]
        rfl
      · rw [List.getElem?_eq_none (by simp [Value.cells] at hl ⊢; omega), List.getElem?_eq_none (by simp; omega)]
    rw [← this]
  · obtain ⟨i, _, rfl⟩ := List.mem_map.1 hx
    exact (Classical.choose_spec (each i)).2
end
end Go.Proofs.Ytljmegmklfohjaa
