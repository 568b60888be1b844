/-
  An argument that is a key of sixteen bytes.
-/
import Derived.Test.YtmngagcekhlppaaHROf
import Derived.Test.YtmngagcekhlppaaKOpen
namespace Go.Proofs.Ytmngagcekhlppaa
set_option maxRecDepth 100000
open Go.RowKit Go.Lib Go.ChangeShapes Go.WideShapes Go.ChangeAt Go.Deep
section
variable {H : Type} {enc : TypeId × Value → H} {W : World}
theorem open_key {v : Value} {d : DataW H} {ps : List MemPlace} (hd : DataW.Trod enc Try.prog W 0 (fun _ => true) true 22 v d ps) :
    ∃ bs : List UInt8, v = keyC bs ∧ bs.length = 16 := by
  obtain ⟨fuel, hf⟩ := hd
  obtain ⟨bs, hb, hc⟩ := sixteen_cells hf
  obtain ⟨_, _, _, _, hl, _, _⟩ := DataW.trod_array Try.underlying22 hf
  rw [cells_16] at hl
  have hv : ∃ cs, v = .agg cs := by
    cases v with
    | agg cs => exact ⟨cs, rfl⟩
    | _ => simp [Value.cells] at hl
  obtain ⟨cs, rfl⟩ := hv
  refine ⟨bs, ?_, hb⟩
  unfold keyC
  congr 1
  have : cs.toList = bs.map v8 := by
    apply List.ext_getElem?
    intro i
    by_cases hi : i < 16
    · exact hc i hi
    · rw [List.getElem?_eq_none (by simp [Value.cells] at hl ⊢; omega), List.getElem?_eq_none (by rw [List.length_map]; omega)]
  rw [← this]
end
end Go.Proofs.Ytmngagcekhlppaa
