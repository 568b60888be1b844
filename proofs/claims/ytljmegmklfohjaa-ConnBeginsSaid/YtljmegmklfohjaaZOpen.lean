/-
  Arguments of stage 20: slices of whole numbers.
-/
import Derived.Test.YtljmegmklfohjaaEZ
import Derived.Test.YtljmegmklfohjaaSlDec
import Derived.Test.YtljmegmklfohjaaZIdle
namespace Go.Proofs.Ytljmegmklfohjaa
set_option maxRecDepth 100000
open Go.RowKit Go.Lib Go.ChangeShapes Go.WideShapes Go.ChangeAt Go.Deep

section
variable {H : Type} {enc : TypeId × Value → H} {W : World}
theorem int_dec {fuel : Nat} {cs : List Value} {y : DataW H × List MemPlace} (h : DataW.trod enc Try.prog W 0 (fun _ => true) true fuel 3 cs = some y) : ∃ z : Int, cs = [.int .i64 z] ∧ In64 z := by
  obtain ⟨z, hz, _, hw⟩ := DataW.trod_int Try.underlying3 h
  exact ⟨z, hz, range_i64 hw⟩
theorem open_ints {r : Reach} {b0 : Nat} {v : Value} {d : DataW H} {ps : List MemPlace} (hv : Value.okWide Try.prog W r b0 25 v) (hd : DataW.Trod enc Try.prog W 0 (fun _ => true) true 25 v d ps) :
    ∃ A len cap xs, v = .slice A len cap ∧ len ≤ cap ∧ cap ≤ maxLen ∧ RdG eZ W W.heap.size A len xs ∧ ∀ x, x ∈ xs → In64 x := by
  obtain ⟨A, len, cap, rfl⟩ := okWide_slice Try.underlying25 hv
  obtain ⟨fuel, hf⟩ := hd
  exact slice_dec eZ cZ_int (by decide) 0 (Pr := In64) (fun h => int_dec h) hf
end
end Go.Proofs.Ytljmegmklfohjaa
