/-
  Arguments of stage 19: a health, slices of healths, of results and of names.
-/
import Derived.Test.YteljijjebocbiaaYRun
import Derived.Test.YteljijjebocbiaaSlDec
namespace Go.Proofs.Yteljijjebocbiaa
set_option maxRecDepth 100000
open Go.RowKit Go.Lib Go.ChangeShapes Go.WideShapes Go.ChangeAt Go.Deep

section
variable {H : Type} {enc : TypeId × Value → H} {W : World}
theorem cY_int : Try.prog.cellsOf 3 = 1 := by kernel_rfl
theorem cY_bool : Try.prog.cellsOf 4 = 1 := by kernel_rfl
theorem cY_hl : Try.prog.cellsOf 23 = 3 := by kernel_rfl
def HlOk (h : Hl) : Prop := h.nm.length ≤ maxLen ∧ InR h
theorem hl_dec {fuel : Nat} {cs : List Value} {y : DataW H × List MemPlace} (h : DataW.trod enc Try.prog W 0 (fun _ => true) true fuel 23 cs = some y) :
    ∃ b : Hl, cs = hlL b ∧ HlOk b := by
  obtain ⟨xs, n, _, _, hcl, hlen, hg⟩ := DataW.trod_struct Try.underlying23 h
  rw [cY_hl] at hcl
  have some_ : ∀ j, j < 3 → ∃ y, xs[j]? = some y := fun j hj => ⟨_, List.getElem?_eq_getElem (by rw [hlen]; exact hj)⟩
  obtain ⟨y0, e0⟩ := some_ 0 (by omega)
  obtain ⟨y1, e1⟩ := some_ 1 (by omega)
  obtain ⟨y2, e2⟩ := some_ 2 (by omega)
  obtain ⟨s, h0, _, w0⟩ := DataW.trod_string Try.underlying9 ((hg 0 _ rfl).trans e0)
  obtain ⟨d, h1, _⟩ := DataW.trod_bool Try.underlying4 ((hg 1 _ rfl).trans e1)
  obtain ⟨z, h2, _, w2⟩ := DataW.trod_int Try.underlying3 ((hg 2 _ rfl).trans e2)
  have k0 : (cs.drop 0).take 1 = [.string s] := by rw [← cU_str]; exact h0
  have k1 : (cs.drop 1).take 1 = [.bool d] := by rw [← cY_bool]; exact h1
  have k2 : (cs.drop 2).take 1 = [.int .i64 z] := by rw [← cY_int]; exact h2
  rw [lastU cs 2 1 hcl] at k2
  have p1 := pieceU cs 1 1
  rw [k1, show 1 + 1 = 2 from rfl, k2] at p1
  have p0 := pieceU cs 0 1
  rw [k0, show 0 + 1 = 1 from rfl, ← p1] at p0
  refine ⟨⟨s.data.toList, d, z⟩, ?_, w0, range_i64 w2⟩
  refine p0.symm.trans ?_
  unfold hlL strV
  rfl
theorem bool_dec {fuel : Nat} {cs : List Value} {y : DataW H × List MemPlace} (h : DataW.trod enc Try.prog W 0 (fun _ => true) true fuel 4 cs = some y) : ∃ b : Bool, cs = [.bool b] ∧ True := by
  obtain ⟨b, hb, _⟩ := DataW.trod_bool Try.underlying4 h
  exact ⟨b, hb, trivial⟩
theorem open_hl {r : Reach} {b0 : Nat} {v : Value} {d : DataW H} {ps : List MemPlace} (hv : Value.okWide Try.prog W r b0 23 v) (hd : DataW.Trod enc Try.prog W 0 (fun _ => true) true 23 v d ps) : ∃ b, v = hlC b ∧ HlOk b := by
  obtain ⟨cs, rfl, _⟩ := okWide_struct Try.underlying23 hv
  obtain ⟨fuel, hf⟩ := hd
  obtain ⟨b, h1, h2⟩ := hl_dec hf
  refine ⟨b, ?_, h2⟩
  show Value.agg cs = .agg (hlL b).toArray
  rw [← h1]
  rfl
theorem open_hls {r : Reach} {b0 : Nat} {v : Value} {d : DataW H} {ps : List MemPlace} (hv : Value.okWide Try.prog W r b0 34 v) (hd : DataW.Trod enc Try.prog W 0 (fun _ => true) true 34 v d ps) :
    ∃ A len cap xs, v = .slice A len cap ∧ len ≤ cap ∧ cap ≤ maxLen ∧ RdG eH W W.heap.size A len xs ∧ ∀ x, x ∈ xs → HlOk x := by
  obtain ⟨A, len, cap, rfl⟩ := okWide_slice Try.underlying34 hv
  obtain ⟨fuel, hf⟩ := hd
  exact slice_dec eH cY_hl (by decide) ⟨[], false, 0⟩ (Pr := HlOk) (fun h => hl_dec h) hf
theorem open_bools {r : Reach} {b0 : Nat} {v : Value} {d : DataW H} {ps : List MemPlace} (hv : Value.okWide Try.prog W r b0 28 v) (hd : DataW.Trod enc Try.prog W 0 (fun _ => true) true 28 v d ps) :
    ∃ A len cap xs, v = .slice A len cap ∧ len ≤ cap ∧ cap ≤ maxLen ∧ RdG eT W W.heap.size A len xs := by
  obtain ⟨A, len, cap, rfl⟩ := okWide_slice Try.underlying28 hv
  obtain ⟨fuel, hf⟩ := hd
  obtain ⟨A, len, cap, xs, h1, h2, h3, h4, _⟩ := slice_dec eT cY_bool (by decide) false (Pr := fun _ => True) (fun h => bool_dec h) hf
  exact ⟨A, len, cap, xs, h1, h2, h3, h4⟩
end
end Go.Proofs.Yteljijjebocbiaa
