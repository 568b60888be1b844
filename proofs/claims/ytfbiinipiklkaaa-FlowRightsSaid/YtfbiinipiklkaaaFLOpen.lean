/-
  Arguments of stage 21: flows, acts, slices of these.
-/
import Derived.Test.YtfbiinipiklkaaaFLEx
import Derived.Test.YtfbiinipiklkaaaSlDec
namespace Go.Proofs.Ytfbiinipiklkaaa
set_option maxRecDepth 100000
open Go.RowKit Go.Lib Go.ChangeShapes Go.WideShapes Go.ChangeAt Go.Deep

section
variable {H : Type} {enc : TypeId × Value → H} {W : World}
theorem cF_u8 : Try.prog.cellsOf 5 = 1 := by kernel_rfl
theorem cF_int : Try.prog.cellsOf 3 = 1 := by kernel_rfl
theorem cF_bool : Try.prog.cellsOf 4 = 1 := by kernel_rfl
theorem cF_16 : Try.prog.cellsOf 22 = 16 := by kernel_rfl
theorem cF_ad : Try.prog.cellsOf 24 = 17 := by kernel_rfl
theorem cF_tu : Try.prog.cellsOf 26 = 37 := by kernel_rfl
theorem cF_fw : Try.prog.cellsOf 28 = 41 := by kernel_rfl
theorem cF_ac : Try.prog.cellsOf 47 = 49 := by kernel_rfl
theorem cF_six : Try.prog.cellsOf 45 = 6 := by kernel_rfl
theorem bytes_dec {n : Nat} {T : TypeId} (ht : Try.prog.underlying T = some (.array n 5)) (hC : Try.prog.cellsOf T = n) {fuel : Nat} {cs : List Value} {y : DataW H × List MemPlace} (h : DataW.trod enc Try.prog W 0 (fun _ => true) true fuel T cs = some y) :
    ∃ bs : List UInt8, bs.length = n ∧ cs = bs.map v8 := by
  obtain ⟨xs, m, _, _, hxl, hxn, hx⟩ := DataW.trod_array ht h
  rw [hC] at hxl
  have each : ∀ i, ∃ x : UInt8, i < n → cs[i]? = some (v8 x) := by
    intro i
    by_cases hi : i < n
    · have hxi := hx i hi
      obtain ⟨x, hxx⟩ : ∃ x, xs[i]? = some x := ⟨_, List.getElem?_eq_getElem (by rw [hxn]; exact hi)⟩
      rw [hxx] at hxi
      obtain ⟨z, hz, _, hw⟩ := DataW.trod_int Try.underlying5 hxi
      obtain ⟨r1, r2⟩ := range_u8 hw
      rw [cF_u8, Nat.mul_one] at hz
      have h1 : cs[i]? = some (.int .u8 z) := by
        have h2 := congrArg (fun l : List Value => l[0]?) hz
        simpa using h2
      refine ⟨UInt8.ofNat z.toNat, fun _ => ?_⟩
      rw [v8_of _ (by omega), show ((z.toNat : Nat) : Int) = z by omega]
      exact h1
    · exact ⟨0, fun h => absurd h hi⟩
  refine ⟨(List.range n).map fun i => Classical.choose (each i), by simp, ?_⟩
  apply List.ext_getElem?
  intro i
  by_cases hi : i < n
  · rw [Classical.choose_spec (each i) hi]
    simp [hi]
  · rw [List.getElem?_eq_none (by omega), List.getElem?_eq_none (by simp; omega)]
theorem ad_dec {fuel : Nat} {cs : List Value} {y : DataW H × List MemPlace} (h : DataW.trod enc Try.prog W 0 (fun _ => true) true fuel 24 cs = some y) : ∃ a : Ad, a.b.length = 16 ∧ cs = adL a := by
  obtain ⟨xs, n, _, _, hcl, hlen, hg⟩ := DataW.trod_struct Try.underlying24 h
  rw [cF_ad] at hcl
  obtain ⟨y0, e0⟩ : ∃ y, xs[0]? = some y := ⟨_, List.getElem?_eq_getElem (by rw [hlen]; decide)⟩
  obtain ⟨y1, e1⟩ : ∃ y, xs[1]? = some y := ⟨_, List.getElem?_eq_getElem (by rw [hlen]; decide)⟩
  obtain ⟨b, hb, _⟩ := DataW.trod_bool Try.underlying4 ((hg 0 _ rfl).trans e0)
  obtain ⟨bs, hl, hc⟩ := bytes_dec Try.underlying22 cF_16 ((hg 1 _ rfl).trans e1)
  have k0 : (cs.drop 0).take 1 = [.bool b] := by rw [← cF_bool]; exact hb
  have k1 : (cs.drop 1).take 16 = bs.map v8 := by rw [← cF_16]; exact hc
  refine ⟨⟨b, bs⟩, hl, ?_⟩
  rw [lastU cs 1 16 hcl] at k1
  have p0 := pieceU cs 0 1
  rw [k0, show 0 + 1 = 1 from rfl, k1] at p0
  exact p0.symm
theorem six_dec {fuel : Nat} {cs : List Value} {y : DataW H × List MemPlace} (h : DataW.trod enc Try.prog W 0 (fun _ => true) true fuel 45 cs = some y) : ∃ l : List Int, cs = zL l ∧ l.length = 6 ∧ ∀ z, z ∈ l → In64 z := by
  have hcl : cs.length = 6 := by
    obtain ⟨xs, m, _, _, hl, _, _⟩ := DataW.trod_array Try.underlying45 h
    rw [cF_six] at hl
    exact hl
  have hd : DataW.Trod enc Try.prog W 0 (fun _ => true) true 45 (.agg cs.toArray) y.1 y.2 := ⟨fuel, by
    show DataW.trod enc Try.prog W 0 (fun _ => true) true fuel 45 cs.toArray.toList = some (y.1, y.2)
    exact h⟩
  obtain ⟨l, h1, h2, h3⟩ := open_idle hd
  refine ⟨l, ?_, h2, h3⟩
  have h4 : (Value.agg cs.toArray) = .agg (zL l).toArray := h1
  have h5 := Value.agg.inj h4
  have h6 := congrArg Array.toList h5
  simpa using h6
def TuOk (t : Tu) : Prop := t.Ok ∧ In64 t.pr ∧ In64 t.sp ∧ In64 t.dp
theorem tu_dec {fuel : Nat} {cs : List Value} {y : DataW H × List MemPlace} (h : DataW.trod enc Try.prog W 0 (fun _ => true) true fuel 26 cs = some y) : ∃ t : Tu, cs = tuL t ∧ TuOk t := by
  obtain ⟨xs, n, _, _, hcl, hlen, hg⟩ := DataW.trod_struct Try.underlying26 h
  rw [cF_tu] at hcl
  have some_ : ∀ j, j < 5 → ∃ y, xs[j]? = some y := fun j hj => ⟨_, List.getElem?_eq_getElem (by rw [hlen]; exact hj)⟩
  obtain ⟨y0, e0⟩ := some_ 0 (by omega)
  obtain ⟨y1, e1⟩ := some_ 1 (by omega)
  obtain ⟨y2, e2⟩ := some_ 2 (by omega)
  obtain ⟨y3, e3⟩ := some_ 3 (by omega)
  obtain ⟨y4, e4⟩ := some_ 4 (by omega)
  obtain ⟨a, la, h0⟩ := ad_dec ((hg 0 _ rfl).trans e0)
  obtain ⟨b, lb, h1⟩ := ad_dec ((hg 1 _ rfl).trans e1)
  obtain ⟨z2, h2, _, w2⟩ := DataW.trod_int Try.underlying3 ((hg 2 _ rfl).trans e2)
  obtain ⟨z3, h3, _, w3⟩ := DataW.trod_int Try.underlying3 ((hg 3 _ rfl).trans e3)
  obtain ⟨z4, h4, _, w4⟩ := DataW.trod_int Try.underlying3 ((hg 4 _ rfl).trans e4)
  have k0 : (cs.drop 0).take 17 = adL a := by rw [← cF_ad]; exact h0
  have k1 : (cs.drop 17).take 17 = adL b := by rw [← cF_ad]; exact h1
  have k2 : (cs.drop 34).take 1 = [.int .i64 z2] := by rw [← cF_int]; exact h2
  have k3 : (cs.drop 35).take 1 = [.int .i64 z3] := by rw [← cF_int]; exact h3
  have k4 : (cs.drop 36).take 1 = [.int .i64 z4] := by rw [← cF_int]; exact h4
  rw [lastU cs 36 1 hcl] at k4
  have p3 := pieceU cs 35 1
  rw [k3, show 35 + 1 = 36 from rfl, k4] at p3
  have p2 := pieceU cs 34 1
  rw [k2, show 34 + 1 = 35 from rfl, ← p3] at p2
  have p1 := pieceU cs 17 17
  rw [k1, show 17 + 17 = 34 from rfl, ← p2] at p1
  have p0 := pieceU cs 0 17
  rw [k0, show 0 + 17 = 17 from rfl, ← p1] at p0
  refine ⟨⟨a, b, z2, z3, z4⟩, ?_, ⟨la, lb⟩, range_i64 w2, range_i64 w3, range_i64 w4⟩
  refine p0.symm.trans ?_
  unfold tuL
  first | rfl | simp
/-- A flow with a name that may be, its numbers being of 64 bits. -/
structure FwOk (f : Fw) : Prop where
  nm : f.nm.length ≤ maxLen
  st : In64 f.st
  sn : In64 f.sn
  no : In64 f.no
  k : TuOk f.k
theorem FwOk.inF {f : Fw} (h : FwOk f) (hn : f.nm.length ≤ 200) : InF f := ⟨hn, h.st, h.sn, h.no, h.k.2.1, h.k.2.2.1, h.k.2.2.2⟩
theorem FwOk.inT {f : Fw} (h : FwOk f) : InT f.k := ⟨f.ok, h.k.2.1, h.k.2.2.1, h.k.2.2.2⟩
theorem fw_dec {fuel : Nat} {cs : List Value} {y : DataW H × List MemPlace} (h : DataW.trod enc Try.prog W 0 (fun _ => true) true fuel 28 cs = some y) : ∃ f : Fw, cs = fwL f ∧ FwOk f := by
  obtain ⟨xs, n, _, _, hcl, hlen, hg⟩ := DataW.trod_struct Try.underlying28 h
  rw [cF_fw] at hcl
  have some_ : ∀ j, j < 5 → ∃ y, xs[j]? = some y := fun j hj => ⟨_, List.getElem?_eq_getElem (by rw [hlen]; exact hj)⟩
  obtain ⟨y0, e0⟩ := some_ 0 (by omega)
  obtain ⟨y1, e1⟩ := some_ 1 (by omega)
  obtain ⟨y2, e2⟩ := some_ 2 (by omega)
  obtain ⟨y3, e3⟩ := some_ 3 (by omega)
  obtain ⟨y4, e4⟩ := some_ 4 (by omega)
  obtain ⟨t, h0, ht⟩ := tu_dec ((hg 0 _ rfl).trans e0)
  obtain ⟨s, h1, w1⟩ := name_dec ((hg 1 _ rfl).trans e1)
  obtain ⟨z2, h2, _, w2⟩ := DataW.trod_int Try.underlying3 ((hg 2 _ rfl).trans e2)
  obtain ⟨z3, h3, _, w3⟩ := DataW.trod_int Try.underlying3 ((hg 3 _ rfl).trans e3)
  obtain ⟨z4, h4, _, w4⟩ := DataW.trod_int Try.underlying3 ((hg 4 _ rfl).trans e4)
  have k0 : (cs.drop 0).take 37 = tuL t := by rw [← cF_tu]; exact h0
  have k1 : (cs.drop 37).take 1 = [strV s] := by rw [← cU_str]; exact h1
  have k2 : (cs.drop 38).take 1 = [.int .i64 z2] := by rw [← cF_int]; exact h2
  have k3 : (cs.drop 39).take 1 = [.int .i64 z3] := by rw [← cF_int]; exact h3
  have k4 : (cs.drop 40).take 1 = [.int .i64 z4] := by rw [← cF_int]; exact h4
  rw [lastU cs 40 1 hcl] at k4
  have p3 := pieceU cs 39 1
  rw [k3, show 39 + 1 = 40 from rfl, k4] at p3
  have p2 := pieceU cs 38 1
  rw [k2, show 38 + 1 = 39 from rfl, ← p3] at p2
  have p1 := pieceU cs 37 1
  rw [k1, show 37 + 1 = 38 from rfl, ← p2] at p1
  have p0 := pieceU cs 0 37
  rw [k0, show 0 + 37 = 37 from rfl, ← p1] at p0
  exact ⟨⟨t, s, z2, z3, z4, ht.1⟩, p0.symm, w1, range_i64 w2, range_i64 w3, range_i64 w4, ht⟩
structure AcOk (a : Ac) : Prop where
  kind : In64 a.kind
  fl : FwOk a.fl
  now : In64 a.now
  idle : ∀ z, z ∈ a.idle → In64 z
theorem ac_dec {fuel : Nat} {cs : List Value} {y : DataW H × List MemPlace} (h : DataW.trod enc Try.prog W 0 (fun _ => true) true fuel 47 cs = some y) : ∃ a : Ac, cs = acL a ∧ AcOk a := by
  obtain ⟨xs, n, _, _, hcl, hlen, hg⟩ := DataW.trod_struct Try.underlying47 h
  rw [cF_ac] at hcl
  have some_ : ∀ j, j < 4 → ∃ y, xs[j]? = some y := fun j hj => ⟨_, List.getElem?_eq_getElem (by rw [hlen]; exact hj)⟩
  obtain ⟨y0, e0⟩ := some_ 0 (by omega)
  obtain ⟨y1, e1⟩ := some_ 1 (by omega)
  obtain ⟨y2, e2⟩ := some_ 2 (by omega)
  obtain ⟨y3, e3⟩ := some_ 3 (by omega)
  obtain ⟨z0, h0, _, w0⟩ := DataW.trod_int Try.underlying3 ((hg 0 _ rfl).trans e0)
  obtain ⟨f, h1, hf⟩ := fw_dec ((hg 1 _ rfl).trans e1)
  obtain ⟨z2, h2, _, w2⟩ := DataW.trod_int Try.underlying3 ((hg 2 _ rfl).trans e2)
  obtain ⟨l, h3, h6, hl⟩ := six_dec ((hg 3 _ rfl).trans e3)
  have k0 : (cs.drop 0).take 1 = [.int .i64 z0] := by rw [← cF_int]; exact h0
  have k1 : (cs.drop 1).take 41 = fwL f := by rw [← cF_fw]; exact h1
  have k2 : (cs.drop 42).take 1 = [.int .i64 z2] := by rw [← cF_int]; exact h2
  have k3 : (cs.drop 43).take 6 = zL l := by rw [← cF_six]; exact h3
  rw [lastU cs 43 6 hcl] at k3
  have p2 := pieceU cs 42 1
  rw [k2, show 42 + 1 = 43 from rfl, k3] at p2
  have p1 := pieceU cs 1 41
  rw [k1, show 1 + 41 = 42 from rfl, ← p2] at p1
  have p0 := pieceU cs 0 1
  rw [k0, show 0 + 1 = 1 from rfl, ← p1] at p0
  exact ⟨⟨z0, f, z2, l, h6⟩, p0.symm, range_i64 w0, hf, range_i64 w2, hl⟩
theorem open_fw {r : Reach} {b0 : Nat} {v : Value} {d : DataW H} {ps : List MemPlace} (hv : Value.okWide Try.prog W r b0 28 v) (hd : DataW.Trod enc Try.prog W 0 (fun _ => true) true 28 v d ps) : ∃ f, v = fwC f ∧ FwOk f := by
  obtain ⟨cs, rfl, _⟩ := okWide_struct Try.underlying28 hv
  obtain ⟨fuel, hf⟩ := hd
  obtain ⟨b, h1, h2⟩ := fw_dec hf
  refine ⟨b, ?_, h2⟩
  show Value.agg cs = .agg (fwL b).toArray
  rw [← h1]
  rfl
theorem open_fws {r : Reach} {b0 : Nat} {v : Value} {d : DataW H} {ps : List MemPlace} (hv : Value.okWide Try.prog W r b0 42 v) (hd : DataW.Trod enc Try.prog W 0 (fun _ => true) true 42 v d ps) :
    ∃ A len cap xs, v = .slice A len cap ∧ len ≤ cap ∧ cap ≤ maxLen ∧ RdG eF W W.heap.size A len xs ∧ ∀ x, x ∈ xs → FwOk x := by
  obtain ⟨A, len, cap, rfl⟩ := okWide_slice Try.underlying42 hv
  obtain ⟨fuel, hf⟩ := hd
  exact slice_dec eF cF_fw (by decide) fw0 (Pr := FwOk) (fun h => fw_dec h) hf
theorem open_acts {r : Reach} {b0 : Nat} {v : Value} {d : DataW H} {ps : List MemPlace} (hv : Value.okWide Try.prog W r b0 38 v) (hd : DataW.Trod enc Try.prog W 0 (fun _ => true) true 38 v d ps) :
    ∃ A len cap xs, v = .slice A len cap ∧ len ≤ cap ∧ cap ≤ maxLen ∧ RdG eAc W W.heap.size A len xs ∧ ∀ x, x ∈ xs → AcOk x := by
  obtain ⟨A, len, cap, rfl⟩ := okWide_slice Try.underlying38 hv
  obtain ⟨fuel, hf⟩ := hd
  exact slice_dec eAc cF_ac (by decide) ac0 (Pr := AcOk) (fun h => ac_dec h) hf
end
end Go.Proofs.Ytfbiinipiklkaaa
