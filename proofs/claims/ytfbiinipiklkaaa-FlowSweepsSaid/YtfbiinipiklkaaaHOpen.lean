/-
  The document's Read of frames.
  The document's header with a Type; the statements' own tuple.
  Plain mathematics of stage 11: what a frame that is made is, why there is none, and how it is read.
  Arguments of stage 11: headers of frames, tuples.
  An argument that is a key of sixteen bytes.
-/
import Derived.Test.YtfbiinipiklkaaaQ10
import Derived.Test.YtfbiinipiklkaaaKRef1
import Derived.Deep.Slices
import Derived.Deep.Fields
import Derived.BigFrame
import Derived.Test.YtfbiinipiklkaaaHROf
namespace Go.Proofs.Ytfbiinipiklkaaa
open Go.RowKit Go.Lib
end Go.Proofs.Ytfbiinipiklkaaa
namespace Go.Proofs.Ytfbiinipiklkaaa
open Go.RowKit Go.Lib
end Go.Proofs.Ytfbiinipiklkaaa
namespace Go.Proofs.Ytfbiinipiklkaaa
open Go.RowKit Go.Lib
structure MakeOk (L : Lk) (t : Tu) (f : Int) : Prop where
  link : rightB_7 (typedL L t) = true
  fam : famB t.s t.d = true
  pr : t.pr = 6 ∨ t.pr = 17
  s0 : 0 ≤ t.sp
  s1 : t.sp ≤ 65535
  d0 : 0 ≤ t.dp
  d1 : t.dp ≤ 65535
  f0 : 0 ≤ f
  f1 : f ≤ 63
  fu : t.pr = 17 → f = 0
section
variable {L : Lk} {t : Tu} {f : Int} {load : List UInt8}
end
end Go.Proofs.Ytfbiinipiklkaaa
namespace Go.Proofs.Ytfbiinipiklkaaa
set_option maxRecDepth 100000
open Go.RowKit Go.Lib Go.ChangeShapes Go.WideShapes Go.ChangeAt Go.Deep
section
variable {H : Type} {enc : TypeId × Value → H} {W : World}
theorem cells_tu : Try.prog.cellsOf 26 = 37 := by kernel_rfl
/-- Sixteen cells that read as an array of bytes. -/
theorem sixteen_cells {fuel : Nat} {cs : List Value} {y : DataW H × List MemPlace} (h : DataW.trod enc Try.prog W 0 (fun _ => true) true fuel 22 cs = some y) :
    ∃ bs : List UInt8, bs.length = 16 ∧ ∀ i, i < 16 → cs[i]? = (bs.map v8)[i]? := by
  obtain ⟨xs, m, _, _, hxl, hxn, hx⟩ := DataW.trod_array Try.underlying22 h
  have each : ∀ i, ∃ x : UInt8, i < 16 → cs[i]? = some (v8 x) := by
    intro i
    by_cases hi : i < 16
    · have hxi := hx i hi
      obtain ⟨x, hxx⟩ : ∃ x, xs[i]? = some x := ⟨_, List.getElem?_eq_getElem (by rw [hxn]; exact hi)⟩
      rw [hxx] at hxi
      obtain ⟨z, hz, _, hw⟩ := DataW.trod_int Try.underlying5 hxi
      obtain ⟨r1, r2⟩ := range_u8 hw
      rw [cells_u8, Nat.mul_one] at hz
      have := one_of_take hz
      refine ⟨UInt8.ofNat z.toNat, fun _ => ?_⟩
      rw [v8_of _ (by omega), show ((z.toNat : Nat) : Int) = z by omega]
      exact this
    · exact ⟨0, fun h => absurd h hi⟩
  refine ⟨(List.range 16).map fun i => Classical.choose (each i), by simp, fun i hi => ?_⟩
  rw [Classical.choose_spec (each i) hi]
  simp [hi]
/-- Seventeen cells that read as an address. -/
theorem ad_cells {fuel : Nat} {cs : List Value} {y : DataW H × List MemPlace} (h : DataW.trod enc Try.prog W 0 (fun _ => true) true fuel 24 cs = some y) :
    ∃ a : Ad, a.b.length = 16 ∧ ∀ i, i < 17 → cs[i]? = (adL a)[i]? := by
  obtain ⟨xs, n, _, _, _, hlen, hg⟩ := DataW.trod_struct Try.underlying24 h
  obtain ⟨y0, e0⟩ : ∃ y, xs[0]? = some y := ⟨_, List.getElem?_eq_getElem (by rw [hlen]; decide)⟩
  obtain ⟨y1, e1⟩ : ∃ y, xs[1]? = some y := ⟨_, List.getElem?_eq_getElem (by rw [hlen]; decide)⟩
  obtain ⟨b, hb, _⟩ := DataW.trod_bool Try.underlying4 ((hg 0 _ rfl).trans e0)
  obtain ⟨bs, hl, hc⟩ := sixteen_cells ((hg 1 _ rfl).trans e1)
  refine ⟨⟨b, bs⟩, hl, fun i hi => ?_⟩
  match i, hi with
  | 0, _ => exact one_of_take hb
  | i + 1, hi =>
    have := hc i (by omega)
    rw [show (adL ⟨b, bs⟩)[i + 1]? = (bs.map v8)[i]? from rfl, ← this, List.getElem?_take_of_lt (by show i < 16; omega), List.getElem?_drop]
    show _ = cs[1 + i]?
    rw [Nat.add_comm]
theorem open_tuple {r : Reach} {b0 : Nat} {v : Value} {d : DataW H} {ps : List MemPlace} (hv : Value.okWide Try.prog W r b0 26 v) (hd : DataW.Trod enc Try.prog W 0 (fun _ => true) true 26 v d ps) :
    ∃ t, v = tuC t ∧ t.Ok := by
  obtain ⟨cs, rfl, hcs⟩ := okWide_struct Try.underlying26 hv
  rw [cells_tu] at hcs
  obtain ⟨fuel, hf⟩ := hd
  obtain ⟨xs, n, _, _, _, hlen, hg⟩ := DataW.trod_struct Try.underlying26 hf
  have some_ : ∀ j, j < 5 → ∃ y, xs[j]? = some y := fun j hj => ⟨_, List.getElem?_eq_getElem (by rw [hlen]; exact hj)⟩
  obtain ⟨y0, e0⟩ := some_ 0 (by omega)
  obtain ⟨y1, e1⟩ := some_ 1 (by omega)
  obtain ⟨y2, e2⟩ := some_ 2 (by omega)
  obtain ⟨y3, e3⟩ := some_ 3 (by omega)
  obtain ⟨y4, e4⟩ := some_ 4 (by omega)
  obtain ⟨a, la, ca⟩ := ad_cells ((hg 0 _ rfl).trans e0)
  obtain ⟨b, lb, cb⟩ := ad_cells ((hg 1 _ rfl).trans e1)
  obtain ⟨h2, z2, _, _⟩ := DataW.trod_int Try.underlying3 ((hg 2 _ rfl).trans e2)
  obtain ⟨h3, z3, _, _⟩ := DataW.trod_int Try.underlying3 ((hg 3 _ rfl).trans e3)
  obtain ⟨h4, z4, _, _⟩ := DataW.trod_int Try.underlying3 ((hg 4 _ rfl).trans e4)
  have k2 : cs.toList[34]? = some (.int .i64 h2) := one_of_take (cs := cs.toList) z2
  have k3 : cs.toList[35]? = some (.int .i64 h3) := one_of_take (cs := cs.toList) z3
  have k4 : cs.toList[36]? = some (.int .i64 h4) := one_of_take (cs := cs.toList) z4
  have hok : Tu.Ok ⟨a, b, h2, h3, h4⟩ := ⟨la, lb⟩
  refine ⟨⟨a, b, h2, h3, h4⟩, ?_, hok⟩
  unfold tuC
  congr 1
  have : cs.toList = tuL ⟨a, b, h2, h3, h4⟩ := by
    apply List.ext_getElem?
    intro i
    by_cases hi : i < 17
    · have := ca i hi
      have e : (tuL ⟨a, b, h2, h3, h4⟩)[i]? = (adL a)[i]? := by
        unfold tuL
        rw [List.getElem?_append_left (by rw [adL_len la]; omega)]
      rw [e, ← this, List.getElem?_take_of_lt (by show i < 17; omega), List.getElem?_drop]
      show _ = cs.toList[0 + i]?
      rw [Nat.zero_add]
    · by_cases hi2 : i < 34
      · have := cb (i - 17) (by omega)
        have e : (tuL ⟨a, b, h2, h3, h4⟩)[i]? = (adL b)[i - 17]? := by
          unfold tuL
          rw [List.getElem?_append_right (by rw [adL_len la]; omega), adL_len la, List.getElem?_append_left (by rw [adL_len lb]; omega)]
        rw [e, ← this, List.getElem?_take_of_lt (by show i - 17 < 17; omega), List.getElem?_drop]
        show _ = cs.toList[17 + (i - 17)]?
        rw [show 17 + (i - 17) = i by omega]
      · by_cases hi3 : i < 37
        · obtain ⟨j, rfl⟩ : ∃ j, i = 34 + j := ⟨i - 34, by omega⟩
          rw [tuL_num hok j]
          match j, hi3 with
          | 0, _ => exact k2
          | 1, _ => exact k3
          | 2, _ => exact k4
          | j + 3, h => omega
        · rw [List.getElem?_eq_none (by simp; omega), List.getElem?_eq_none (by rw [tuL_len hok]; omega)]
  rw [← this]
end
end Go.Proofs.Ytfbiinipiklkaaa
namespace Go.Proofs.Ytfbiinipiklkaaa
set_option maxRecDepth 100000
open Go.RowKit Go.Lib Go.ChangeShapes Go.WideShapes Go.ChangeAt Go.Deep
section
variable {H : Type} {enc : TypeId × Value → H} {W : World}
theorem open_key {v : Value} {d : DataW H} {ps : List MemPlace} (hd : DataW.Trod enc Try.prog W 0 (fun _ => true) true 22 v d ps) :
    ∃ bs : List UInt8, v = keyC bs ∧ bs.length = 16 := by
  obtain ⟨fuel, hf⟩ := hd
  obtain ⟨bs, hb, hc⟩ := sixteen_cells hf
  obtain ⟨_, _, _, _, hl, _, _⟩ := DataW.trod_array Try.underlying22 hf
  rw [cells_16] at hl
  have hv : ∃ cs, v = .agg cs := by
    cases v with
    | agg cs => exact ⟨cs, rfl⟩
    | _ => simp [Value.cells] at hl
  obtain ⟨cs, rfl⟩ := hv
  refine ⟨bs, ?_, hb⟩
  unfold keyC
  congr 1
  have : cs.toList = bs.map v8 := by
    apply List.ext_getElem?
    intro i
    by_cases hi : i < 16
    · exact hc i hi
    · rw [List.getElem?_eq_none (by simp [Value.cells] at hl ⊢; omega), List.getElem?_eq_none (by rw [List.length_map]; omega)]
  rw [← this]
end
end Go.Proofs.Ytfbiinipiklkaaa
