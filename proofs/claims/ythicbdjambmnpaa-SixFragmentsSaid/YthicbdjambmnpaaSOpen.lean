/-
  Arguments that are headers; the document's Read, of bytes whose reading is known.
-/
import Derived.Test.YthicbdjambmnpaaSAwake
import Derived.Test.YthicbdjambmnpaaSRRead
import Derived.Test.YthicbdjambmnpaaSRRight
import Derived.Test.YthicbdjambmnpaaSRPut
import Derived.Test.YthicbdjambmnpaaLift
import Derived.Deep.Slices
import Derived.Deep.Fields
namespace Go.Proofs.Ythicbdjambmnpaa
open Go.RowKit Go.Lib Go.ChangeShapes Go.WideShapes Go.ChangeAt Go.Deep

theorem rread_as {A : Option Addr} {len cap : Nat} {xs : List UInt8} {f : Fr} {k : Nat} (hr : rdF xs = f) (hk : rdN xs = k) (hlen : len ≤ 1000000) {w : World} (hI : Rd w w.heap.size A len xs) :
    Calls Try.prog 11 #[.slice A len cap] w fun e w' => e = .returned (.tuple #[frC f, .int .i64 (k : Int)]) ∧ Below w.heap.size w w' := by
  subst hr hk
  exact rread_any A len cap xs hlen w hI
/-- six.Put, of whatever header. -/
theorem fput_no {f : Fr} (hok : f.Ok) (hr : rightB f = false) (w : World) :
    Calls Try.prog 12 #[frC f] w fun e w' => e = .returned (.tuple #[.slice none 0 0, .int .i64 1]) ∧ Below w.heap.size w w' := put_no hok hr w
theorem fput_yes {f : Fr} (hok : f.Ok) (hr : rightB f = true) (w : World) :
    Calls Try.prog 12 #[frC f] w fun e w' => ∃ A c, e = .returned (.tuple #[.slice A 40 c, .int .i64 0]) ∧ 40 ≤ c ∧ c ≤ maxLen ∧ Own8 w' w.heap.size (.slice A 40 c) (putF f) ∧ Rd w' w'.heap.size A 40 (putF f) ∧ Below w.heap.size w w' :=
  (put_yes hok hr w).mono fun e w' ⟨v, he, ho, hb⟩ => by
    obtain ⟨A, c, rfl, h1, h2, h3⟩ := ho.form (putF_len hok)
    exact ⟨A, c, he, h1, h2, ho, h3, hb⟩

section
variable {H : Type} {enc : TypeId × Value → H} {W : World}
theorem cells_u8 : Try.prog.cellsOf 5 = 1 := by kernel_rfl
theorem cells_16 : Try.prog.cellsOf 24 = 16 := by kernel_rfl
theorem cells_ad : Try.prog.cellsOf 26 = 17 := by kernel_rfl
theorem cells_fr : Try.prog.cellsOf 28 = 40 := by kernel_rfl
theorem one_of_take {cs : List Value} {i : Nat} {v : Value} (h : (cs.drop i).take 1 = [v]) : cs[i]? = some v := by
  have := congrArg (·[0]?) h
  simpa using this
/-- Sixteen cells that read as an array of bytes. -/
theorem sixteen_cells {fuel : Nat} {cs : List Value} {y : DataW H × List MemPlace} (h : DataW.trod enc Try.prog W 0 (fun _ => true) true fuel 24 cs = some y) :
    ∃ bs : List UInt8, bs.length = 16 ∧ ∀ i, i < 16 → cs[i]? = (bs.map v8)[i]? := by
  obtain ⟨xs, m, _, _, hxl, hxn, hx⟩ := DataW.trod_array Try.underlying24 h
  have each : ∀ i, ∃ x : UInt8, i < 16 → cs[i]? = some (v8 x) := by
    intro i
    by_cases hi : i < 16
    · have hxi := hx i hi
      obtain ⟨x, hxx⟩ : ∃ x, xs[i]? = some x := ⟨_, List.getElem?_eq_getElem (by rw [hxn]; exact hi)⟩
      rw [hxx] at hxi
      obtain ⟨z, hz, _, hw⟩ := DataW.trod_int Try.underlying5 hxi
      obtain ⟨r1, r2⟩ := range_u8 hw
      rw [cells_u8, Nat.mul_one] at hz
      have := one_of_take hz
      refine ⟨UInt8.ofNat z.toNat, fun _ => ?_⟩
      rw [v8_of _ (by omega), show ((z.toNat : Nat) : Int) = z by omega]
      exact this
    · exact ⟨0, fun h => absurd h hi⟩
  refine ⟨(List.range 16).map fun i => Classical.choose (each i), by simp, fun i hi => ?_⟩
  rw [Classical.choose_spec (each i) hi]
  simp [hi]
/-- Seventeen cells that read as an address. -/
theorem ad_cells {fuel : Nat} {cs : List Value} {y : DataW H × List MemPlace} (h : DataW.trod enc Try.prog W 0 (fun _ => true) true fuel 26 cs = some y) :
    ∃ a : Ad, a.b.length = 16 ∧ ∀ i, i < 17 → cs[i]? = (adL a)[i]? := by
  obtain ⟨xs, n, _, _, _, hlen, hg⟩ := DataW.trod_struct Try.underlying26 h
  obtain ⟨y0, e0⟩ : ∃ y, xs[0]? = some y := ⟨_, List.getElem?_eq_getElem (by rw [hlen]; decide)⟩
  obtain ⟨y1, e1⟩ : ∃ y, xs[1]? = some y := ⟨_, List.getElem?_eq_getElem (by rw [hlen]; decide)⟩
  obtain ⟨b, hb, _⟩ := DataW.trod_bool Try.underlying4 ((hg 0 _ rfl).trans e0)
  obtain ⟨bs, hl, hc⟩ := sixteen_cells ((hg 1 _ rfl).trans e1)
  refine ⟨⟨b, bs⟩, hl, fun i hi => ?_⟩
  match i, hi with
  | 0, _ => exact one_of_take hb
  | i + 1, hi =>
    have := hc i (by omega)
    rw [show (adL ⟨b, bs⟩)[i + 1]? = (bs.map v8)[i]? from rfl, ← this, List.getElem?_take_of_lt (by show i < 16; omega), List.getElem?_drop]
    show _ = cs[1 + i]?
    rw [Nat.add_comm]
theorem open_sixh {r : Reach} {b0 : Nat} {v : Value} {d : DataW H} {ps : List MemPlace} (hv : Value.okWide Try.prog W r b0 28 v) (hd : DataW.Trod enc Try.prog W 0 (fun _ => true) true 28 v d ps) :
    ∃ f, v = frC f ∧ f.Ok := by
  obtain ⟨cs, rfl, hcs⟩ := okWide_struct Try.underlying28 hv
  rw [cells_fr] at hcs
  obtain ⟨fuel, hf⟩ := hd
  obtain ⟨xs, n, _, _, _, hlen, hg⟩ := DataW.trod_struct Try.underlying28 hf
  have some_ : ∀ j, j < 8 → ∃ y, xs[j]? = some y := fun j hj => ⟨_, List.getElem?_eq_getElem (by rw [hlen]; exact hj)⟩
  obtain ⟨y0, e0⟩ := some_ 0 (by omega)
  obtain ⟨y1, e1⟩ := some_ 1 (by omega)
  obtain ⟨y2, e2⟩ := some_ 2 (by omega)
  obtain ⟨y3, e3⟩ := some_ 3 (by omega)
  obtain ⟨y4, e4⟩ := some_ 4 (by omega)
  obtain ⟨y5, e5⟩ := some_ 5 (by omega)
  obtain ⟨y6, e6⟩ := some_ 6 (by omega)
  obtain ⟨y7, e7⟩ := some_ 7 (by omega)
  obtain ⟨h0, z0, _, _⟩ := DataW.trod_int Try.underlying3 ((hg 0 _ rfl).trans e0)
  obtain ⟨h1, z1, _, _⟩ := DataW.trod_int Try.underlying3 ((hg 1 _ rfl).trans e1)
  obtain ⟨h2, z2, _, _⟩ := DataW.trod_int Try.underlying3 ((hg 2 _ rfl).trans e2)
  obtain ⟨h3, z3, _⟩ := DataW.trod_bool Try.underlying4 ((hg 3 _ rfl).trans e3)
  obtain ⟨h4, z4, _, _⟩ := DataW.trod_int Try.underlying3 ((hg 4 _ rfl).trans e4)
  obtain ⟨h5, z5, _, _⟩ := DataW.trod_int Try.underlying3 ((hg 5 _ rfl).trans e5)
  obtain ⟨a, la, ca⟩ := ad_cells ((hg 6 _ rfl).trans e6)
  obtain ⟨b, lb, cb⟩ := ad_cells ((hg 7 _ rfl).trans e7)
  have k0 : cs.toList[0]? = some (.int .i64 h0) := one_of_take (cs := cs.toList) z0
  have k1 : cs.toList[1]? = some (.int .i64 h1) := one_of_take (cs := cs.toList) z1
  have k2 : cs.toList[2]? = some (.int .i64 h2) := one_of_take (cs := cs.toList) z2
  have k3 : cs.toList[3]? = some (.bool h3) := one_of_take (cs := cs.toList) z3
  have k4 : cs.toList[4]? = some (.int .i64 h4) := one_of_take (cs := cs.toList) z4
  have k5 : cs.toList[5]? = some (.int .i64 h5) := one_of_take (cs := cs.toList) z5
  have hok : Fr.Ok ⟨h0, h1, h2, h3, h4, h5, a, b⟩ := ⟨la, lb⟩
  refine ⟨⟨h0, h1, h2, h3, h4, h5, a, b⟩, ?_, hok⟩
  unfold frC
  congr 1
  have : cs.toList = frL ⟨h0, h1, h2, h3, h4, h5, a, b⟩ := by
    apply List.ext_getElem?
    intro i
    by_cases hi : i < 6
    · match i, hi with
      | 0, _ => exact k0
      | 1, _ => exact k1
      | 2, _ => exact k2
      | 3, _ => exact k3
      | 4, _ => exact k4
      | 5, _ => exact k5
    · by_cases hi2 : i < 23
      · have := ca (i - 6) (by omega)
        have e : (frL ⟨h0, h1, h2, h3, h4, h5, a, b⟩)[i]? = (adL a)[i - 6]? := by
          unfold frL
          rw [List.getElem?_append_right (by show 6 ≤ i; omega)]
          show (adL a ++ adL b)[i - 6]? = _
          rw [List.getElem?_append_left (by rw [adL_len la]; omega)]
        rw [e, ← this, List.getElem?_take_of_lt (by show i - 6 < 17; omega), List.getElem?_drop]
        show _ = cs.toList[6 + (i - 6)]?
        rw [show 6 + (i - 6) = i by omega]
      · by_cases hi3 : i < 40
        · have := cb (i - 23) (by omega)
          have e : (frL ⟨h0, h1, h2, h3, h4, h5, a, b⟩)[i]? = (adL b)[i - 23]? := by
            unfold frL
            rw [List.getElem?_append_right (by show 6 ≤ i; omega)]
            show (adL a ++ adL b)[i - 6]? = _
            rw [List.getElem?_append_right (by rw [adL_len la]; omega), adL_len la, show i - 6 - 17 = i - 23 by omega]
          rw [e, ← this, List.getElem?_take_of_lt (by show i - 23 < 17; omega), List.getElem?_drop]
          show _ = cs.toList[23 + (i - 23)]?
          rw [show 23 + (i - 23) = i by omega]
        · rw [List.getElem?_eq_none (by simp; omega), List.getElem?_eq_none (by rw [frL_len hok]; omega)]
  rw [← this]
end
end Go.Proofs.Ythicbdjambmnpaa
