/-
  Arguments of stage 18: pools, backends, what is done, slices of these and of names.
-/
import Derived.Test.YtajmppaodhpmgaaURef6
import Derived.Test.YtajmppaodhpmgaaSlDec
import Derived.Deep.Fields
namespace Go.Proofs.Ytajmppaodhpmgaa
set_option maxRecDepth 100000
open Go.RowKit Go.Lib Go.ChangeShapes Go.WideShapes Go.ChangeAt Go.Deep

section
variable {H : Type} {enc : TypeId × Value → H} {W : World}
theorem cU_u8 : Try.prog.cellsOf 5 = 1 := by kernel_rfl
theorem cU_int : Try.prog.cellsOf 3 = 1 := by kernel_rfl
theorem cU_bool : Try.prog.cellsOf 4 = 1 := by kernel_rfl
theorem cU_f64 : Try.prog.cellsOf 34 = 1 := by kernel_rfl
theorem cU_16 : Try.prog.cellsOf 30 = 16 := by kernel_rfl
theorem cU_6 : Try.prog.cellsOf 33 = 6 := by kernel_rfl
theorem cU_ad : Try.prog.cellsOf 32 = 17 := by kernel_rfl
theorem cU_bk : Try.prog.cellsOf 36 = 27 := by kernel_rfl
theorem cU_op : Try.prog.cellsOf 38 = 30 := by kernel_rfl
theorem cU_pl : Try.prog.cellsOf 24 = 2 := by kernel_rfl
theorem cU_sl : Try.prog.cellsOf 22 = 1 := by kernel_rfl
theorem wf_f64 {k : FloatKind} {b : Nat} (e : FloatKind.f64 = k) (h : (Lit.float k b).wf = true) : b < T64 := by
  subst e
  rw [T64_eq]
  simpa [Lit.wf] using h
theorem float_dec {fuel : Nat} {cs : List Value} {y : DataW H × List MemPlace} (h : DataW.trod enc Try.prog W 0 (fun _ => true) true fuel 34 cs = some y) : ∃ u, cs = [.float .f64 u] ∧ u < T64 := by
  cases fuel with
  | zero => simp [DataW.trod] at h
  | succ n =>
    unfold DataW.trod at h
    rw [Try.underlying34] at h
    split at h <;> simp_all
    exact wf_f64 (by assumption) h.1.2
theorem bytes_dec {n : Nat} {T : TypeId} (ht : Try.prog.underlying T = some (.array n 5)) (hC : Try.prog.cellsOf T = n) {fuel : Nat} {cs : List Value} {y : DataW H × List MemPlace} (h : DataW.trod enc Try.prog W 0 (fun _ => true) true fuel T cs = some y) :
    ∃ bs : List UInt8, bs.length = n ∧ cs = bs.map v8 := by
  obtain ⟨xs, m, _, _, hxl, hxn, hx⟩ := DataW.trod_array ht h
  rw [hC] at hxl
  have each : ∀ i, ∃ x : UInt8, i < n → cs[i]? = some (v8 x) := by
    intro i
    by_cases hi : i < n
    · have hxi := hx i hi
      obtain ⟨x, hxx⟩ : ∃ x, xs[i]? = some x := ⟨_, List.getElem?_eq_getElem (by rw [hxn]; exact hi)⟩
      rw [hxx] at hxi
      obtain ⟨z, hz, _, hw⟩ := DataW.trod_int Try.underlying5 hxi
      obtain ⟨r1, r2⟩ := range_u8 hw
      rw [cU_u8, Nat.mul_one] at hz
      have h1 : cs[i]? = some (.int .u8 z) := by
        have h2 := congrArg (fun l : List Value => l[0]?) hz
        simpa using h2
      refine ⟨UInt8.ofNat z.toNat, fun _ => ?_⟩
      rw [v8_of _ (by omega), show ((z.toNat : Nat) : Int) = z by omega]
      exact h1
    · exact ⟨0, fun h => absurd h hi⟩
  refine ⟨(List.range n).map fun i => Classical.choose (each i), by simp, ?_⟩
  apply List.ext_getElem?
  intro i
  by_cases hi : i < n
  · rw [Classical.choose_spec (each i) hi]
    simp [hi]
  · rw [List.getElem?_eq_none (by omega), List.getElem?_eq_none (by simp; omega)]
theorem ad_dec {fuel : Nat} {cs : List Value} {y : DataW H × List MemPlace} (h : DataW.trod enc Try.prog W 0 (fun _ => true) true fuel 32 cs = some y) : ∃ a : Ad, a.b.length = 16 ∧ cs = adL a := by
  obtain ⟨xs, n, _, _, hcl, hlen, hg⟩ := DataW.trod_struct Try.underlying32 h
  rw [cU_ad] at hcl
  obtain ⟨y0, e0⟩ : ∃ y, xs[0]? = some y := ⟨_, List.getElem?_eq_getElem (by rw [hlen]; decide)⟩
  obtain ⟨y1, e1⟩ : ∃ y, xs[1]? = some y := ⟨_, List.getElem?_eq_getElem (by rw [hlen]; decide)⟩
  obtain ⟨b, hb, _⟩ := DataW.trod_bool Try.underlying4 ((hg 0 _ rfl).trans e0)
  obtain ⟨bs, hl, hc⟩ := bytes_dec Try.underlying30 cU_16 ((hg 1 _ rfl).trans e1)
  have k0 : (cs.drop 0).take 1 = [.bool b] := by rw [← cU_bool]; exact hb
  have k1 : (cs.drop 1).take 16 = bs.map v8 := by rw [← cU_16]; exact hc
  refine ⟨⟨b, bs⟩, hl, ?_⟩
  rw [lastU cs 1 16 hcl] at k1
  have p0 := pieceU cs 0 1
  rw [k0, show 0 + 1 = 1 from rfl, k1] at p0
  exact p0.symm
theorem bk_dec {fuel : Nat} {cs : List Value} {y : DataW H × List MemPlace} (h : DataW.trod enc Try.prog W 0 (fun _ => true) true fuel 36 cs = some y) :
    ∃ b : Bk, cs = bkL b ∧ b.nm.length ≤ maxLen ∧ -9223372036854775808 ≤ b.port ∧ b.port ≤ 9223372036854775807 := by
  obtain ⟨xs, n, _, _, hcl, hlen, hg⟩ := DataW.trod_struct Try.underlying36 h
  rw [cU_bk] at hcl
  have some_ : ∀ j, j < 6 → ∃ y, xs[j]? = some y := fun j hj => ⟨_, List.getElem?_eq_getElem (by rw [hlen]; exact hj)⟩
  obtain ⟨y0, e0⟩ := some_ 0 (by omega)
  obtain ⟨y1, e1⟩ := some_ 1 (by omega)
  obtain ⟨y2, e2⟩ := some_ 2 (by omega)
  obtain ⟨y3, e3⟩ := some_ 3 (by omega)
  obtain ⟨y4, e4⟩ := some_ 4 (by omega)
  obtain ⟨y5, e5⟩ := some_ 5 (by omega)
  obtain ⟨s, h0, _, w0⟩ := DataW.trod_string Try.underlying9 ((hg 0 _ rfl).trans e0)
  obtain ⟨a, la, h1⟩ := ad_dec ((hg 1 _ rfl).trans e1)
  obtain ⟨z, h2, _, w2⟩ := DataW.trod_int Try.underlying3 ((hg 2 _ rfl).trans e2)
  obtain ⟨m, lm, h3⟩ := bytes_dec Try.underlying33 cU_6 ((hg 3 _ rfl).trans e3)
  obtain ⟨u, h4, hu⟩ := float_dec ((hg 4 _ rfl).trans e4)
  obtain ⟨d, h5, _⟩ := DataW.trod_bool Try.underlying4 ((hg 5 _ rfl).trans e5)
  have k0 : (cs.drop 0).take 1 = [.string s] := by rw [← cU_str]; exact h0
  have k1 : (cs.drop 1).take 17 = adL a := by rw [← cU_ad]; exact h1
  have k2 : (cs.drop 18).take 1 = [.int .i64 z] := by rw [← cU_int]; exact h2
  have k3 : (cs.drop 19).take 6 = m.map v8 := by rw [← cU_6]; exact h3
  have k4 : (cs.drop 25).take 1 = [.float .f64 u] := by rw [← cU_f64]; exact h4
  have k5 : (cs.drop 26).take 1 = [.bool d] := by rw [← cU_bool]; exact h5
  rw [lastU cs 26 1 hcl] at k5
  have p4 := pieceU cs 25 1
  rw [k4, show 25 + 1 = 26 from rfl, k5] at p4
  have p3 := pieceU cs 19 6
  rw [k3, show 19 + 6 = 25 from rfl, ← p4] at p3
  have p2 := pieceU cs 18 1
  rw [k2, show 18 + 1 = 19 from rfl, ← p3] at p2
  have p1 := pieceU cs 1 17
  rw [k1, show 1 + 17 = 18 from rfl, ← p2] at p1
  have p0 := pieceU cs 0 1
  rw [k0, show 0 + 1 = 1 from rfl, ← p1] at p0
  refine ⟨⟨s.data.toList, a, z, m, u, d, la, lm, hu⟩, ?_, w0, range_i64 w2⟩
  refine p0.symm.trans ?_
  unfold bkL strV
  rfl
theorem op_dec {fuel : Nat} {cs : List Value} {y : DataW H × List MemPlace} (h : DataW.trod enc Try.prog W 0 (fun _ => true) true fuel 38 cs = some y) :
    ∃ o : OpU, cs = opuL o ∧ o.nm.length ≤ maxLen ∧ o.b.nm.length ≤ maxLen ∧ -9223372036854775808 ≤ o.kind ∧ o.kind ≤ 9223372036854775807 := by
  obtain ⟨xs, n, _, _, hcl, hlen, hg⟩ := DataW.trod_struct Try.underlying38 h
  rw [cU_op] at hcl
  have some_ : ∀ j, j < 4 → ∃ y, xs[j]? = some y := fun j hj => ⟨_, List.getElem?_eq_getElem (by rw [hlen]; exact hj)⟩
  obtain ⟨y0, e0⟩ := some_ 0 (by omega)
  obtain ⟨y1, e1⟩ := some_ 1 (by omega)
  obtain ⟨y2, e2⟩ := some_ 2 (by omega)
  obtain ⟨y3, e3⟩ := some_ 3 (by omega)
  obtain ⟨z, h0, _, w0⟩ := DataW.trod_int Try.underlying3 ((hg 0 _ rfl).trans e0)
  obtain ⟨b, h1, wb, _⟩ := bk_dec ((hg 1 _ rfl).trans e1)
  obtain ⟨s, h2, _, w2⟩ := DataW.trod_string Try.underlying9 ((hg 2 _ rfl).trans e2)
  obtain ⟨u, h3, hu⟩ := float_dec ((hg 3 _ rfl).trans e3)
  have k0 : (cs.drop 0).take 1 = [.int .i64 z] := by rw [← cU_int]; exact h0
  have k1 : (cs.drop 1).take 27 = bkL b := by rw [← cU_bk]; exact h1
  have k2 : (cs.drop 28).take 1 = [.string s] := by rw [← cU_str]; exact h2
  have k3 : (cs.drop 29).take 1 = [.float .f64 u] := by rw [← cU_f64]; exact h3
  rw [lastU cs 29 1 hcl] at k3
  have p2 := pieceU cs 28 1
  rw [k2, show 28 + 1 = 29 from rfl, k3] at p2
  have p1 := pieceU cs 1 27
  rw [k1, show 1 + 27 = 28 from rfl, ← p2] at p1
  have p0 := pieceU cs 0 1
  rw [k0, show 0 + 1 = 1 from rfl, ← p1] at p0
  exact ⟨⟨z, b, s.data.toList, u, hu⟩, p0.symm, w2, wb, range_i64 w0⟩
def BkOk (b : Bk) : Prop := b.nm.length ≤ maxLen ∧ -9223372036854775808 ≤ b.port ∧ b.port ≤ 9223372036854775807
def OpOk (o : OpU) : Prop := o.nm.length ≤ maxLen ∧ o.b.nm.length ≤ maxLen ∧ -9223372036854775808 ≤ o.kind ∧ o.kind ≤ 9223372036854775807
theorem cell_bks {fuel : Nat} {u : Value} {x : DataW H × List MemPlace} (h : DataW.trod enc Try.prog W 0 (fun _ => true) true fuel 22 [u] = some x) :
    ∃ A len cap xs, u = .slice A len cap ∧ len ≤ cap ∧ cap ≤ maxLen ∧ RdG eB W W.heap.size A len xs ∧ ∀ x, x ∈ xs → BkOk x :=
  slice_dec eB cU_bk (by decide) bk0 (Pr := BkOk) (fun h => bk_dec h) h
theorem open_pool {r : Reach} {b0 : Nat} {v : Value} {d : DataW H} {ps : List MemPlace} (hv : Value.okWide Try.prog W r b0 24 v) (hd : DataW.Trod enc Try.prog W 0 (fun _ => true) true 24 v d ps) :
    ∃ ver A len cap xs, v = .agg #[.int .i64 ver, .slice A len cap] ∧ len ≤ cap ∧ cap ≤ maxLen ∧ RdG eB W W.heap.size A len xs ∧ (∀ x, x ∈ xs → BkOk x) ∧ -9223372036854775808 ≤ ver ∧ ver ≤ 9223372036854775807 := by
  obtain ⟨cs, rfl, hcs⟩ := okWide_struct Try.underlying24 hv
  rw [cU_pl] at hcs
  obtain ⟨fuel, hf⟩ := hd
  obtain ⟨xs, n, _, _, _, hlen, hg⟩ := DataW.trod_struct Try.underlying24 hf
  obtain ⟨y0, e0⟩ : ∃ y, xs[0]? = some y := ⟨_, List.getElem?_eq_getElem (by rw [hlen]; decide)⟩
  obtain ⟨y1, e1⟩ : ∃ y, xs[1]? = some y := ⟨_, List.getElem?_eq_getElem (by rw [hlen]; decide)⟩
  obtain ⟨z, h0, _, w0⟩ := DataW.trod_int Try.underlying3 ((hg 0 _ rfl).trans e0)
  have t1 := (hg 1 _ rfl).trans e1
  obtain ⟨l⟩ := cs
  match l, hcs with
  | [c0, c1], _ =>
    have k0 : [c0] = [Value.int .i64 z] := by
      have : (([c0, c1] : List Value).drop 0).take 1 = [.int .i64 z] := by rw [← cU_int]; exact h0
      exact this
    cases k0
    have k1 : DataW.trod enc Try.prog W 0 (fun _ => true) true n 22 [c1] = some y1 := by
      have e : (([Value.int .i64 z, c1] : List Value).drop 1).take (Try.prog.cellsOf 22) = [c1] := by rw [cU_sl]; rfl
      rw [← e]
      exact t1
    obtain ⟨A, len, cap, bs, rfl, h1, h2, h3, h4⟩ := cell_bks k1
    exact ⟨z, A, len, cap, bs, rfl, h1, h2, h3, h4, range_i64 w0⟩
theorem open_opu {r : Reach} {b0 : Nat} {v : Value} {d : DataW H} {ps : List MemPlace} (hv : Value.okWide Try.prog W r b0 38 v) (hd : DataW.Trod enc Try.prog W 0 (fun _ => true) true 38 v d ps) : ∃ o, v = opuC o ∧ OpOk o := by
  obtain ⟨cs, rfl, _⟩ := okWide_struct Try.underlying38 hv
  obtain ⟨fuel, hf⟩ := hd
  obtain ⟨o, h1, h2⟩ := op_dec hf
  refine ⟨o, ?_, h2⟩
  unfold opuC
  rw [← h1]
  rfl
theorem open_bk {r : Reach} {b0 : Nat} {v : Value} {d : DataW H} {ps : List MemPlace} (hv : Value.okWide Try.prog W r b0 36 v) (hd : DataW.Trod enc Try.prog W 0 (fun _ => true) true 36 v d ps) : ∃ b, v = bkC b ∧ BkOk b := by
  obtain ⟨cs, rfl, _⟩ := okWide_struct Try.underlying36 hv
  obtain ⟨fuel, hf⟩ := hd
  obtain ⟨b, h1, h2⟩ := bk_dec hf
  refine ⟨b, ?_, h2⟩
  unfold bkC
  rw [← h1]
  rfl
theorem open_ops {r : Reach} {b0 : Nat} {v : Value} {d : DataW H} {ps : List MemPlace} (hv : Value.okWide Try.prog W r b0 40 v) (hd : DataW.Trod enc Try.prog W 0 (fun _ => true) true 40 v d ps) :
    ∃ A len cap xs, v = .slice A len cap ∧ len ≤ cap ∧ cap ≤ maxLen ∧ RdG eO W W.heap.size A len xs ∧ ∀ x, x ∈ xs → OpOk x := by
  obtain ⟨A, len, cap, rfl⟩ := okWide_slice Try.underlying40 hv
  obtain ⟨fuel, hf⟩ := hd
  exact slice_dec eO cU_op (by decide) opu0 (Pr := OpOk) (fun h => op_dec h) hf
end
end Go.Proofs.Ytajmppaodhpmgaa
