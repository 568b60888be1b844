/-
  Arguments that are slices of shares.
-/
import Derived.Test.YtmngagcekhlppaaVSh
import Derived.Test.YtmngagcekhlppaaHOpen
import Derived.Deep.Slices
import Derived.Deep.Fields
namespace Go.Proofs.Ytmngagcekhlppaa
set_option maxRecDepth 100000
open Go.RowKit Go.Lib Go.ChangeShapes Go.WideShapes Go.ChangeAt Go.Deep

section
variable {H : Type} {enc : TypeId × Value → H} {W : World}
variable {H : Type} {enc : TypeId × Value → H} {W : World}
/-- A slice of structs of one-cell fields: each field of each element. -/
theorem open_rowsV {t e : TypeId} {fs : Array Field} {N : Nat} (ht : Try.prog.underlying t = some (.slice e)) (he : Try.prog.underlying e = some (.struct fs)) (hone : oneCellFields Try.prog fs = true) (hC : Try.prog.cellsOf e = N) (hN : fs.size = N) (h0 : 0 < N)
    {r : Reach} {b0 : Nat} {v : Value} {d : DataW H} {ps : List MemPlace} (hv : Value.okWide Try.prog W r b0 t v) (hd : DataW.Trod enc Try.prog W 0 (fun _ => true) true t v d ps) :
    ∃ A len cap, v = .slice A len cap ∧ len ≤ cap ∧ cap ≤ maxLen ∧ (0 < len → ∃ b off, A = some ⟨b, off, none⟩ ∧ b < W.heap.size ∧
      ∀ i j f, i < len → fs[j]? = some f → ∃ u n y, W.cell? ⟨b, off + i * N + j, none⟩ = some u ∧ DataW.trod enc Try.prog W 0 (fun _ => true) true n f.type [u] = some y) := by
  obtain ⟨A, len, cap, rfl⟩ := okWide_slice ht hv
  obtain ⟨fuel, hf⟩ := hd
  rcases open_slice ht hf with ⟨hcs, _⟩ | ⟨a, l, c, m, n, D, Pl, hcs, _, hl, hm, hmm, _, hi⟩
  · simp [Value.cells] at hcs
    obtain ⟨rfl, rfl, rfl⟩ := hcs
    exact ⟨none, 0, 0, rfl, Nat.le_refl _, by simp [maxLen], fun h => absurd h (by omega)⟩
  · simp [Value.cells] at hcs
    obtain ⟨rfl, rfl, rfl⟩ := hcs
    have hmc : m = cap := by simpa using hmm
    refine ⟨_, len, cap, rfl, hl, hm, fun hlen => ?_⟩
    have each : ∀ i j f, i < len → fs[j]? = some f → ∃ u q y, W.cell? ((a.add (i * N)).add j) = some u ∧ DataW.trod enc Try.prog W 0 (fun _ => true) true q f.type [u] = some y := by
      intro i j f hil hj
      obtain ⟨cs', hc, ht'⟩ := hi i (by omega)
      rw [hC] at hc
      obtain ⟨ys, q, _, _, hlen', hyl, hfl⟩ := DataW.trod_struct he ht'
      obtain ⟨_, hcl, hat⟩ := World.cells?_some hc
      obtain ⟨ho, hk⟩ := hone_of hone j f hj
      have hjN : j < N := by rw [← hN]; exact (Array.getElem?_eq_some_iff.1 hj).1
      have hx := hfl j f hj
      rw [ho, hk, List.drop_eq_getElem_cons (by omega)] at hx
      refine ⟨cs'[j]'(by omega), q, ys[j]'(by omega), ?_, ?_⟩
      · rw [hat j hjN]; exact List.getElem?_eq_getElem _
      · exact hx.trans (List.getElem?_eq_getElem _)
    obtain ⟨b, off, spot⟩ := a
    obtain ⟨f0, hf0⟩ : ∃ f0, fs[0]? = some f0 := ⟨_, Array.getElem?_eq_getElem (by omega)⟩
    obtain ⟨u0, _, _, hu0, _⟩ := each 0 0 f0 hlen hf0
    have hspot : spot = none := by simpa [Addr.add] using World.cell?_spot hu0
    subst hspot
    rw [add_plain, add_plain] at hu0
    refine ⟨b, off, rfl, World.block_lt_of_cell? W _ hu0, fun i j f hil hj => ?_⟩
    obtain ⟨u, q, y, h1, h2⟩ := each i j f hil hj
    rw [add_plain, add_plain] at h1
    exact ⟨u, q, y, h1, h2⟩

theorem open_shares {r : Reach} {b0 : Nat} {v : Value} {d : DataW H} {ps : List MemPlace} (hv : Value.okWide Try.prog W r b0 23 v) (hd : DataW.Trod enc Try.prog W 0 (fun _ => true) true 23 v d ps) :
    ∃ A len cap xs, v = .slice A len cap ∧ len ≤ cap ∧ cap ≤ maxLen ∧ RdG eS W W.heap.size A len xs ∧ ∀ x, x ∈ xs → x.nm.length ≤ maxLen ∧ -9223372036854775808 ≤ x.q ∧ x.q ≤ 9223372036854775807 := by
  obtain ⟨A, len, cap, rfl, h1, h2, hR⟩ := open_rowsV (N := 2) Try.underlying23 Try.underlying48 (by kernel_rfl) (by kernel_rfl) rfl (by omega) hv hd
  have each : ∀ i, ∃ x : Shr, (x.nm.length ≤ maxLen ∧ -9223372036854775808 ≤ x.q ∧ x.q ≤ 9223372036854775807) ∧ (i < len → ∀ b off, A = some ⟨b, off, none⟩ → W.cell? ⟨b, off + i * 2, none⟩ = some (strV x.nm) ∧ W.cell? ⟨b, off + i * 2 + 1, none⟩ = some (.int .i64 x.q)) := by
    intro i
    by_cases hi : i < len
    · obtain ⟨b, off, rfl, _, hc⟩ := hR (by omega)
      obtain ⟨u0, n0, y0, c0, t0⟩ := hc i 0 _ hi rfl
      obtain ⟨u1, n1, y1, c1, t1⟩ := hc i 1 _ hi rfl
      obtain ⟨s0, e0, _, w0⟩ := DataW.trod_string Try.underlying9 t0
      obtain ⟨z1, e1, _, w1⟩ := DataW.trod_int Try.underlying3 t1
      cases e0
      cases e1
      have c2 : W.cell? ⟨b, off + i * 2, none⟩ = some (strV s0.data.toList) := by
        show W.cell? ⟨b, off + i * 2, none⟩ = some (.string ⟨s0.data.toList.toArray⟩)
        rw [Array.toArray_toList]
        exact c0
      exact ⟨⟨s0.data.toList, z1⟩, ⟨w0, range_i64 w1⟩, fun _ b' off' e => by cases e; exact ⟨c2, c1⟩⟩
    · exact ⟨⟨[], 0⟩, ⟨Nat.zero_le _, by show (-9223372036854775808 : Int) ≤ 0; omega, by show (0 : Int) ≤ 9223372036854775807; omega⟩, fun h => absurd h hi⟩
  refine ⟨A, len, cap, (List.range len).map fun i => Classical.choose (each i), rfl, h1, h2, ⟨by simp, fun h0 => ?_⟩, fun x hx => ?_⟩
  · obtain ⟨b, off, rfl, hb, _⟩ := hR h0
    refine ⟨b, off, rfl, hb, fun j u hu => ?_⟩
    have hjl : j < len * 2 := by
      have := (List.getElem?_eq_some_iff.1 hu).1
      rw [Enc.cells_len, List.length_map, List.length_range] at this
      exact this
    obtain ⟨q, hqe⟩ : ∃ q, j / 2 = q := ⟨_, rfl⟩
    have hq : q < len := by omega
    have hx : ((List.range len).map fun i => Classical.choose (each i))[q]? = some (Classical.choose (each q)) := by
      rw [List.getElem?_map, List.getElem?_range hq]; rfl
    obtain ⟨c0, c1⟩ := (Classical.choose_spec (each q)).2 hq b off rfl
    have hr : j = q * 2 ∨ j = q * 2 + 1 := by omega
    rcases hr with rfl | rfl
    · have e := Enc.cells_get (E := eS) _ q _ hx 0 (by decide)
      rw [show q * eS.k + 0 = q * 2 from rfl] at e
      rw [e] at hu
      cases hu
      exact c0
    · have e := Enc.cells_get (E := eS) _ q _ hx 1 (by decide)
      rw [show q * eS.k + 1 = q * 2 + 1 from rfl] at e
      rw [e] at hu
      cases hu
      exact c1
  · obtain ⟨i, _, rfl⟩ := List.mem_map.1 hx
    exact (Classical.choose_spec (each i)).1
end
end Go.Proofs.Ytmngagcekhlppaa
