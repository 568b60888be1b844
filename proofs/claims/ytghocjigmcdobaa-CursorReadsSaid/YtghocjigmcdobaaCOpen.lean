/-
  Arguments that are slices of structs: items, pieces, asks, as lists.
-/
import Derived.Test.YtghocjigmcdobaaCAwake
import Derived.Test.YtghocjigmcdobaaLift
import Derived.Deep.Slices
import Derived.Deep.Fields
namespace Go.Proofs.Ytghocjigmcdobaa
open Go.RowKit Go.Lib Go.ChangeShapes Go.WideShapes Go.ChangeAt Go.Deep

section
variable {H : Type} {enc : TypeId × Value → H} {W : World}
/-- A slice of structs of one-cell fields: each field of each element. -/
theorem open_rows {t e : TypeId} {fs : Array Field} {N : Nat} (ht : Try.prog.underlying t = some (.slice e)) (he : Try.prog.underlying e = some (.struct fs)) (hone : oneCellFields Try.prog fs = true) (hC : Try.prog.cellsOf e = N) (hN : fs.size = N) (h0 : 0 < N)
    {r : Reach} {b0 : Nat} {v : Value} {d : DataW H} {ps : List MemPlace} (hv : Value.okWide Try.prog W r b0 t v) (hd : DataW.Trod enc Try.prog W 0 (fun _ => true) true t v d ps) :
    ∃ A len cap, v = .slice A len cap ∧ len ≤ cap ∧ cap ≤ maxLen ∧ (0 < len → ∃ b off, A = some ⟨b, off, none⟩ ∧ b < W.heap.size ∧
      ∀ i j f, i < len → fs[j]? = some f → ∃ u n y, W.cell? ⟨b, off + i * N + j, none⟩ = some u ∧ DataW.trod enc Try.prog W 0 (fun _ => true) true n f.type [u] = some y) := by
  obtain ⟨A, len, cap, rfl⟩ := okWide_slice ht hv
  obtain ⟨fuel, hf⟩ := hd
  rcases open_slice ht hf with ⟨hcs, _⟩ | ⟨a, l, c, m, n, D, Pl, hcs, _, hl, hm, hmm, _, hi⟩
  · simp [Value.cells] at hcs
    obtain ⟨rfl, rfl, rfl⟩ := hcs
    exact ⟨none, 0, 0, rfl, Nat.le_refl _, by simp [maxLen], fun h => absurd h (by omega)⟩
  · simp [Value.cells] at hcs
    obtain ⟨rfl, rfl, rfl⟩ := hcs
    have hmc : m = cap := by simpa using hmm
    refine ⟨_, len, cap, rfl, hl, hm, fun hlen => ?_⟩
    have each : ∀ i j f, i < len → fs[j]? = some f → ∃ u q y, W.cell? ((a.add (i * N)).add j) = some u ∧ DataW.trod enc Try.prog W 0 (fun _ => true) true q f.type [u] = some y := by
      intro i j f hil hj
      obtain ⟨cs', hc, ht'⟩ := hi i (by omega)
      rw [hC] at hc
      obtain ⟨ys, q, _, _, hlen', hyl, hfl⟩ := DataW.trod_struct he ht'
      obtain ⟨_, hcl, hat⟩ := World.cells?_some hc
      obtain ⟨ho, hk⟩ := hone_of hone j f hj
      have hjN : j < N := by rw [← hN]; exact (Array.getElem?_eq_some_iff.1 hj).1
      have hx := hfl j f hj
      rw [ho, hk, List.drop_eq_getElem_cons (by omega)] at hx
      refine ⟨cs'[j]'(by omega), q, ys[j]'(by omega), ?_, ?_⟩
      · rw [hat j hjN]; exact List.getElem?_eq_getElem _
      · exact hx.trans (List.getElem?_eq_getElem _)
    obtain ⟨b, off, spot⟩ := a
    obtain ⟨f0, hf0⟩ : ∃ f0, fs[0]? = some f0 := ⟨_, Array.getElem?_eq_getElem (by omega)⟩
    obtain ⟨u0, _, _, hu0, _⟩ := each 0 0 f0 hlen hf0
    have hspot : spot = none := by simpa [Addr.add] using World.cell?_spot hu0
    subst hspot
    rw [add_plain, add_plain] at hu0
    refine ⟨b, off, rfl, World.block_lt_of_cell? W _ hu0, fun i j f hil hj => ?_⟩
    obtain ⟨u, q, y, h1, h2⟩ := each i j f hil hj
    rw [add_plain, add_plain] at h1
    exact ⟨u, q, y, h1, h2⟩

/-- A cell of bytes. -/
theorem cell_bytes {fuel : Nat} {u : Value} {x : DataW H × List MemPlace} (h : DataW.trod enc Try.prog W 0 (fun _ => true) true fuel 22 [u] = some x) :
    ∃ A len cap xs, u = .slice A len cap ∧ len ≤ cap ∧ cap ≤ maxLen ∧ Rd W W.heap.size A len xs := by
  have hu : ∃ A len cap, u = .slice A len cap := by
    rcases open_ints Try.underlying22 Try.underlying5 (by kernel_rfl) h with ⟨hcs, _⟩ | ⟨a, l, c, zs, hcs, _⟩
    · cases hcs; exact ⟨_, _, _, rfl⟩
    · cases hcs; exact ⟨_, _, _, rfl⟩
  obtain ⟨A, len, cap, rfl⟩ := hu
  obtain ⟨A', len', cap', xs, he, h1, h2, h3⟩ := rd_of_trod h
  cases he
  exact ⟨A, len, cap, xs, rfl, h1, h2, h3⟩

theorem open_items {r : Reach} {b0 : Nat} {v : Value} {d : DataW H} {ps : List MemPlace} (hv : Value.okWide Try.prog W r b0 23 v) (hd : DataW.Trod enc Try.prog W 0 (fun _ => true) true 23 v d ps) :
    ∃ A len cap xs, v = .slice A len cap ∧ len ≤ cap ∧ cap ≤ maxLen ∧ PlanAt W W.heap.size A len xs ∧ ∀ x ∈ xs, -9223372036854775808 ≤ x.n ∧ x.n ≤ 9223372036854775807 := by
  obtain ⟨A, len, cap, rfl, h1, h2, hR⟩ := open_rows (N := 3) Try.underlying23 Try.underlying68 (by kernel_rfl) (by kernel_rfl) rfl (by omega) hv hd
  have each : ∀ i, ∃ x : It, i < len → ∀ b off, A = some ⟨b, off, none⟩ → (W.cell? ⟨b, off + i * 3, none⟩ = some (.int .i64 x.k) ∧ W.cell? ⟨b, off + i * 3 + 1, none⟩ = some (.int .i64 x.n) ∧ W.cell? ⟨b, off + i * 3 + 2, none⟩ = some (.bool x.b)) ∧ (-9223372036854775808 ≤ x.n ∧ x.n ≤ 9223372036854775807) := by
    intro i
    by_cases hi : i < len
    · obtain ⟨b, off, rfl, _, hc⟩ := hR (by omega)
      obtain ⟨u0, n0, y0, c0, t0⟩ := hc i 0 _ hi rfl
      obtain ⟨u1, n1, y1, c1, t1⟩ := hc i 1 _ hi rfl
      obtain ⟨u2, n2, y2, c2, t2⟩ := hc i 2 _ hi rfl
      obtain ⟨k, e0, _, _⟩ := DataW.trod_int Try.underlying3 t0
      obtain ⟨n, e1, _, w1⟩ := DataW.trod_int Try.underlying3 t1
      obtain ⟨b2, e2, _⟩ := DataW.trod_bool Try.underlying4 t2
      cases e0
      cases e1
      cases e2
      exact ⟨⟨k, n, b2⟩, fun _ b' off' e => by cases e; exact ⟨⟨c0, c1, c2⟩, range_i64 w1⟩⟩
    · exact ⟨⟨0, 0, false⟩, fun h => absurd h hi⟩
  refine ⟨A, len, cap, (List.range len).map fun i => Classical.choose (each i), rfl, h1, h2, ⟨by simp, fun h0 => ?_⟩, fun x hx => ?_⟩
  · obtain ⟨b, off, rfl, hb, _⟩ := hR h0
    refine ⟨b, off, rfl, hb, fun j x hx => ?_⟩
    rw [List.getElem?_map] at hx
    by_cases hj : j < len
    · rw [List.getElem?_range hj] at hx
      cases hx
      exact (Classical.choose_spec (each j) hj b off rfl).1
    · rw [List.getElem?_eq_none (by simpa using hj)] at hx; cases hx
  · obtain ⟨i, hi, rfl⟩ := List.mem_map.1 hx
    have hi' := List.mem_range.1 hi
    obtain ⟨b, off, e, _⟩ := hR (by omega)
    exact (Classical.choose_spec (each i) hi' b off e).2

theorem open_pieces {r : Reach} {b0 : Nat} {v : Value} {d : DataW H} {ps : List MemPlace} (hv : Value.okWide Try.prog W r b0 25 v) (hd : DataW.Trod enc Try.prog W 0 (fun _ => true) true 25 v d ps) :
    ∃ A len cap xs, v = .slice A len cap ∧ len ≤ cap ∧ cap ≤ maxLen ∧ PcsAt W W.heap.size A len xs ∧ ∀ p ∈ xs, p.n < 18446744073709551616 := by
  obtain ⟨A, len, cap, rfl, h1, h2, hR⟩ := open_rows (N := 2) Try.underlying25 Try.underlying70 (by kernel_rfl) (by kernel_rfl) rfl (by omega) hv hd
  have each : ∀ i, ∃ x : Pc, i < len → ∀ b off, A = some ⟨b, off, none⟩ → (W.cell? ⟨b, off + i * 2, none⟩ = some (.int .u64 (x.n : Int)) ∧ ∃ A' l' c', W.cell? ⟨b, off + i * 2 + 1, none⟩ = some (.slice A' l' c') ∧ Rd W W.heap.size A' l' x.bs) ∧ x.n < 18446744073709551616 := by
    intro i
    by_cases hi : i < len
    · obtain ⟨b, off, rfl, _, hc⟩ := hR (by omega)
      obtain ⟨u0, n0, y0, c0, t0⟩ := hc i 0 _ hi rfl
      obtain ⟨u1, n1, y1, c1, t1⟩ := hc i 1 _ hi rfl
      obtain ⟨k, e0, _, w0⟩ := DataW.trod_int Try.underlying47 t0
      obtain ⟨A', l', c', xs, rfl, _, _, hr⟩ := cell_bytes t1
      cases e0
      obtain ⟨g0, g1⟩ := range_u64 w0
      obtain ⟨n, rfl⟩ := Int.eq_ofNat_of_zero_le g0
      exact ⟨⟨n, xs⟩, fun _ b' off' e => by cases e; exact ⟨⟨c0, A', l', c', c1, hr⟩, by show n < _; omega⟩⟩
    · exact ⟨⟨0, []⟩, fun h => absurd h hi⟩
  refine ⟨A, len, cap, (List.range len).map fun i => Classical.choose (each i), rfl, h1, h2, ⟨by simp, fun h0 => ?_⟩, fun x hx => ?_⟩
  · obtain ⟨b, off, rfl, hb, _⟩ := hR h0
    refine ⟨b, off, rfl, hb, fun j x hx => ?_⟩
    rw [List.getElem?_map] at hx
    by_cases hj : j < len
    · rw [List.getElem?_range hj] at hx
      cases hx
      exact (Classical.choose_spec (each j) hj b off rfl).1
    · rw [List.getElem?_eq_none (by simpa using hj)] at hx; cases hx
  · obtain ⟨i, hi, rfl⟩ := List.mem_map.1 hx
    have hi' := List.mem_range.1 hi
    obtain ⟨b, off, e, _⟩ := hR (by omega)
    exact (Classical.choose_spec (each i) hi' b off e).2

end
/-- What is asked of a reader, or a writer. -/
structure As where
  k : Int
  n : Int
  b : Bool
  m : Nat
  bs : List UInt8
/-- The slice reads as these asks. -/
def AsksAt (w : World) (B : Nat) (A : Option Addr) (len : Nat) (xs : List As) : Prop :=
  xs.length = len ∧ (0 < len → ∃ b off, A = some ⟨b, off, none⟩ ∧ b < B ∧ ∀ (j : Nat) (x : As), xs[j]? = some x →
    w.cell? ⟨b, off + j * 5, none⟩ = some (.int .i64 x.k) ∧ w.cell? ⟨b, off + j * 5 + 1, none⟩ = some (.int .i64 x.n) ∧ w.cell? ⟨b, off + j * 5 + 2, none⟩ = some (.bool x.b) ∧ w.cell? ⟨b, off + j * 5 + 3, none⟩ = some (.int .u64 (x.m : Int)) ∧
      ∃ A' l' c', w.cell? ⟨b, off + j * 5 + 4, none⟩ = some (.slice A' l' c') ∧ Rd w B A' l' x.bs)
section
variable {H : Type} {enc : TypeId × Value → H} {W : World}
theorem open_asks {r : Reach} {b0 : Nat} {v : Value} {d : DataW H} {ps : List MemPlace} (hv : Value.okWide Try.prog W r b0 42 v) (hd : DataW.Trod enc Try.prog W 0 (fun _ => true) true 42 v d ps) :
    ∃ A len cap xs, v = .slice A len cap ∧ len ≤ cap ∧ cap ≤ maxLen ∧ AsksAt W W.heap.size A len xs ∧ ∀ x ∈ xs, (-9223372036854775808 ≤ x.n ∧ x.n ≤ 9223372036854775807) ∧ x.m < 18446744073709551616 := by
  obtain ⟨A, len, cap, rfl, h1, h2, hR⟩ := open_rows (N := 5) Try.underlying42 Try.underlying49 (by kernel_rfl) (by kernel_rfl) rfl (by omega) hv hd
  have each : ∀ i, ∃ x : As, i < len → ∀ b off, A = some ⟨b, off, none⟩ → (W.cell? ⟨b, off + i * 5, none⟩ = some (.int .i64 x.k) ∧ W.cell? ⟨b, off + i * 5 + 1, none⟩ = some (.int .i64 x.n) ∧ W.cell? ⟨b, off + i * 5 + 2, none⟩ = some (.bool x.b) ∧ W.cell? ⟨b, off + i * 5 + 3, none⟩ = some (.int .u64 (x.m : Int)) ∧ ∃ A' l' c', W.cell? ⟨b, off + i * 5 + 4, none⟩ = some (.slice A' l' c') ∧ Rd W W.heap.size A' l' x.bs) ∧ (-9223372036854775808 ≤ x.n ∧ x.n ≤ 9223372036854775807) ∧ x.m < 18446744073709551616 := by
    intro i
    by_cases hi : i < len
    · obtain ⟨b, off, rfl, _, hc⟩ := hR (by omega)
      obtain ⟨u0, n0, y0, c0, t0⟩ := hc i 0 _ hi rfl
      obtain ⟨u1, n1, y1, c1, t1⟩ := hc i 1 _ hi rfl
      obtain ⟨u2, n2, y2, c2, t2⟩ := hc i 2 _ hi rfl
      obtain ⟨u3, n3, y3, c3, t3⟩ := hc i 3 _ hi rfl
      obtain ⟨u4, n4, y4, c4, t4⟩ := hc i 4 _ hi rfl
      obtain ⟨k, e0, _, _⟩ := DataW.trod_int Try.underlying3 t0
      obtain ⟨n, e1, _, w1⟩ := DataW.trod_int Try.underlying3 t1
      obtain ⟨b2, e2, _⟩ := DataW.trod_bool Try.underlying4 t2
      obtain ⟨m, e3, _, w3⟩ := DataW.trod_int Try.underlying47 t3
      obtain ⟨A', l', c', xs, rfl, _, _, hr⟩ := cell_bytes t4
      cases e0
      cases e1
      cases e2
      cases e3
      obtain ⟨g0, g1⟩ := range_u64 w3
      obtain ⟨m, rfl⟩ := Int.eq_ofNat_of_zero_le g0
      exact ⟨⟨k, n, b2, m, xs⟩, fun _ b' off' e => by cases e; exact ⟨⟨c0, c1, c2, c3, A', l', c', c4, hr⟩, range_i64 w1, by show m < _; omega⟩⟩
    · exact ⟨⟨0, 0, false, 0, []⟩, fun h => absurd h hi⟩
  refine ⟨A, len, cap, (List.range len).map fun i => Classical.choose (each i), rfl, h1, h2, ⟨by simp, fun h0 => ?_⟩, fun x hx => ?_⟩
  · obtain ⟨b, off, rfl, hb, _⟩ := hR h0
    refine ⟨b, off, rfl, hb, fun j x hx => ?_⟩
    rw [List.getElem?_map] at hx
    by_cases hj : j < len
    · rw [List.getElem?_range hj] at hx
      cases hx
      exact (Classical.choose_spec (each j) hj b off rfl).1
    · rw [List.getElem?_eq_none (by simpa using hj)] at hx; cases hx
  · obtain ⟨i, hi, rfl⟩ := List.mem_map.1 hx
    have hi' := List.mem_range.1 hi
    obtain ⟨b, off, e, _⟩ := hR (by omega)
    exact (Classical.choose_spec (each i) hi' b off e).2
end
end Go.Proofs.Ytghocjigmcdobaa
