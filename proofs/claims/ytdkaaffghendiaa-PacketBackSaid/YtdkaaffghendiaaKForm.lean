/-
  Slices that the call owns, in their written-out form; three texts, one behind the other.
-/
import Derived.Test.YtdkaaffghendiaaKMake
namespace Go.Proofs.Ytdkaaffghendiaa
open Go.RowKit Go.Lib

theorem Own8.formN {w : World} {base : Nat} {v : Value} {xs : List UInt8} (h : Own8 w base v xs) {n : Nat} (hn : xs.length = n) : ∃ A c, v = .slice A n c ∧ n ≤ c ∧ c ≤ maxLen ∧ Rd w w.heap.size A n xs := by
  subst hn
  obtain ⟨A, c, e, h1, h2, h3, _⟩ := h.rd
  exact ⟨A, c, e, h1, h2, h3⟩
theorem laid_own {w : World} {g n base : Nat} {xs : List UInt8} (h : w.heap[g]? = some (.cells (xs.map v8).toArray 5 (0, 0))) (hb : base ≤ g) (hn : xs.length = n) (hm : n ≤ 1000) : Own8 w base (.slice (some ⟨g, 0, none⟩) n n) xs := by
  subst hn
  have := Row8.own (w := w) (g := g) (xs := xs) h (base := base) (n := xs.length) hb (Nat.le_refl _) (by unfold maxLen; omega)
  rwa [List.take_length] at this
/-- A slice that was made of noughts, with room behind it. -/
theorem made_own (w : World) (n c base : Nat) (hn : n ≤ c) (hc : c ≤ maxLen) (hb : base ≤ w.heap.size) : Own8 (w.alloc (.cells (madeCells #[.int .u8 0] c) 5)) base (.slice (some ⟨w.heap.size, 0, none⟩) n c) (List.replicate n 0) := by
  have h := (Row8.made w c).own (base := base) (n := n) hb (by rw [List.length_replicate]; exact hn) (by rw [List.length_replicate]; exact hc)
  rw [List.length_replicate, List.take_replicate, Nat.min_eq_left hn] at h
  exact h
/-- slices.Concat of three texts, their slices just laid in a row of new memory. -/
theorem concat3 (W : World) {A1 A2 A3 : Option Addr} {n1 n2 n3 c1 c2 c3 : Nat} {x y z : List UInt8} (h1 : Rd W W.heap.size A1 n1 x) (h2 : Rd W W.heap.size A2 n2 y) (h3 : Rd W W.heap.size A3 n3 z)
    (k1 : n1 ≤ c1) (k2 : n2 ≤ c2) (k3 : n3 ≤ c3) (m1 : c1 ≤ maxLen) (m2 : c2 ≤ maxLen) (m3 : c3 ≤ maxLen) (h0 : 0 < n3) (hlen : n1 + n2 + n3 ≤ 1000000) :
    Calls Try.prog 31 #[.slice (some ⟨W.heap.size, 0, none⟩) 3 3] (W.alloc (.cells #[.slice A1 n1 c1, .slice A2 n2 c2, .slice A3 n3 c3] 22)) fun e W' => ∃ v, e = .returned v ∧ Own8 W' W.heap.size v (x ++ (y ++ z)) ∧ Below W.heap.size W W' := by
  have hl := ((((CellsAt.nil_ W W.heap.size).cons h3 k3 m3).cons h2 k2 m2).cons h1 k1 m1).laid (Nat.le_refl _) 3 rfl
  have hf : ([x, y, z] : List (List UInt8)).flatten = x ++ (y ++ z) := by simp
  have h := concat_any (some ⟨W.heap.size, 0, none⟩) 3 3 [x, y, z] (by omega) (by rw [hf, List.length_append, List.length_append, h1.len, h2.len, h3.len]; omega) (by rw [hf, List.length_append, List.length_append, h1.len, h2.len, h3.len]; omega)
    (W.alloc (.cells #[.slice A1 n1 c1, .slice A2 n2 c2, .slice A3 n3 c3] 22)) hl (by simp)
  rw [hf] at h
  refine h.mono fun e W' ⟨v, he, ho, hb⟩ => ?_
  have hbel : Below W.heap.size W (W.alloc (.cells #[.slice A1 n1 c1, .slice A2 n2 c2, .slice A3 n3 c3] 22)) := (Below.refl _ W).alloc (Nat.le_refl _) _
  exact ⟨v, he, ho.base_le hbel.size, hbel.trans (hb.mono hbel.size)⟩
end Go.Proofs.Ytdkaaffghendiaa
