/-
  Slices that the call owns, in their written-out form; three texts, one behind the other.
-/
import Derived.Test.YthfeamkomhiemaaKMake
namespace Go.Proofs.Ythfeamkomhiemaa
open Go.RowKit Go.Lib
theorem Own8.formN {w : World} {base : Nat} {v : Value} {xs : List UInt8} (h : Own8 w base v xs) {n : Nat} (hn : xs.length = n) : ∃ A c, v = .slice A n c ∧ n ≤ c ∧ c ≤ maxLen ∧ Rd w w.heap.size A n xs := by
  subst hn
  obtain ⟨A, c, e, h1, h2, h3, _⟩ := h.rd
  exact ⟨A, c, e, h1, h2, h3⟩
theorem laid_own {w : World} {g n base : Nat} {xs : List UInt8} (h : w.heap[g]? = some (.cells (xs.map v8).toArray 5 (0, 0))) (hb : base ≤ g) (hn : xs.length = n) (hm : n ≤ 1000) : Own8 w base (.slice (some ⟨g, 0, none⟩) n n) xs := by
  subst hn
  have := Row8.own (w := w) (g := g) (xs := xs) h (base := base) (n := xs.length) hb (Nat.le_refl _) (by unfold maxLen; omega)
  rwa [List.take_length] at this
theorem own_off {w : World} {base g : Nat} {u : Value} {xs : List UInt8} (h : Own8 w base u xs) (hv : g < base) : u.ownBlock = none ∨ u.ownBlock ≠ some g := by
  cases hu : u.ownBlock with
  | none => exact .inl rfl
  | some k => exact .inr (fun e => by have := h.lt k hu; cases e; omega)
theorem own_rdG {w : World} {base : Nat} {v : Value} {xs : List UInt8} (h : Own8 w base v xs) {n : Nat} (hn : xs.length = n) : ∃ A c, v = .slice A n c ∧ n ≤ c ∧ c ≤ maxLen ∧ Rd w w.heap.size A n xs ∧ (0 < n → ∃ g, A = some ⟨g, 0, none⟩ ∧ base ≤ g) := by
  subst hn
  exact h.rd
theorem own_lt {w : World} {base n c : Nat} {A : Option Addr} {xs : List UInt8} (h : Own8 w base (.slice A n c) xs) (_hr : Rd w w.heap.size A n xs) : ∀ g, (Value.slice A n c).ownBlock = some g → g < w.heap.size := by
  intro g hg
  exact (World.ownsRow.lt h g hg).2
end Go.Proofs.Ythfeamkomhiemaa
