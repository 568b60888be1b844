/-
  What the statements' walks share: cells of a block of the call's own; a reading that stays where its block stays.
-/
import Derived.Test.YtgjjepcjdekihaaPAwake
import Derived.Test.YtgjjepcjdekihaaPAddr
namespace Go.Proofs.Ytgjjepcjdekihaa
open Go.RowKit Go.Lib

theorem Own8.frozen {w : World} {base g n c : Nat} {xs : List UInt8} (h : Own8 w base (.slice (some ⟨g, 0, none⟩) n c) xs) (j : Nat) : w.frozen? ⟨g, j, none⟩ = false := by
  rcases h.2 with ⟨e, _⟩ | ⟨g', cap', cur, e, _, hg, _⟩
  · cases e
  · cases e
    exact frozen_of_row w g j cur _ hg
theorem xor8 (x y : UInt8) : bits .xor .u8 (x.toNat : Int) (y.toNat : Int) = ((x ^^^ y).toNat : Int) := by
  rw [u8_xor_nat _ _ x.toNat_lt y.toNat_lt, UInt8.toNat_xor]
/-- The cells of block g, from its head on, are just the bytes cur, and may be written. -/
def Held (w : World) (g : Nat) (cur : List UInt8) : Prop := ∀ j y, cur[j]? = some y → w.cell? ⟨g, j, none⟩ = some (v8 y) ∧ w.frozen? ⟨g, j, none⟩ = false
theorem Held.set {w : World} {g : Nat} {cur : List UInt8} (h : Held w g cur) {k : Nat} {x : UInt8} (hx : cur[k]? = some x) (y : UInt8) : Held (w.setCell ⟨g, k, none⟩ (.int .u8 (y.toNat : Int))) g (cur.set k y) := by
  intro j z hz
  rw [World.frozen?_setCell]
  have hk : k < cur.length := (List.getElem?_eq_some_iff.1 hx).1
  rw [List.getElem?_set] at hz
  by_cases e : k = j
  · subst e
    simp [hk] at hz
    subst hz
    exact ⟨World.cell?_setCell_same _ _ _ (h k x hx).1, (h k x hx).2⟩
  · rw [if_neg e] at hz
    rw [World.cell?_setCell_other _ _ _ _ (by intro e'; cases e'; exact e rfl)]
    exact h j z hz
theorem Held.rd {w : World} {g : Nat} {cur : List UInt8} (h : Held w g cur) {B n : Nat} (hg : g < B) (hn : cur.length = n) : Rd w B (some ⟨g, 0, none⟩) n cur :=
  ⟨hn, fun _ => ⟨g, 0, rfl, hg, fun j x hx => by rw [Nat.zero_add]; exact (h j x hx).1⟩⟩

theorem own_form {w : World} {base : Nat} {v : Value} {xs : List UInt8} {n : Nat} (h : Own8 w base v ([] ++ xs)) (hn : xs.length = n) (h0 : 0 < n) :
    ∃ g c, v = .slice (some ⟨g, 0, none⟩) n c ∧ n ≤ c ∧ c ≤ maxLen ∧ base ≤ g ∧ g < w.heap.size ∧ Held w g xs := by
  rw [List.nil_append] at h
  subst hn
  obtain ⟨A2, c2, rfl, hmc2, hcm2, hr2, hgg⟩ := h.rd
  obtain ⟨g, rfl, hbg⟩ := hgg h0
  obtain ⟨b, off, e, hglt⟩ := hr2.addr h0
  cases e
  refine ⟨g, c2, rfl, hmc2, hcm2, hbg, hglt, fun j y hy => ?_⟩
  obtain ⟨b, off, e, _, hc⟩ := hr2.2 h0
  cases e
  have := hc j y hy
  rw [Nat.zero_add] at this
  exact ⟨this, h.frozen j⟩
theorem Rd.keepB {w w' : World} {B b off n : Nat} {xs : List UInt8} (h : Rd w B (some ⟨b, off, none⟩) n xs) (hk : w'.heap[b]? = w.heap[b]?) : Rd w' B (some ⟨b, off, none⟩) n xs :=
  ⟨h.1, fun hn => by
    obtain ⟨b', off', e, hb, hc⟩ := h.2 hn
    cases e
    exact ⟨b, off, rfl, hb, fun j x hx => (World.cell?_of_block hk).trans (hc j x hx)⟩⟩
theorem fit_yes {sa sb : Bool} {F len : Nat} (h : fitB sa sb F len = true) : sa = sb ∧ F = 0 ∧ len ≤ 1000 := by
  simpa [fitB] using h
theorem eq_bool (r : Bool) : (r == r) = true := by simp
/-- A slice of known bytes, some. -/
theorem Own8.formN {w : World} {base : Nat} {v : Value} {xs : List UInt8} (h : Own8 w base v xs) {n : Nat} (hn : xs.length = n) : ∃ A c, v = .slice A n c ∧ n ≤ c ∧ c ≤ maxLen ∧ Rd w w.heap.size A n xs := by
  subst hn
  obtain ⟨A, c, e, h1, h2, h3, _⟩ := h.rd
  exact ⟨A, c, e, h1, h2, h3⟩
end Go.Proofs.Ytgjjepcjdekihaa
