/-
  A slice of slices: each name's choices; what a call writes elsewhere leaves them. No program function is named here.
-/
import Derived.Test.YtmngagcekhlppaaVRRise
namespace Go.Proofs.Ytmngagcekhlppaa
set_option maxRecDepth 100000
open Go.RowKit Go.Lib

/-- Slices of p whole numbers each, in a slice: each one's block and capacity. -/
def eC (p : Nat) : Enc (Nat × Nat) where
  S := 59
  T := 28
  k := 1
  bytes := 24
  zero := .slice none 0 0
  f x := [.slice (some ⟨x.1, 0, none⟩) p x.2]
  len _ := rfl
  one _ v hv := by rw [List.mem_singleton.1 hv]; rfl
  und := Try.underlying59
  info := by kernel_rfl
  pos := by decide
  zlen := rfl
  small := by decide
/-- A name's choices. -/
def chZ (key : List UInt8) (p : Nat) (x : Shr) : List Int := allZ (offN key x.nm p) (skN key x.nm p) p
theorem chZ_len (key : List UInt8) (p : Nat) (x : Shr) : (chZ key p x).length = p := allZ_len _ _ _
theorem chZ_get (key : List UInt8) {p i : Nat} (R : List Shr) (j : Nat) {x : Shr} (hx : R[j]? = some x) (h : i < p) : (chZ key p x)[i]? = some (((tbOf key p R).ch j i : Nat) : Int) := by
  unfold chZ
  rw [allZ_get _ _ h, ← atS_eq hx]
  rfl
/-- The slices so far are the first names' choices, each in a block of its own from 'base' on. -/
def ChAt (w : World) (base : Nat) (key : List UInt8) (p : Nat) (R : List Shr) (cs : List (Nat × Nat)) : Prop :=
  ∀ (i b c : Nat), cs[i]? = some (b, c) → ∃ x, R[i]? = some x ∧ OwnG eZ w base (.slice (some ⟨b, 0, none⟩) p c) (chZ key p x)
/-- No one's block. -/
def Off (cs : List (Nat × Nat)) (o : Option Nat) : Prop := ∀ (i b c : Nat), cs[i]? = some (b, c) → o ≠ some b
variable {w w' : World} {base p : Nat} {key : List UInt8} {R : List Shr} {cs : List (Nat × Nat)} {o : Option Nat}
theorem Off.nil_ (o : Option Nat) : Off [] o := fun i b c h => by simp at h
theorem Off.none_ (cs : List (Nat × Nat)) : Off cs none := fun _ _ _ _ h => by cases h
theorem ChAt.nil_ (w : World) (base : Nat) (key : List UInt8) (p : Nat) (R : List Shr) : ChAt w base key p R [] := fun i b c h => by simp at h
theorem ChAt.lt (h : ChAt w base key p R cs) {i b c : Nat} (hi : cs[i]? = some (b, c)) : base ≤ b ∧ b < w.heap.size := by
  obtain ⟨x, _, hx⟩ := h i b c hi
  exact ⟨hx.lt b rfl, hx.ltS b rfl⟩
theorem ChAt.fresh (h : ChAt w base key p R cs) {n : Nat} (hn : w.heap.size ≤ n) : Off cs (some n) := fun i b c hi e => by
  have := (h.lt hi).2
  cases e
  omega
theorem ChAt.early (h : ChAt w base key p R cs) {n : Nat} (hn : n < base) : Off cs (some n) := fun i b c hi e => by
  have := (h.lt hi).1
  cases e
  omega
theorem ChAt.kept (h : ChAt w base key p R cs) {row : Option Nat} (hg : w.grownBy w' row) (ho : Off cs row) : ChAt w' base key p R cs := fun i b c hi => by
  obtain ⟨x, hx, hw⟩ := h i b c hi
  exact ⟨x, hx, hw.kept hg (.inr fun e => ho i b c hi e.symm)⟩
theorem ChAt.below (h : ChAt w base key p R cs) (hb : Below w.heap.size w w') : ChAt w' base key p R cs := fun i b c hi => by
  obtain ⟨x, hx, hw⟩ := h i b c hi
  exact ⟨x, hx, hw.below hb⟩
theorem ChAt.alloc (h : ChAt w base key p R cs) (ob : Obj) : ChAt (w.alloc ob) base key p R cs := fun i b c hi => by
  obtain ⟨x, hx, hw⟩ := h i b c hi
  exact ⟨x, hx, hw.alloc ob⟩
theorem ChAt.drewN (h : ChAt w base key p R cs) (n : Nat) : ChAt (w.drewN n) base key p R cs := h
theorem ChAt.succ (h : ChAt w base key p R cs) {b c : Nat} {x : Shr} (hx : R[cs.length]? = some x) (hw : OwnG eZ w base (.slice (some ⟨b, 0, none⟩) p c) (chZ key p x)) : ChAt w base key p R (cs ++ [(b, c)]) := fun i b' c' hi => by
  rcases Nat.lt_or_ge i cs.length with h1 | h1
  · rw [List.getElem?_append_left h1] at hi
    exact h i b' c' hi
  · rw [List.getElem?_append_right h1] at hi
    have h2 : i - cs.length = 0 := by
      have := (List.getElem?_eq_some_iff.1 hi).1
      simp at this
      omega
    rw [h2] at hi
    simp at hi
    obtain ⟨rfl, rfl⟩ := hi
    obtain rfl : i = cs.length := by omega
    exact ⟨x, hx, hw⟩
theorem Off.succ (h : Off cs o) {b c : Nat} (hb : o ≠ some b) : Off (cs ++ [(b, c)]) o := fun i b' c' hi => by
  rcases Nat.lt_or_ge i cs.length with h1 | h1
  · rw [List.getElem?_append_left h1] at hi
    exact h i b' c' hi
  · rw [List.getElem?_append_right h1] at hi
    have h2 : i - cs.length = 0 := by
      have := (List.getElem?_eq_some_iff.1 hi).1
      simp at this
      omega
    rw [h2] at hi
    simp at hi
    obtain ⟨rfl, rfl⟩ := hi
    exact hb
/-- Behind an append: the row stays, or it is new. -/
theorem ChAt.offAppend (h : ChAt w base key p R cs) {r r' : Option Nat} (ho : Off cs r) (hr : r' = r ∨ r' = some w.heap.size) : Off cs r' := by
  rcases hr with rfl | rfl
  · exact ho
  · exact h.fresh (Nat.le_refl _)
/-- Credits ahead of visit v: how often each was gone through, by its quanta, by the rest of the greatest. -/
def credL (t : Tb) (v : Nat) : List Int := (List.range t.n).map fun j => ((t.rd j v * t.q j % t.G : Nat) : Int)
theorem credL_len (t : Tb) (v : Nat) : (credL t v).length = t.n := by simp [credL]
theorem credL_get {t : Tb} {v j : Nat} (hj : j < t.n) : (credL t v)[j]? = some ((t.rd j v * t.q j % t.G : Nat) : Int) := by simp [credL, hj]
theorem credL_zero (t : Tb) : credL t 0 = List.replicate t.n 0 := by
  apply List.ext_getElem?
  intro j
  by_cases h : j < t.n
  · rw [credL_get h, List.getElem?_replicate, if_pos h]
    unfold Tb.rd
    rw [Nat.zero_div, Nat.zero_mod, if_neg (Nat.not_lt_zero _), Nat.zero_add, Nat.zero_mul, Nat.zero_mod]
    rfl
  · rw [List.getElem?_eq_none (by rw [credL_len]; omega), List.getElem?_eq_none (by rw [List.length_replicate]; omega)]
/-- The credit of the visit's name, and what it is behind it. -/
theorem credL_own {t : Tb} (hn : 0 < t.n) (v : Nat) : (credL t v)[v % t.n]? = some ((v / t.n * t.q (v % t.n) % t.G : Nat) : Int) := by
  rw [credL_get (Nat.mod_lt v hn), t.rd_own]
theorem credL_succ {t : Tb} (hn : 0 < t.n) (v : Nat) {z : Int} (hz : z = (((v / t.n + 1) * t.q (v % t.n) % t.G : Nat) : Int)) : (credL t v).set (v % t.n) z = credL t (v + 1) := by
  subst hz
  apply List.ext_getElem?
  intro j
  by_cases h : j < t.n
  · rw [List.getElem?_set, credL_len, credL_get h, credL_get h, t.rd_succ hn h]
    by_cases hj : v % t.n = j
    · rw [if_pos hj, if_pos (Nat.mod_lt v hn), if_pos hj.symm]
      subst hj
      rw [t.rd_own]
    · rw [if_neg hj, if_neg (fun e => hj e.symm), Nat.add_zero]
  · rw [List.getElem?_eq_none (by rw [List.length_set, credL_len]; omega), List.getElem?_eq_none (by rw [credL_len]; omega)]
end Go.Proofs.Ytmngagcekhlppaa
