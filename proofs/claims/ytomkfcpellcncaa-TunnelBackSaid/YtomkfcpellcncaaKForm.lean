/-
  Slices that the call owns, in their written-out form; three texts, one behind the other.
-/
import Derived.Test.YtomkfcpellcncaaKMake
namespace Go.Proofs.Ytomkfcpellcncaa
open Go.RowKit Go.Lib
theorem Own8.formN {w : World} {base : Nat} {v : Value} {xs : List UInt8} (h : Own8 w base v xs) {n : Nat} (hn : xs.length = n) : ∃ A c, v = .slice A n c ∧ n ≤ c ∧ c ≤ maxLen ∧ Rd w w.heap.size A n xs := by
  subst hn
  obtain ⟨A, c, e, h1, h2, h3, _⟩ := h.rd
  exact ⟨A, c, e, h1, h2, h3⟩
theorem laid_own {w : World} {g n base : Nat} {xs : List UInt8} (h : w.heap[g]? = some (.cells (xs.map v8).toArray 5 (0, 0))) (hb : base ≤ g) (hn : xs.length = n) (hm : n ≤ 1000) : Own8 w base (.slice (some ⟨g, 0, none⟩) n n) xs := by
  subst hn
  have := Row8.own (w := w) (g := g) (xs := xs) h (base := base) (n := xs.length) hb (Nat.le_refl _) (by unfold maxLen; omega)
  rwa [List.take_length] at this
/-- A slice that was made of noughts, with room behind it. -/
theorem made_own (w : World) (n c base : Nat) (hn : n ≤ c) (hc : c ≤ maxLen) (hb : base ≤ w.heap.size) : Own8 (w.alloc (.cells (madeCells #[.int .u8 0] c) 5)) base (.slice (some ⟨w.heap.size, 0, none⟩) n c) (List.replicate n 0) := by
  have h := (Row8.made w c).own (base := base) (n := n) hb (by rw [List.length_replicate]; exact hn) (by rw [List.length_replicate]; exact hc)
  rw [List.length_replicate, List.take_replicate, Nat.min_eq_left hn] at h
  exact h
/-- slices.Concat of three texts, their slices just laid in a row of new memory. -/
theorem concat3 (W : World) {A1 A2 A3 : Option Addr} {n1 n2 n3 c1 c2 c3 : Nat} {x y z : List UInt8} (h1 : Rd W W.heap.size A1 n1 x) (h2 : Rd W W.heap.size A2 n2 y) (h3 : Rd W W.heap.size A3 n3 z)
    (k1 : n1 ≤ c1) (k2 : n2 ≤ c2) (k3 : n3 ≤ c3) (m1 : c1 ≤ maxLen) (m2 : c2 ≤ maxLen) (m3 : c3 ≤ maxLen) (h0 : 0 < n3) (hlen : n1 + n2 + n3 ≤ 1000000) :
    Calls Try.prog 22 #[.slice (some ⟨W.heap.size, 0, none⟩) 3 3] (W.alloc (.cells #[.slice A1 n1 c1, .slice A2 n2 c2, .slice A3 n3 c3] 22)) fun e W' => ∃ v, e = .returned v ∧ Own8 W' W.heap.size v (x ++ (y ++ z)) ∧ Below W.heap.size W W' := by
  have hl := ((((CellsAt.nil_ W W.heap.size).cons h3 k3 m3).cons h2 k2 m2).cons h1 k1 m1).laid (Nat.le_refl _) 3 rfl
  have hf : ([x, y, z] : List (List UInt8)).flatten = x ++ (y ++ z) := by simp
  have h := concat_any (some ⟨W.heap.size, 0, none⟩) 3 3 [x, y, z] (by omega) (by rw [hf, List.length_append, List.length_append, h1.len, h2.len, h3.len]; omega) (by rw [hf, List.length_append, List.length_append, h1.len, h2.len, h3.len]; omega)
    (W.alloc (.cells #[.slice A1 n1 c1, .slice A2 n2 c2, .slice A3 n3 c3] 22)) hl (by simp)
  rw [hf] at h
  refine h.mono fun e W' ⟨v, he, ho, hb⟩ => ?_
  have hbel : Below W.heap.size W (W.alloc (.cells #[.slice A1 n1 c1, .slice A2 n2 c2, .slice A3 n3 c3] 22)) := (Below.refl _ W).alloc (Nat.le_refl _) _
  exact ⟨v, he, ho.base_le hbel.size, hbel.trans (hb.mono hbel.size)⟩
theorem headK_len {t : Tu} (h : t.Ok) (n : Nat) : (headK t n).length = ihN t := by
  unfold headK ihN
  split
  · exact putF_len_9 (f := six6 t n) ⟨h.s, h.d⟩
  · exact putF_len (f := four4 t n) ⟨h.s, h.d⟩
theorem Rd.marked (w : World) (xs : List UInt8) (fr : Nat × Nat) : Rd (w.alloc (.cells (xs.map v8).toArray 5 fr)) (w.heap.size + 1) (some ⟨w.heap.size, 0, none⟩) xs.length xs :=
  ⟨rfl, fun _ => ⟨w.heap.size, 0, rfl, by omega, fun j x hx => by
    rw [Nat.zero_add, cell_of_row _ w.heap.size j _ _ fr (heap_alloc_new w _)]
    simp [hx]⟩⟩
theorem zero_six : Lk.zero.Six := ⟨rfl, rfl⟩
theorem makeK_len {L : Lk} {t : Tu} (h6 : L.Six) (ho : t.Ok) (f : Int) (load : List UInt8) : (makeK L t f load).length = 14 + 4 * L.ts.length + (ihN t + (shN_ t + load.length)) := by
  unfold makeK ipK
  rw [List.length_append, lkB_len (typed_six h6 t), List.length_append, headK_len ho, fillK_len]
  rfl
theorem Own8.rdN {w : World} {base n c : Nat} {A : Option Addr} {xs : List UInt8} (h : Own8 w base (.slice A n c) xs) (hn : xs.length = n) : n ≤ c ∧ c ≤ maxLen ∧ Rd w w.heap.size A n xs := by
  obtain ⟨A', c', e, h1, h2, h3⟩ := h.formN hn
  cases e
  exact ⟨h1, h2, h3⟩
theorem own_off {w : World} {base g : Nat} {u : Value} {xs : List UInt8} (h : Own8 w base u xs) (hv : g < base) : u.ownBlock = none ∨ u.ownBlock ≠ some g := by
  cases hu : u.ownBlock with
  | none => exact .inl rfl
  | some k => exact .inr (fun e => by have := h.lt k hu; cases e; omega)
theorem own_rdG {w : World} {base : Nat} {v : Value} {xs : List UInt8} (h : Own8 w base v xs) {n : Nat} (hn : xs.length = n) : ∃ A c, v = .slice A n c ∧ n ≤ c ∧ c ≤ maxLen ∧ Rd w w.heap.size A n xs ∧ (0 < n → ∃ g, A = some ⟨g, 0, none⟩ ∧ base ≤ g) := by
  subst hn
  exact h.rd
theorem own_lt {w : World} {base n c : Nat} {A : Option Addr} {xs : List UInt8} (h : Own8 w base (.slice A n c) xs) (_hr : Rd w w.heap.size A n xs) : ∀ g, (Value.slice A n c).ownBlock = some g → g < w.heap.size := by
  intro g hg
  exact (World.ownsRow.lt h g hg).2
theorem fam_six {a b : Ad} (h : famB a b = true) : b.six = a.six := by
  unfold famB at h
  cases h1 : a.six <;> cases h2 : b.six <;> rw [h1, h2] at h <;> first | rfl | cases h
theorem lk_tv (L : Lk) (h : L.Six) (tv : Value) : (lkL L tv)[12]? = some tv := by
  obtain ⟨d, s, ts, ty, at_⟩ := L
  obtain ⟨h1, h2⟩ := h
  match d, s, h1, h2 with
  | [d0, d1, d2, d3, d4, d5], [s0, s1, s2, s3, s4, s5], _, _ => rfl
theorem why_vals (L : Lk) (t : Tu) (f : Int) (n : Nat) : whyN L t f n = 0 ∨ whyN L t f n = 1 ∨ whyN L t f n = 4 := by
  unfold whyN
  split
  · exact .inr (.inl rfl)
  · split
    · exact .inr (.inr rfl)
    · exact .inl rfl
/-- The load stands at the end of the segment, and of the frame. -/
theorem fillK_load {L : Lk} {t : Tu} {f : Int} {load : List UInt8} (h : MakeOk L t f) : (fillK t f load).drop (shN_ t) = load := by
  apply List.ext_getElem?
  intro i
  rw [List.getElem?_drop]
  unfold fillK
  have hs : (segK t f load).drop (shN_ t) = load := by
    rcases h.pr with e | e
    · have h1 : shN_ t = 20 := if_neg (by rw [e]; decide)
      rw [h1]
      unfold segK
      rw [if_neg (by rw [e]; decide)]
      rfl
    · have h1 : shN_ t = 8 := if_pos e
      rw [h1]
      unfold segK
      rw [if_pos e]
      rfl
  rcases h.pr with e | e
  · have h1 : shN_ t = 20 := if_neg (by rw [e]; decide)
    have hu : udpT t = false := decide_eq_false (by rw [e]; decide)
    rw [fillS_get (by rw [hu, h1]; show 20 + i ≠ 16; omega) (by rw [hu, h1]; show 20 + i ≠ 17; omega), ← List.getElem?_drop, hs]
  · have h1 : shN_ t = 8 := if_pos e
    have hu : udpT t = true := decide_eq_true e
    rw [fillS_get (by rw [hu, h1]; show 8 + i ≠ 6; omega) (by rw [hu, h1]; show 8 + i ≠ 7; omega), ← List.getElem?_drop, hs]
theorem makeK_seg {L : Lk} {t : Tu} (h6 : L.Six) (ho : t.Ok) (f : Int) (load : List UInt8) : (makeK L t f load).drop (14 + 4 * L.ts.length + ihN t) = fillK t f load := by
  have hl : (lkB (typedL L t) ++ headK t (segK t f load).length).length = 14 + 4 * L.ts.length + ihN t := by rw [List.length_append, lkB_len (typed_six h6 t), headK_len ho]; rfl
  unfold makeK ipK
  rw [← List.append_assoc, ← hl, List.drop_append_of_le_length (Nat.le_refl _), List.drop_length, List.nil_append]
theorem fillK_right {L : Lk} {t : Tu} (ho : t.Ok) {f : Int} (h : MakeOk L t f) {load : List UInt8} (hl : 8 + load.length < 65536) : rightS t.s.six t.s.b t.d.b (udpT t) (fillK t f load) = true ∧ faultB (udpT t) (fillK t f load) = 0 := ⟨fill_right ho.s ho.d (seg_fault h hl), fill_fault.1.trans (seg_fault h hl)⟩
end Go.Proofs.Ytomkfcpellcncaa
