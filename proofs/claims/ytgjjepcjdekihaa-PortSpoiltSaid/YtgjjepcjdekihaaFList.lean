/-
  Parts of byte slices; slices of byte slices and what they read as. For a seat without the record's functions (XRList holds the same for one with them).
-/
import Derived.Test.YtgjjepcjdekihaaCText
import Derived.Test.YtgjjepcjdekihaaFrame
import Derived.Deep.RegionHeld3
import Derived.Deep.AppendLies
import Derived.Lib.SliceRun
import Derived.IntWalk
namespace Go.Proofs.Ytgjjepcjdekihaa
open Go.RowKit Go.Lib

/-- The part of a slice from byte k on, n bytes: what it reads as. -/
theorem Rd.part {w : World} {B len : Nat} {A : Option Addr} {xs : List UInt8} (h : Rd w B A len xs) {k n : Nat} (hk : k + n ≤ len) (hn : 0 < n) :
    Rd w B (A.map fun a => a.add k) n ((xs.drop k).take n) := by
  refine ⟨by rw [List.length_take, List.length_drop, h.1]; omega, fun _ => ?_⟩
  obtain ⟨b, off, rfl, hb, hc⟩ := h.2 (by omega)
  refine ⟨b, off + k, by simp [add_plain], hb, fun j x hx => ?_⟩
  rw [show off + k + j = off + (k + j) by omega]
  refine hc (k + j) x ?_
  rw [List.getElem?_take] at hx
  split at hx
  · rw [List.getElem?_drop] at hx; exact hx
  · cases hx

/-- b[l:h] of bytes, the address under one name. -/
def cutA (A : Option Addr) (cap l : Nat) : Option Addr := if cap = l then A else A.map fun a => a.add l
theorem Rd.cut {w : World} {B len : Nat} {A : Option Addr} {xs : List UInt8} (h : Rd w B A len xs) {l n : Nat} (hk : l + n ≤ len) (cap : Nat) (hcap : len ≤ cap) : Rd w B (cutA A cap l) n ((xs.drop l).take n) := by
  unfold cutA
  rcases Nat.eq_zero_or_pos n with rfl | hn
  · rw [List.take_zero]; exact Rd.nil_ _
  · rw [if_neg (by omega)]; exact h.part hk hn
theorem Rd.from {w : World} {B len : Nat} {A : Option Addr} {xs : List UInt8} (h : Rd w B A len xs) {l : Nat} (hk : l ≤ len) (cap : Nat) (hcap : len ≤ cap) : Rd w B (cutA A cap l) (len - l) (xs.drop l) := by
  have := h.cut (l := l) (n := len - l) (by omega) cap hcap
  rwa [List.take_of_length_le (by rw [List.length_drop, h.1]; exact Nat.le_refl _)] at this
/-- b[L:H], where L and H are whole numbers that come to l and l + n. -/
theorem run_cut8 (A : Option Addr) (len cap l n : Nat) (L H : Int) (hL : L = (l : Int)) (hH : H = ((l + n : Nat) : Int)) (h2 : l + n ≤ cap) (W : World) :
    (Instr.slice 22 (.slice A len cap) (some (.int .i64 L)) (some (.int .i64 H)) none).run Try.prog W = .ok (.slice (cutA A cap l) n (cap - l)) W := by
  subst hL hH
  obtain ⟨i0, hi, hz0, hz1, hz2⟩ := info_parts info8
  have hb := run_sliceBound (P := Try.prog) (w := W) .i64 (l : Int) (l + n) .sliceB (by omega) (by omega)
  have hc := run_sliceBound (P := Try.prog) (w := W) .i64 ((l + n : Nat) : Int) cap .sliceAcap (by omega) (by omega)
  simp only [Int.natCast_add] at hc
  simp [Instr.slice, hb, hc, run_underlying Try.underlying22, Instr.sliceBounds, sizeOf, typeInfo, hi, hz1, cutA, show ((l : Int) + (n : Int)).toNat = l + n by omega]
theorem run_from8 (A : Option Addr) (len cap l : Nat) (h1 : l ≤ len) (W : World) :
    (Instr.slice 22 (.slice A len cap) (some (.int .i64 (l : Int))) none none).run Try.prog W = .ok (.slice (cutA A cap l) (len - l) (cap - l)) W := by
  obtain ⟨i0, hi, hz0, hz1, hz2⟩ := info_parts info8
  have hb := run_sliceBound (P := Try.prog) (w := W) .i64 (l : Int) len .sliceB (by omega) (by omega)
  simp [Instr.slice, hb, run_underlying Try.underlying22, Instr.sliceBounds, sizeOf, typeInfo, hi, hz1, cutA]

/-- A slice of no bytes, of new memory. -/
theorem empty8 {base : Nat} (w : World) (h : base ≤ w.heap.size) : Own8 (w.alloc (.cells #[] 5)) base (.slice (some ⟨w.heap.size, 0, none⟩) 0 0) [] := by
  have h := Row8.own (w := w.alloc (.cells #[] 5)) (g := w.heap.size) (xs := []) (heap_alloc_new w _) (base := base) (n := 0) h (Nat.zero_le _) (by simp)
  simpa using h
/-- The slice reads as these lists of bytes. -/
def LsAt (w : World) (B : Nat) (A : Option Addr) (len : Nat) (l : List (List UInt8)) : Prop :=
  l.length = len ∧ (0 < len → ∃ b off, A = some ⟨b, off, none⟩ ∧ b < B ∧ ∀ (j : Nat) (xs : List UInt8), l[j]? = some xs →
    ∃ A' n' c', w.cell? ⟨b, off + j, none⟩ = some (.slice A' n' c') ∧ n' ≤ c' ∧ c' ≤ maxLen ∧ Rd w B A' n' xs)
section
variable {w w' : World} {B B' len : Nat} {A : Option Addr} {l : List (List UInt8)}
theorem LsAt.size (h : LsAt w B A len l) : l.length = len := h.1
theorem LsAt.nil_ (A : Option Addr) : LsAt w B A 0 [] := ⟨rfl, fun h => absurd h (by omega)⟩
theorem LsAt.keep (h : LsAt w B A len l) (hk : ∀ p : Addr, p.block < B → w'.cell? p = w.cell? p) : LsAt w' B A len l :=
  ⟨h.1, fun hn => by
    obtain ⟨b, off, e, hb, hc⟩ := h.2 hn
    refine ⟨b, off, e, hb, fun j p hp => ?_⟩
    obtain ⟨A', l', c', h2, h4, h5, h3⟩ := hc j p hp
    exact ⟨A', l', c', (hk _ hb).trans h2, h4, h5, h3.keep hk⟩⟩
theorem LsAt.below (h : LsAt w B A len l) (hb : Below B w w') : LsAt w' B A len l := h.keep fun _ hp => hb.cell hp
theorem LsAt.alloc (h : LsAt w B A len l) (hB : B ≤ w.heap.size) (o : Obj) : LsAt (w.alloc o) B A len l := h.keep fun p hp => World.cell?_alloc_lt w o p (by omega)
theorem LsAt.drewN (h : LsAt w B A len l) (k : Nat) : LsAt (w.drewN k) B A len l := h.keep fun _ _ => rfl
theorem LsAt.more (h : LsAt w B A len l) (hB : B ≤ B') : LsAt w B' A len l :=
  ⟨h.1, fun hn => by
    obtain ⟨b, off, e, hb, hc⟩ := h.2 hn
    refine ⟨b, off, e, by omega, fun j p hp => ?_⟩
    obtain ⟨A', l', c', h2, h4, h5, h3⟩ := hc j p hp
    exact ⟨A', l', c', h2, h4, h5, h3.more hB⟩⟩
theorem LsAt.take (h : LsAt w B A len l) {k : Nat} (hk : k ≤ len) : LsAt w B A k (l.take k) := by
  refine ⟨by rw [List.length_take, h.1]; omega, fun h0 => ?_⟩
  obtain ⟨b, off, e, hb, hc⟩ := h.2 (by omega)
  refine ⟨b, off, e, hb, fun j x hx => hc j x ?_⟩
  rw [List.getElem?_take] at hx
  split at hx
  · exact hx
  · cases hx
end
/-- A slice of one that was just laid in a block of its own. -/
theorem LsAt.one {w : World} {B n c : Nat} {A : Option Addr} {xs : List UInt8} (h : Rd w B A n xs) (hB : B ≤ w.heap.size) (hn : n ≤ c) (hc : c ≤ maxLen) :
    LsAt (w.alloc (.cells #[.slice A n c] 22)) (w.heap.size + 1) (some ⟨w.heap.size, 0, none⟩) 1 [xs] :=
  ⟨rfl, fun _ => ⟨w.heap.size, 0, rfl, by omega, fun j x hx => by
    match j, hx with
    | 0, hx =>
      cases hx
      exact ⟨A, n, c, by rw [cell_of_row _ w.heap.size _ _ _ (0, 0) (heap_alloc_new w _)]; rfl, hn, hc, (h.alloc hB _).more (by omega)⟩⟩⟩


/-- The cells of a row of byte slices read as these lists of bytes. -/
def CellsAt (w : World) (B : Nat) (cs : List Value) (l : List (List UInt8)) : Prop :=
  l.length = cs.length ∧ ∀ (j : Nat) (u : Value) (xs : List UInt8), cs[j]? = some u → l[j]? = some xs → ∃ A' n' c', u = .slice A' n' c' ∧ n' ≤ c' ∧ c' ≤ maxLen ∧ Rd w B A' n' xs
theorem CellsAt.nil_ (w : World) (B : Nat) : CellsAt w B [] [] := ⟨rfl, fun j u xs h _ => by simp at h⟩
theorem CellsAt.cons {w : World} {B n c : Nat} {A : Option Addr} {xs : List UInt8} {cs : List Value} {l : List (List UInt8)} (h : Rd w B A n xs) (hn : n ≤ c) (hc : c ≤ maxLen) (hl : CellsAt w B cs l) : CellsAt w B (.slice A n c :: cs) (xs :: l) :=
  ⟨by simp [hl.1], fun j u ys h1 h2 => by
    match j, h1, h2 with
    | 0, h1, h2 => cases h1; cases h2; exact ⟨A, n, c, rfl, hn, hc, h⟩
    | j + 1, h1, h2 => exact hl.2 j u ys (by simpa using h1) (by simpa using h2)⟩
/-- A row of byte slices that was just laid in a block of its own. -/
theorem CellsAt.laid {w : World} {B : Nat} {cs : List Value} {l : List (List UInt8)} (h : CellsAt w B cs l) (hB : B ≤ w.heap.size) (n : Nat) (hn : cs.length = n) :
    LsAt (w.alloc (.cells cs.toArray 22)) (w.heap.size + 1) (some ⟨w.heap.size, 0, none⟩) n l :=
  ⟨by rw [h.1, hn], fun _ => ⟨w.heap.size, 0, rfl, by omega, fun j x hx => by
    have hj : j < cs.length := by have := (List.getElem?_eq_some_iff.1 hx).1; rw [h.1] at this; exact this
    obtain ⟨A', n', c', e, h1, h2, h3⟩ := h.2 j _ x (List.getElem?_eq_getElem hj) hx
    refine ⟨A', n', c', ?_, h1, h2, (h3.alloc hB _).more (by omega)⟩
    rw [Nat.zero_add, cell_of_row _ w.heap.size j _ _ (0, 0) (heap_alloc_new w _)]
    simp [hj, e]⟩⟩
/-- A block that was just laid: of these bytes. -/
theorem Rd.laid (w : World) (xs : List UInt8) (n : Nat) (hn : xs.length = n) : Rd (w.alloc (.cells (xs.map v8).toArray 5)) (w.heap.size + 1) (some ⟨w.heap.size, 0, none⟩) n xs := by
  subst hn
  exact (show Row8 (w.alloc (.cells (xs.map v8).toArray 5)) w.heap.size xs from heap_alloc_new w _).rd (by omega)
/-- A part of a text that begins at byte 0 of a block. -/
theorem Rd.at0 {w : World} {B g n : Nat} {xs : List UInt8} (h : Rd w B (some ⟨g, 0, none⟩) n xs) {l m : Nat} (hl : l + m ≤ n) : Rd w B (some ⟨g, l, none⟩) m ((xs.drop l).take m) := by
  rcases Nat.eq_zero_or_pos m with rfl | hm
  · rw [List.take_zero]; exact Rd.nil_ _
  · have := h.part hl hm
    simpa [add_plain] using this

/-- b[:h] -/
theorem run_upto8 (A : Option Addr) (len cap h : Nat) (H : Int) (hH : H = (h : Int)) (h2 : h ≤ cap) (W : World) :
    (Instr.slice 22 (.slice A len cap) none (some (.int .i64 H)) none).run Try.prog W = .ok (.slice A h cap) W := by
  subst hH
  obtain ⟨i0, hi, hz0, hz1, hz2⟩ := info_parts info8
  have hc := run_sliceBound (P := Try.prog) (w := W) .i64 (h : Int) cap .sliceAcap (by omega) (by omega)
  cases A <;> simp [Instr.slice, hc, run_underlying Try.underlying22, Instr.sliceBounds, sizeOf, typeInfo, hi, Addr.add] <;> (try split) <;> simp_all

theorem drewN_one (w : World) : w.drewN 1 = w.drew := rfl
theorem CellsAt.one {w : World} {B n c : Nat} {A : Option Addr} {xs : List UInt8} (h : Rd w B A n xs) (hn : n ≤ c) (hc : c ≤ maxLen) : CellsAt w B [.slice A n c] [xs] := (CellsAt.nil_ w B).cons h hn hc
theorem small_max {n : Nat} (h : n ≤ 1000) : n ≤ maxLen := by unfold maxLen; omega
end Go.Proofs.Ytgjjepcjdekihaa
