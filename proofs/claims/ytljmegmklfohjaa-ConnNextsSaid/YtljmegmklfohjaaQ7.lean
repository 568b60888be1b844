/-
  Several texts in one: LMath LCell LSmall LRead LRRead LTag LPut LRPut.
-/
import Derived.Deep.MidRow
import Derived.Laws.ResultCell
import Derived.Laws.CopyOwn
import Derived.Deep.RegionHeld3
import Derived.Deep.AppendLies
import Derived.Lib.SliceRun
import Derived.IntWalk
import Derived.Deep.QuietTactic
import Derived.BigQuiet
import Derived.Deep.RegionLaw
import Derived.Test.YtljmegmklfohjaaQB
namespace Go.Proofs.Ytljmegmklfohjaa
set_option maxRecDepth 100000
section
/-- A tag: its type, its number. -/
structure Tg where
  t : Int
  c : Int
/-- A link's header. -/
structure Lk where
  d : List UInt8
  s : List UInt8
  ts : List Tg
  ty : Int
  at_ : Int
def zeros6 : List UInt8 := [0, 0, 0, 0, 0, 0]
def Lk.zero : Lk := ⟨zeros6, zeros6, [], 0, 0⟩
/-- Both addresses have six bytes. -/
structure Lk.Six (L : Lk) : Prop where
  d : L.d.length = 6
  s : L.s.length = 6
end
section
open Go.RowKit Go.Lib
/-- The cells of a header whose tags lie in the slice tv. -/
def lkL (L : Lk) (tv : Value) : List Value := L.d.map v8 ++ (L.s.map v8 ++ [tv, .int .i64 L.ty, .int .i64 L.at_])
section
variable {L : Lk}
end
/-- Block g is a row of just these cells, of type T. -/
def Blk_7 (w : World) (T : TypeId) (g : Nat) (cs : List Value) : Prop := w.heap[g]? = some (.cells cs.toArray T (0, 0))
section
variable {w w' : World} {T : TypeId} {g : Nat} {cs : List Value}
theorem Blk_7.lt (h : Blk_7 w T g cs) : g < w.heap.size := (Array.getElem?_eq_some_iff.1 h).1
theorem Blk_7.new (w : World) (T : TypeId) (cs : List Value) : Blk_7 (w.alloc (.cells cs.toArray T)) T w.heap.size cs := heap_alloc_new w _
theorem Blk_7.alloc (h : Blk_7 w T g cs) (o : Obj) : Blk_7 (w.alloc o) T g cs := (Below.heap_alloc w o g h.lt).trans h
theorem Blk_7.drew (h : Blk_7 w T g cs) : Blk_7 w.drew T g cs := h
theorem Blk_7.below (h : Blk_7 w T g cs) {B : Nat} (hB : g < B) (hb : Below B w w') : Blk_7 w' T g cs := (hb.block g hB).trans h
theorem Blk_7.cell (h : Blk_7 w T g cs) {i : Nat} {v : Value} (hv : cs[i]? = some v) : w.cell? ⟨g, i, none⟩ = some v := by
  rw [cell_of_row w g i _ _ (0, 0) h]; simpa using hv
theorem Blk_7.frozen (h : Blk_7 w T g cs) (i : Nat) : w.frozen? ⟨g, i, none⟩ = false := by
  unfold Blk_7 at h; simp [World.frozen?, h]
theorem Blk_7.set (h : Blk_7 w T g cs) (i : Nat) (v : Value) : Blk_7 (w.setCell ⟨g, i, none⟩ v) T g (cs.set i v) := by
  unfold Blk_7 at h ⊢
  simp [World.setCell, Array.getElem?_modify, h]
theorem Blk_7.far (h : Blk_7 w T g cs) {p : Addr} (hp : g ≠ p.block) (u : Value) : Blk_7 (w.setCell p u) T g cs := (Below.heap_setCell w p u g hp).trans h
theorem Blk_7.setRow_ (h : Blk_7 w T g cs) (ds : List Value) : Blk_7 (w.setRow g ds.toArray) T g ds := setRow_heap w g _ _ T (0, 0) h
theorem Blk_7.grown (h : Blk_7 w T g cs) {row : Option Nat} (hg : w.grownBy w' row) (hr : row ≠ some g) : Blk_7 w' T g cs := (hg.block g h.lt (fun e => hr e.symm)).trans h
theorem Blk_7.range (h : Blk_7 w T g cs) : w.rangeAt g 0 cs := fun j v hv => by
  rw [Nat.zero_add]; exact h.cell hv
/-- The addresses in a header's block. -/
theorem Blk_7.dst {L : Lk} {tv : Value} (h : Blk_7 w T g (lkL L tv)) : w.rangeAt g 0 (L.d.map v8) := fun j v hv => by
  rw [Nat.zero_add]
  refine h.cell ?_
  unfold lkL
  rw [List.getElem?_append_left (List.getElem?_eq_some_iff.1 hv).1]; exact hv
end
/-- The slice reads as these tags. -/
def TagsAt (w : World) (B : Nat) (A : Option Addr) (len : Nat) (xs : List Tg) : Prop :=
  xs.length = len ∧ (0 < len → ∃ b off, A = some ⟨b, off, none⟩ ∧ b < B ∧ ∀ (j : Nat) (x : Tg), xs[j]? = some x →
    w.cell? ⟨b, off + j * 2, none⟩ = some (.int .i64 x.t) ∧ w.cell? ⟨b, off + j * 2 + 1, none⟩ = some (.int .i64 x.c))
section
variable {w w' : World} {B B' len : Nat} {A : Option Addr} {xs : List Tg}
theorem TagsAt.size (h : TagsAt w B A len xs) : xs.length = len := h.1
theorem TagsAt.nil_ (A : Option Addr) : TagsAt w B A 0 [] := ⟨rfl, fun h => absurd h (by omega)⟩
theorem TagsAt.keep (h : TagsAt w B A len xs) (hk : ∀ p : Addr, p.block < B → w'.cell? p = w.cell? p) : TagsAt w' B A len xs :=
  ⟨h.1, fun hn => by
    obtain ⟨b, off, e, hb, hc⟩ := h.2 hn
    refine ⟨b, off, e, hb, fun j x hx => ?_⟩
    obtain ⟨h1, h2⟩ := hc j x hx
    exact ⟨(hk _ hb).trans h1, (hk _ hb).trans h2⟩⟩
theorem TagsAt.below (h : TagsAt w B A len xs) (hb : Below B w w') : TagsAt w' B A len xs := h.keep fun _ hp => hb.cell hp
theorem TagsAt.more (h : TagsAt w B A len xs) (hB : B ≤ B') : TagsAt w B' A len xs :=
  ⟨h.1, fun hn => by
    obtain ⟨b, off, e, hb, hc⟩ := h.2 hn
    exact ⟨b, off, e, by omega, hc⟩⟩
theorem TagsAt.addr (h : TagsAt w B A len xs) (hn : 0 < len) : ∃ b off, A = some ⟨b, off, none⟩ ∧ b < B := by
  obtain ⟨b, off, e, hb, _⟩ := h.2 hn
  exact ⟨b, off, e, hb⟩
theorem TagsAt.cell {b off : Nat} (h : TagsAt w B (some ⟨b, off, none⟩) len xs) {k : Nat} {x : Tg} (hx : xs[k]? = some x) : w.cell? ⟨b, off + k * 2, none⟩ = some (.int .i64 x.t) ∧ w.cell? ⟨b, off + k * 2 + 1, none⟩ = some (.int .i64 x.c) := by
  obtain ⟨b', off', e, _, hc⟩ := h.2 (by have := (List.getElem?_eq_some_iff.1 hx).1; have := h.1; omega)
  cases e
  exact hc k x hx
end
section
variable {w w' : World} {base base' : Nat} {v v' : Value} {ts : List Tg}
end
end
section
open Go.RowKit Go.Lib
end
section
open Go.RowKit Go.Lib
end
section
open Go.RowKit Go.Lib
end
section
open Go.RowKit Go.Lib
end
section
open Go.RowKit Go.Lib
end
section
open Go.RowKit Go.Lib
end
end Go.Proofs.Ytljmegmklfohjaa
