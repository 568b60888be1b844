/-
  Several texts in one: SMath SList SCell SSame SSmall SAddr SHead SPass SRead SRAddr SRRead SMayBe SPut SRPut.
-/
import Derived.Deep.RegionHeld3
import Derived.Deep.AppendLies
import Derived.Lib.SliceRun
import Derived.IntWalk
import Derived.Deep.MidRow
import Derived.Laws.ResultCell
import Derived.Laws.CopyOwn
import Derived.BigFrame
import Derived.DeepKeys
import Derived.Laws.StructEq
import Derived.Great.BuildSlice
import Derived.Deep.QuietTactic
import Derived.Deep.RegionLaw
import Derived.BigQuiet
import Derived.Lib.VarintBits
import Derived.Lib.QuoteBits
import Derived.WalkMore
import Derived.Deep.LoopGhost
import Derived.Test.YtljmegmklfohjaaTK
import Derived.Test.YtljmegmklfohjaaQB
namespace Go.Proofs.Ytljmegmklfohjaa
set_option maxRecDepth 100000
section
/-- A header. -/
structure Fr_9 where
  head : Int
  total : Int
  hop : Int
  frag : Bool
  exts : Int
  proto : Int
  s : Ad
  d : Ad
/-- Both addresses have sixteen bytes. -/
structure Fr_9.Ok (f : Fr_9) : Prop where
  s : f.s.b.length = 16
  d : f.d.b.length = 16
def Fr_9.zero : Fr_9 := ⟨0, 0, 0, false, 0, 0, Ad.zero, Ad.zero⟩
/-- How far the extensions were gone through. -/
structure Wk where
  head : Nat
  exts : Nat
  proto : Nat
  frag : Bool
/-- How far one that is gone through may be. -/
structure Wk.Fit (T : Nat) (k : Wk) : Prop where
  h0 : 40 ≤ k.head
  h1 : k.head ≤ T
  e : k.exts ≤ 8
  p : k.proto < 256
/-- Is a number a protocol of an extension? -/
def extI (z : Int) : Bool := z == 0 || (z == 43 || (z == 60 || (z == 51 || z == 44)))
structure Fr_9.Good (f : Fr_9) : Prop where
  head : f.head = 40
  t0 : 40 ≤ f.total
  t1 : f.total ≤ 65575
  frag : f.frag = false
  exts : f.exts = 0
  o0 : 0 ≤ f.hop
  o1 : f.hop ≤ 255
  p0 : 0 ≤ f.proto
  p1 : f.proto ≤ 255
  ext : extI f.proto = false
  s : f.s.six = true
  d : f.d.six = true
section
variable (N P H : Nat) (s d rest : List UInt8)
end
end
section
open Go.RowKit Go.Lib
end
section
open Go.RowKit Go.Lib
def frN_9 (f : Fr_9) : List Value := [.int .i64 f.head, .int .i64 f.total, .int .i64 f.hop, .bool f.frag, .int .i64 f.exts, .int .i64 f.proto]
def frL_9 (f : Fr_9) : List Value := frN_9 f ++ (adL f.s ++ adL f.d)
/-- Block g is a row of just these cells, of type T. -/
def Blk_9 (w : World) (T : TypeId) (g : Nat) (cs : List Value) : Prop := w.heap[g]? = some (.cells cs.toArray T (0, 0))
section
variable {w w' : World} {T : TypeId} {g : Nat} {cs : List Value}
theorem Blk_9.lt (h : Blk_9 w T g cs) : g < w.heap.size := (Array.getElem?_eq_some_iff.1 h).1
theorem Blk_9.new (w : World) (T : TypeId) (cs : List Value) : Blk_9 (w.alloc (.cells cs.toArray T)) T w.heap.size cs := heap_alloc_new w _
theorem Blk_9.alloc (h : Blk_9 w T g cs) (o : Obj) : Blk_9 (w.alloc o) T g cs := (Below.heap_alloc w o g h.lt).trans h
theorem Blk_9.drew (h : Blk_9 w T g cs) : Blk_9 w.drew T g cs := h
theorem Blk_9.below (h : Blk_9 w T g cs) {B : Nat} (hB : g < B) (hb : Below B w w') : Blk_9 w' T g cs := (hb.block g hB).trans h
theorem Blk_9.cell (h : Blk_9 w T g cs) {i : Nat} {v : Value} (hv : cs[i]? = some v) : w.cell? ⟨g, i, none⟩ = some v := by
  rw [cell_of_row w g i _ _ (0, 0) h]; simpa using hv
theorem Blk_9.frozen (h : Blk_9 w T g cs) (i : Nat) : w.frozen? ⟨g, i, none⟩ = false := by
  unfold Blk_9 at h; simp [World.frozen?, h]
theorem Blk_9.set (h : Blk_9 w T g cs) (i : Nat) (v : Value) : Blk_9 (w.setCell ⟨g, i, none⟩ v) T g (cs.set i v) := by
  unfold Blk_9 at h ⊢
  simp [World.setCell, Array.getElem?_modify, h]
theorem Blk_9.far (h : Blk_9 w T g cs) {p : Addr} (hp : g ≠ p.block) (u : Value) : Blk_9 (w.setCell p u) T g cs := (Below.heap_setCell w p u g hp).trans h
theorem Blk_9.setRow_ (h : Blk_9 w T g cs) (ds : List Value) : Blk_9 (w.setRow g ds.toArray) T g ds := setRow_heap w g _ _ T (0, 0) h
theorem Blk_9.grown (h : Blk_9 w T g cs) {row : Option Nat} (hg : w.grownBy w' row) (hr : row ≠ some g) : Blk_9 w' T g cs := (hg.block g h.lt (fun e => hr e.symm)).trans h
theorem Blk_9.range (h : Blk_9 w T g cs) : w.rangeAt g 0 cs := fun j v hv => by
  rw [Nat.zero_add]; exact h.cell hv
theorem Blk_9.mid (h : Blk_9 w T g cs) {pre mid post : List Value} (e : cs = pre ++ (mid ++ post)) {o : Nat} (ho : pre.length = o) : w.rangeAt g o mid := fun j v hv => by
  refine h.cell ?_
  subst ho
  rw [e, List.getElem?_append_right (by omega), Nat.add_sub_cancel_left, List.getElem?_append_left (List.getElem?_eq_some_iff.1 hv).1]; exact hv
end
section
variable {w w' : World} {T : TypeId} {g : Nat} {f : Fr_9} {a : Ad}
theorem Blk_9.dst (h : Blk_9 w T g (frL_9 f)) (ho : f.Ok) : w.rangeAt g 23 (adL f.d) := h.mid (pre := frN_9 f ++ adL f.s) (post := []) (by rw [List.append_nil, List.append_assoc]; rfl) (by rw [List.length_append, adL_len ho.s]; rfl)
end
end
section
open Go.RowKit Go.Lib
end
section
open Go.RowKit Go.Lib
end
section
open Go.RowKit Go.Lib
end
section
open Go.RowKit Go.Lib
end
section
open Go.RowKit Go.Lib
end
section
open Go.RowKit Go.Lib
end
section
open Go.RowKit Go.Lib
end
section
open Go.RowKit Go.Lib
end
section
open Go.RowKit Go.Lib
end
section
open Go.RowKit Go.Lib
end
section
open Go.RowKit Go.Lib
/-- The cells of block g, from its head on, are just the bytes cur, and may be written. -/
def Held_9 (w : World) (g : Nat) (cur : List UInt8) : Prop := ∀ j y, cur[j]? = some y → w.cell? ⟨g, j, none⟩ = some (v8 y) ∧ w.frozen? ⟨g, j, none⟩ = false
theorem Held_9.set {w : World} {g : Nat} {cur : List UInt8} (h : Held_9 w g cur) {k : Nat} {x : UInt8} (hx : cur[k]? = some x) (y : UInt8) : Held_9 (w.setCell ⟨g, k, none⟩ (.int .u8 (y.toNat : Int))) g (cur.set k y) := by
  intro j z hz
  rw [World.frozen?_setCell]
  have hk : k < cur.length := (List.getElem?_eq_some_iff.1 hx).1
  rw [List.getElem?_set] at hz
  by_cases e : k = j
  · subst e
    simp [hk] at hz
    subst hz
    exact ⟨World.cell?_setCell_same _ _ _ (h k x hx).1, (h k x hx).2⟩
  · rw [if_neg e] at hz
    rw [World.cell?_setCell_other _ _ _ _ (by intro e'; cases e'; exact e rfl)]
    exact h j z hz
theorem Held_9.rd {w : World} {g : Nat} {cur : List UInt8} (h : Held_9 w g cur) {B n : Nat} (hg : g < B) (hn : cur.length = n) : Rd w B (some ⟨g, 0, none⟩) n cur :=
  ⟨hn, fun _ => ⟨g, 0, rfl, hg, fun j x hx => by rw [Nat.zero_add]; exact (h j x hx).1⟩⟩
theorem Held_9.below {w w' : World} {g B : Nat} {cur : List UInt8} (h : Held_9 w g cur) (hB : g < B) (hb : Below B w w') : Held_9 w' g cur := fun j y hy => by
  obtain ⟨h1, h2⟩ := h j y hy
  refine ⟨(hb.cell (p := ⟨g, j, none⟩) hB).trans h1, ?_⟩
  have := hb.block g hB
  unfold World.frozen? at h2 ⊢
  simpa [this] using h2
theorem Held_9.lt {w : World} {g : Nat} {cur : List UInt8} (h : Held_9 w g cur) (h0 : 0 < cur.length) : g < w.heap.size := by
  obtain ⟨h1, _⟩ := h 0 _ (List.getElem?_eq_getElem h0)
  exact World.block_lt_of_cell? w _ h1
end
end Go.Proofs.Ytljmegmklfohjaa
