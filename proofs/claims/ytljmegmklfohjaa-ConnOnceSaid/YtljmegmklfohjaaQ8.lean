/-
  Several texts in one: FCell FSmall FSame FAddr FRAddr FFault FRead FRRead FMayBe FPut FRPut.
-/
import Derived.Deep.MidRow
import Derived.Laws.ResultCell
import Derived.Laws.CopyOwn
import Derived.BigFrame
import Derived.DeepKeys
import Derived.Laws.StructEq
import Derived.Great.BuildSlice
import Derived.Deep.QuietTactic
import Derived.Deep.RegionLaw
import Derived.BigQuiet
import Derived.Lib.VarintBits
import Derived.IntWalk
import Derived.Test.YtljmegmklfohjaaTK
import Derived.Test.YtljmegmklfohjaaQB
namespace Go.Proofs.Ytljmegmklfohjaa
set_option maxRecDepth 100000
section
open Go.RowKit Go.Lib
def frN_8 (f : Fr) : List Value := [.int .i64 f.head, .int .i64 f.total, .int .i64 f.tos, .int .i64 f.id, .bool f.frag, .bool f.keep, .int .i64 f.ttl, .int .i64 f.proto]
def frL_8 (f : Fr) : List Value := frN_8 f ++ (adL f.s ++ adL f.d)
/-- Block g is a row of just these cells, of type T. -/
def Blk_8 (w : World) (T : TypeId) (g : Nat) (cs : List Value) : Prop := w.heap[g]? = some (.cells cs.toArray T (0, 0))
section
variable {w w' : World} {T : TypeId} {g : Nat} {cs : List Value}
theorem Blk_8.lt (h : Blk_8 w T g cs) : g < w.heap.size := (Array.getElem?_eq_some_iff.1 h).1
theorem Blk_8.new (w : World) (T : TypeId) (cs : List Value) : Blk_8 (w.alloc (.cells cs.toArray T)) T w.heap.size cs := heap_alloc_new w _
theorem Blk_8.alloc (h : Blk_8 w T g cs) (o : Obj) : Blk_8 (w.alloc o) T g cs := (Below.heap_alloc w o g h.lt).trans h
theorem Blk_8.drew (h : Blk_8 w T g cs) : Blk_8 w.drew T g cs := h
theorem Blk_8.below (h : Blk_8 w T g cs) {B : Nat} (hB : g < B) (hb : Below B w w') : Blk_8 w' T g cs := (hb.block g hB).trans h
theorem Blk_8.cell (h : Blk_8 w T g cs) {i : Nat} {v : Value} (hv : cs[i]? = some v) : w.cell? ⟨g, i, none⟩ = some v := by
  rw [cell_of_row w g i _ _ (0, 0) h]; simpa using hv
theorem Blk_8.frozen (h : Blk_8 w T g cs) (i : Nat) : w.frozen? ⟨g, i, none⟩ = false := by
  unfold Blk_8 at h; simp [World.frozen?, h]
theorem Blk_8.set (h : Blk_8 w T g cs) (i : Nat) (v : Value) : Blk_8 (w.setCell ⟨g, i, none⟩ v) T g (cs.set i v) := by
  unfold Blk_8 at h ⊢
  simp [World.setCell, Array.getElem?_modify, h]
theorem Blk_8.far (h : Blk_8 w T g cs) {p : Addr} (hp : g ≠ p.block) (u : Value) : Blk_8 (w.setCell p u) T g cs := (Below.heap_setCell w p u g hp).trans h
theorem Blk_8.setRow_ (h : Blk_8 w T g cs) (ds : List Value) : Blk_8 (w.setRow g ds.toArray) T g ds := setRow_heap w g _ _ T (0, 0) h
theorem Blk_8.grown (h : Blk_8 w T g cs) {row : Option Nat} (hg : w.grownBy w' row) (hr : row ≠ some g) : Blk_8 w' T g cs := (hg.block g h.lt (fun e => hr e.symm)).trans h
theorem Blk_8.range (h : Blk_8 w T g cs) : w.rangeAt g 0 cs := fun j v hv => by
  rw [Nat.zero_add]; exact h.cell hv
theorem Blk_8.mid (h : Blk_8 w T g cs) {pre mid post : List Value} (e : cs = pre ++ (mid ++ post)) {o : Nat} (ho : pre.length = o) : w.rangeAt g o mid := fun j v hv => by
  refine h.cell ?_
  subst ho
  rw [e, List.getElem?_append_right (by omega), Nat.add_sub_cancel_left, List.getElem?_append_left (List.getElem?_eq_some_iff.1 hv).1]; exact hv
end
section
variable {w w' : World} {T : TypeId} {g : Nat} {f : Fr} {a : Ad}
theorem Blk_8.dst (h : Blk_8 w T g (frL_8 f)) (ho : f.Ok) : w.rangeAt g 25 (adL f.d) := h.mid (pre := frN_8 f ++ adL f.s) (post := []) (by rw [List.append_nil, List.append_assoc]; rfl) (by rw [List.length_append, adL_len ho.s]; rfl)
end
end
section
open Go.RowKit Go.Lib
end
section
open Go.RowKit Go.Lib
end
section
open Go.RowKit Go.Lib
end
section
open Go.RowKit Go.Lib
end
section
open Go.RowKit Go.Lib
end
section
open Go.RowKit Go.Lib
end
section
open Go.RowKit Go.Lib
end
section
open Go.RowKit Go.Lib
end
section
open Go.RowKit Go.Lib
end
section
open Go.RowKit Go.Lib
/-- The cells of block g, from its head on, are just the bytes cur, and may be written. -/
def Held_8 (w : World) (g : Nat) (cur : List UInt8) : Prop := ∀ j y, cur[j]? = some y → w.cell? ⟨g, j, none⟩ = some (v8 y) ∧ w.frozen? ⟨g, j, none⟩ = false
theorem Held_8.set {w : World} {g : Nat} {cur : List UInt8} (h : Held_8 w g cur) {k : Nat} {x : UInt8} (hx : cur[k]? = some x) (y : UInt8) : Held_8 (w.setCell ⟨g, k, none⟩ (.int .u8 (y.toNat : Int))) g (cur.set k y) := by
  intro j z hz
  rw [World.frozen?_setCell]
  have hk : k < cur.length := (List.getElem?_eq_some_iff.1 hx).1
  rw [List.getElem?_set] at hz
  by_cases e : k = j
  · subst e
    simp [hk] at hz
    subst hz
    exact ⟨World.cell?_setCell_same _ _ _ (h k x hx).1, (h k x hx).2⟩
  · rw [if_neg e] at hz
    rw [World.cell?_setCell_other _ _ _ _ (by intro e'; cases e'; exact e rfl)]
    exact h j z hz
theorem Held_8.rd {w : World} {g : Nat} {cur : List UInt8} (h : Held_8 w g cur) {B n : Nat} (hg : g < B) (hn : cur.length = n) : Rd w B (some ⟨g, 0, none⟩) n cur :=
  ⟨hn, fun _ => ⟨g, 0, rfl, hg, fun j x hx => by rw [Nat.zero_add]; exact (h j x hx).1⟩⟩
theorem Held_8.below {w w' : World} {g B : Nat} {cur : List UInt8} (h : Held_8 w g cur) (hB : g < B) (hb : Below B w w') : Held_8 w' g cur := fun j y hy => by
  obtain ⟨h1, h2⟩ := h j y hy
  refine ⟨(hb.cell (p := ⟨g, j, none⟩) hB).trans h1, ?_⟩
  have := hb.block g hB
  unfold World.frozen? at h2 ⊢
  simpa [this] using h2
theorem Held_8.lt {w : World} {g : Nat} {cur : List UInt8} (h : Held_8 w g cur) (h0 : 0 < cur.length) : g < w.heap.size := by
  obtain ⟨h1, _⟩ := h 0 _ (List.getElem?_eq_getElem h0)
  exact World.block_lt_of_cell? w _ h1
end
end Go.Proofs.Ytljmegmklfohjaa
