/-
  Several texts in one: FCell FSmall FSame FAddr FRAddr FFault FRead FRRead FMayBe FPut FRPut.
-/
import Derived.Deep.MidRow
import Derived.Laws.ResultCell
import Derived.Laws.CopyOwn
import Derived.BigFrame
import Derived.DeepKeys
import Derived.Laws.StructEq
import Derived.Great.BuildSlice
import Derived.Deep.QuietTactic
import Derived.Deep.RegionLaw
import Derived.BigQuiet
import Derived.Lib.VarintBits
import Derived.IntWalk
import Derived.Test.YtajmppaodhpmgaaTK
import Derived.Test.YtajmppaodhpmgaaQB
namespace Go.Proofs.Ytajmppaodhpmgaa
set_option maxRecDepth 100000
section
open Go.RowKit Go.Lib
def frN_8 (f : Fr) : List Value := [.int .i64 f.head, .int .i64 f.total, .int .i64 f.tos, .int .i64 f.id, .bool f.frag, .bool f.keep, .int .i64 f.ttl, .int .i64 f.proto]
def frL_8 (f : Fr) : List Value := frN_8 f ++ (adL f.s ++ adL f.d)
/-- Block g is a row of just these cells, of type T. -/
def Blk_8 (w : World) (T : TypeId) (g : Nat) (cs : List Value) : Prop := w.heap[g]? = some (.cells cs.toArray T (0, 0))
section
variable {w w' : World} {T : TypeId} {g : Nat} {cs : List Value}
theorem Blk_8.lt (h : Blk_8 w T g cs) : g < w.heap.size := (Array.getElem?_eq_some_iff.1 h).1
theorem Blk_8.new (w : World) (T : TypeId) (cs : List Value) : Blk_8 (w.alloc (.cells cs.toArray T)) T w.heap.size cs := heap_alloc_new w _
theorem Blk_8.alloc (h : Blk_8 w T g cs) (o : Obj) : Blk_8 (w.alloc o) T g cs := (Below.heap_alloc w o g h.lt).trans h
theorem Blk_8.drew (h : Blk_8 w T g cs) : Blk_8 w.drew T g cs := h
theorem Blk_8.below (h : Blk_8 w T g cs) {B : Nat} (hB : g < B) (hb : Below B w w') : Blk_8 w' T g cs := (hb.block g hB).trans h
theorem Blk_8.cell (h : Blk_8 w T g cs) {i : Nat} {v : Value} (hv : cs[i]? = some v) : w.cell? ⟨g, i, none⟩ = some v := by
  rw [cell_of_row w g i _ _ (0, 0) h]; simpa using hv
theorem Blk_8.frozen (h : Blk_8 w T g cs) (i : Nat) : w.frozen? ⟨g, i, none⟩ = false := by
  unfold Blk_8 at h; simp [World.frozen?, h]
theorem Blk_8.set (h : Blk_8 w T g cs) (i : Nat) (v : Value) : Blk_8 (w.setCell ⟨g, i, none⟩ v) T g (cs.set i v) := by
  unfold Blk_8 at h ⊢
  simp [World.setCell, Array.getElem?_modify, h]
theorem Blk_8.far (h : Blk_8 w T g cs) {p : Addr} (hp : g ≠ p.block) (u : Value) : Blk_8 (w.setCell p u) T g cs := (Below.heap_setCell w p u g hp).trans h
theorem Blk_8.setRow_ (h : Blk_8 w T g cs) (ds : List Value) : Blk_8 (w.setRow g ds.toArray) T g ds := setRow_heap w g _ _ T (0, 0) h
theorem Blk_8.setRow_far (h : Blk_8 w T g cs) {b : Nat} (hb : g ≠ b) (ds : Array Value) : Blk_8 (w.setRow b ds) T g cs := (setRow_other w b g ds hb).trans h
theorem Blk_8.grown (h : Blk_8 w T g cs) {row : Option Nat} (hg : w.grownBy w' row) (hr : row ≠ some g) : Blk_8 w' T g cs := (hg.block g h.lt (fun e => hr e.symm)).trans h
theorem Blk_8.range (h : Blk_8 w T g cs) : w.rangeAt g 0 cs := fun j v hv => by
  rw [Nat.zero_add]; exact h.cell hv
theorem Blk_8.mid (h : Blk_8 w T g cs) {pre mid post : List Value} (e : cs = pre ++ (mid ++ post)) {o : Nat} (ho : pre.length = o) : w.rangeAt g o mid := fun j v hv => by
  refine h.cell ?_
  subst ho
  rw [e, List.getElem?_append_right (by omega), Nat.add_sub_cancel_left, List.getElem?_append_left (List.getElem?_eq_some_iff.1 hv).1]; exact hv
end
section
variable {w w' : World} {T : TypeId} {g : Nat} {f : Fr} {a : Ad}
theorem Blk_8.src (h : Blk_8 w T g (frL_8 f)) : w.rangeAt g 8 (adL f.s) := h.mid (pre := frN_8 f) (post := adL f.d) rfl rfl
theorem Blk_8.dst (h : Blk_8 w T g (frL_8 f)) (ho : f.Ok) : w.rangeAt g 25 (adL f.d) := h.mid (pre := frN_8 f ++ adL f.s) (post := []) (by rw [List.append_nil, List.append_assoc]; rfl) (by rw [List.length_append, adL_len ho.s]; rfl)
theorem Blk_8.srcB (h : Blk_8 w T g (frL_8 f)) : w.rangeAt g 9 (f.s.b.map v8) := h.mid (pre := frN_8 f ++ [.bool f.s.six]) (post := adL f.d) (by rw [List.append_assoc]; rfl) rfl
theorem Blk_8.dstB (h : Blk_8 w T g (frL_8 f)) (ho : f.Ok) : w.rangeAt g 26 (f.d.b.map v8) := h.mid (pre := frN_8 f ++ (adL f.s ++ [.bool f.d.six])) (post := []) (by rw [List.append_nil, List.append_assoc, List.append_assoc]; rfl) (by rw [List.length_append, List.length_append, adL_len ho.s]; rfl)
theorem Blk_8.adB (h : Blk_8 w T g (adL a)) : w.rangeAt g 1 (a.b.map v8) := h.mid (pre := [.bool a.six]) (post := []) (by rw [List.append_nil]; rfl) rfl
end
end
section
open Go.RowKit Go.Lib
end
section
open Go.RowKit Go.Lib
end
section
open Go.RowKit Go.Lib
/-- The address whose first four bytes are these. -/
def ad4 (xs : List UInt8) : Ad := ⟨false, xs.take 4 ++ z12⟩
theorem ad4_len {xs : List UInt8} (h : 4 ≤ xs.length) : (ad4 xs).b.length = 16 := by
  show (xs.take 4 ++ z12).length = 16
  rw [List.length_append, List.length_take, Nat.min_eq_left h]; rfl
theorem ad4_splice {xs : List UInt8} (h : 4 ≤ xs.length) : splice (adL Ad.zero) 1 ((xs.take 4).map v8) = adL (ad4 xs) := by
  match xs, h with
  | a :: b :: c :: d :: r, _ => rfl
theorem short_ad {a : Ad} (h : a.b.length = 16) : adB a (ad4 a.b) = shortB a := by
  apply Bool.eq_iff_iff.2
  rw [short_eq h, adB_eq]
  rfl
end
section
open Go.RowKit Go.Lib
theorem zeroA : #[Value.bool false, .int .u8 0, .int .u8 0, .int .u8 0, .int .u8 0, .int .u8 0, .int .u8 0, .int .u8 0, .int .u8 0, .int .u8 0, .int .u8 0, .int .u8 0, .int .u8 0, .int .u8 0, .int .u8 0, .int .u8 0, .int .u8 0] = (adL Ad.zero).toArray := by rfl
/-- An address of which the first bytes are known, the others 0. -/
def adP_8 (ys : List UInt8) : Ad := ⟨false, ys ++ List.replicate (16 - ys.length) 0⟩
theorem adP_four {xs : List UInt8} (p : Nat) (h : p + 4 ≤ xs.length) : adP_8 ((xs.drop p).take 4) = adOf xs p := by
  unfold adP_8 adOf
  rw [List.length_take, List.length_drop, Nat.min_eq_left (by omega)]
  rfl
theorem short_no {a : Ad} {k : Nat} (h4 : 4 ≤ k) (h : batN a.b k ≠ 0) : shortB a = false := by
  obtain ⟨s, b⟩ := a
  unfold shortB
  apply Bool.eq_false_iff.2
  intro hh
  rw [Bool.and_eq_true, List.all_eq_true] at hh
  apply h
  unfold batN
  by_cases hk : k < b.length
  · rw [List.getD, List.getElem?_eq_getElem hk]
    have := hh.2 b[k] (List.mem_iff_getElem.2 ⟨k - 4, by simp; omega, by simp [show 4 + (k - 4) = k by omega]⟩)
    have e : b[k] = 0 := by simpa using this
    show (b[k]).toNat = 0
    rw [e]; rfl
  · rw [List.getD, List.getElem?_eq_none (by show b.length ≤ k; omega)]; rfl
theorem short_all {a : Ad} (h : ∀ k, 4 ≤ k → k < a.b.length → batN a.b k = 0) : shortB a = !a.six := by
  obtain ⟨s, b⟩ := a
  have : (b.drop 4).all (· == 0) = true := by
    rw [List.all_eq_true]
    intro x hx
    obtain ⟨i, hi, rfl⟩ := List.mem_iff_getElem.1 hx
    have hl : 4 + i < b.length := by rw [List.length_drop] at hi; omega
    have := h (4 + i) (by omega) hl
    unfold batN at this
    rw [List.getD, List.getElem?_eq_getElem (show 4 + i < b.length from hl)] at this
    have e : b[4 + i] = 0 := UInt8.toNat_inj.1 this
    simp [e]
  unfold shortB
  rw [show (({ six := s, b := b } : Ad).b.drop 4).all (· == 0) = true from this, Bool.and_true]
set_option maxRecDepth 100000 in
set_option maxHeartbeats 2000000 in
theorem rshort_any {a : Ad} (h : a.b.length = 16) (w : World) : Calls Try.prog 49 #[adC a] w fun e w' => e = .returned (.bool (shortB a)) ∧ Below w.heap.size w w' := by
  have hb1 := Blk_8.new w 32 (adL a)
  have hB1 := (Below.refl w.heap.size w).alloc (Nat.le_refl _) (.cells (adL a).toArray 32)
  have c0 := hb1.cell (i := 0) (v := .bool a.six) rfl
  have hr := range_rd hb1.adB h (Nat.lt_succ_self _)
  have ha := fun (h : ∀ k, 4 ≤ k → k < 16 → batN a.b k = 0) => short_all (a := a) (fun k h1 h2 => h k h1 (by omega))
  have hn := fun k (h1 : 4 ≤ k) (h2 : batN a.b k ≠ 0) => short_no (a := a) h1 h2
  have HA := Lib.hid ha
  have HN := Lib.hid hn
  unfold adC
  clear hb1 ha hn
  obtain ⟨w1, hw1⟩ : ∃ w1, w.alloc (.cells (adL a).toArray 32) = w1 := ⟨_, rfl⟩
  rw [hw1] at hB1 c0 hr
  have HW := Lib.hid hw1
  have HB := Lib.hid hB1
  generalize a.six = six at *
  generalize shortB a = S at *
  generalize adL a = C at *
  clear hw1 hB1
  go_enter Try.func49, Try.ntmps49
  go_wp2_with fail
  rw [HW.out]
  go_loopw [3] (fun i wr => ∃ (k : Nat), 4 ≤ k ∧ k ≤ 16 ∧ i = .int .i64 (k : Int) ∧ (∀ j, 4 ≤ j → j < k → batN a.b j = 0) ∧ wr = w1) (fun i _ => 16 - (intOf i).toNat)
  case atStart => exact ⟨4, by omega, by omega, rfl, fun j _ _ => by omega, rfl⟩
  case round =>
    obtain ⟨k, hk4, hk, rfl, hz, rfl⟩ := hrel
    have HZ := Lib.hid hz
    clear hz
    by_cases hlt : k < 16
    · have hlt' : (k : Int) < 16 := by omega
      have hc := hr.cellD (k := k) hlt
      have hx := batN_lt a.b k
      by_cases h0 : batN a.b k = 0
      · rw [h0] at hc
        have h0' := Lib.hid h0
        clear h0 hx
        go_wp2_with fail
        go_roundw
        case rel => exact ⟨k + 1, by omega, by omega, by go_num, fun j h1 h2 => by
          by_cases e : j = k
          · subst e; exact h0'.out
          · exact HZ.out j h1 (by omega), trivial⟩
        case measure => simp [intOf]; omega
      · have hS := HN.out k hk4 h0
        generalize batN a.b k = x at *
        have x1 : ((x : Int) == 0) = false := beq_eq_false_iff_ne.2 (by omega)
        have x2 : ((x : Int) != 0) = true := by simp; omega
        have x3 : (x == 0) = false := beq_eq_false_iff_ne.2 h0
        have HSS := Lib.hid hS
        clear hS h0 hx
        go_wp2_with fail
        go_ret
        exact ⟨by rw [HSS.out]; rfl, HB.out⟩
    · obtain rfl : k = 16 := by omega
      have hS := HA.out HZ.out
      have HSS := Lib.hid hS
      clear hS
      go_wp2_with fail
      go_ret
      exact ⟨by rw [HSS.out]; rfl, HB.out⟩
end
section
open Go.RowKit Go.Lib
end
section
open Go.RowKit Go.Lib
end
section
open Go.RowKit Go.Lib
end
section
open Go.RowKit Go.Lib
end
section
open Go.RowKit Go.Lib
end
section
open Go.RowKit Go.Lib
/-- The cells of block g, from its head on, are just the bytes cur, and may be written. -/
def Held_8 (w : World) (g : Nat) (cur : List UInt8) : Prop := ∀ j y, cur[j]? = some y → w.cell? ⟨g, j, none⟩ = some (v8 y) ∧ w.frozen? ⟨g, j, none⟩ = false
theorem Held_8.set {w : World} {g : Nat} {cur : List UInt8} (h : Held_8 w g cur) {k : Nat} {x : UInt8} (hx : cur[k]? = some x) (y : UInt8) : Held_8 (w.setCell ⟨g, k, none⟩ (.int .u8 (y.toNat : Int))) g (cur.set k y) := by
  intro j z hz
  rw [World.frozen?_setCell]
  have hk : k < cur.length := (List.getElem?_eq_some_iff.1 hx).1
  rw [List.getElem?_set] at hz
  by_cases e : k = j
  · subst e
    simp [hk] at hz
    subst hz
    exact ⟨World.cell?_setCell_same _ _ _ (h k x hx).1, (h k x hx).2⟩
  · rw [if_neg e] at hz
    rw [World.cell?_setCell_other _ _ _ _ (by intro e'; cases e'; exact e rfl)]
    exact h j z hz
theorem Held_8.rd {w : World} {g : Nat} {cur : List UInt8} (h : Held_8 w g cur) {B n : Nat} (hg : g < B) (hn : cur.length = n) : Rd w B (some ⟨g, 0, none⟩) n cur :=
  ⟨hn, fun _ => ⟨g, 0, rfl, hg, fun j x hx => by rw [Nat.zero_add]; exact (h j x hx).1⟩⟩
theorem Held_8.below {w w' : World} {g B : Nat} {cur : List UInt8} (h : Held_8 w g cur) (hB : g < B) (hb : Below B w w') : Held_8 w' g cur := fun j y hy => by
  obtain ⟨h1, h2⟩ := h j y hy
  refine ⟨(hb.cell (p := ⟨g, j, none⟩) hB).trans h1, ?_⟩
  have := hb.block g hB
  unfold World.frozen? at h2 ⊢
  simpa [this] using h2
theorem Held_8.lt {w : World} {g : Nat} {cur : List UInt8} (h : Held_8 w g cur) (h0 : 0 < cur.length) : g < w.heap.size := by
  obtain ⟨h1, _⟩ := h 0 _ (List.getElem?_eq_getElem h0)
  exact World.block_lt_of_cell? w _ h1
end
end Go.Proofs.Ytajmppaodhpmgaa
