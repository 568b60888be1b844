/-
  Short names for the steps of a by-hand walk through a region that draws its order.
  Several texts in one: LMath LCell LSmall LRead LRRead LTag LPut LRPut.
  Several texts in one: FCell FSmall FSame FAddr FRAddr FFault FRead FRRead FMayBe FPut FRPut.
  Several texts in one: SMath SList SCell SSame SSmall SAddr SHead SPass SRead SRAddr SRRead SMayBe SPut SRPut.
  Several texts in one: PConcat PPseudo PAddr PRPseudo PMath PSmall PCell PRead PRRead PTwo PFill PRSums PRFill.
-/
import Derived.Test.YtfbiinipiklkaaaQB
import Derived.Deep.MidRow
import Derived.Laws.ResultCell
import Derived.Laws.CopyOwn
import Derived.Deep.RegionHeld3
import Derived.Deep.AppendLies
import Derived.Lib.SliceRun
import Derived.IntWalk
import Derived.Deep.QuietTactic
import Derived.BigQuiet
import Derived.Deep.RegionLaw
import Derived.BigFrame
import Derived.DeepKeys
import Derived.Laws.StructEq
import Derived.Great.BuildSlice
import Derived.Lib.VarintBits
import Derived.Lib.QuoteBits
import Derived.WalkMore
import Derived.Deep.LoopGhost
import Derived.Lib.AppendZeros
namespace Go.Proofs.Ytfbiinipiklkaaa
open Go.RowKit Go.Lib
theorem sA {α : Type} (l : List α) (i : Nat) (a : α) : l.toArray.setIfInBounds i a = (l.set i a).toArray := List.setIfInBounds_toArray ..
theorem sZ {α : Type} (x y : α) (l : List α) : (x :: l).set 0 y = y :: l := List.set_cons_zero ..
theorem sS {α : Type} (x y : α) (l : List α) (n : Nat) : (x :: l).set (n + 1) y = x :: l.set n y := List.set_cons_succ ..
section
variable {P : Program} {ops : Array Oper} {Q : Exit → Act → World → Prop} {md : Region.Mode} {S : World → Prop} {fuel : Nat} {listed : Array Bool} {a : Act} {w : World}
/-- Number i, which writes slot k, yields v: told by hy. -/
theorem tkY (i k : Nat) (v : Value) {op ty pos aft g} (hi : ops[i]? = some ⟨some k, op, ty, pos, aft, g⟩) (hy : YieldsIf P ops S ⟨some k, op, ty, pos, aft, g⟩ v a) (hS : S w) (h : wpAnyH P md ops Q S fuel (listed.setIfInBounds i true) (a.put (some k) v) w)
    (hs : Region.noSelect ops = true := by kernel_rfl) (hf : Region.free md ops listed i = true := by kernel_rfl) (hr : (Region.ready md ops listed).contains i = true := by kernel_rfl)
    (hQ : ∀ c a w, Q (.panic c) (a.put (some k) v) w → Q (.panic c) a w := by exact fun _ _ _ h => h) : wpAnyH P md ops Q S (fuel + 1) listed a w :=
  wpAnyH_take hi hs hf hr hQ hy hS h
/-- It looks at no memory. -/
theorem tk (i k : Nat) (v : Value) {op ty pos aft g} (hi : ops[i]? = some ⟨some k, op, ty, pos, aft, g⟩) (hS : S w) (h : wpAnyH P md ops Q S fuel (listed.setIfInBounds i true) (a.put (some k) v) w)
    (hs : Region.noSelect ops = true := by kernel_rfl) (hf : Region.free md ops listed i = true := by kernel_rfl) (hr : (Region.ready md ops listed).contains i = true := by kernel_rfl)
    (hQ : ∀ c a w, Q (.panic c) (a.put (some k) v) w → Q (.panic c) a w := by exact fun _ _ _ h => h) (hy : YieldsIf P ops S ⟨some k, op, ty, pos, aft, g⟩ v a := by exact Or.inl ⟨by rfl, fun _ _ => by go_simp⟩) : wpAnyH P md ops Q S (fuel + 1) listed a w :=
  wpAnyH_take hi hs hf hr hQ hy hS h
/-- Its guard says no. -/
theorem tkN (i k : Nat) {op ty pos aft g} (hi : ops[i]? = some ⟨some k, op, ty, pos, aft, g⟩) (hS : S w) (h : wpAnyH P md ops Q S fuel (listed.setIfInBounds i true) (a.put (some k) undef) w)
    (hs : Region.noSelect ops = true := by kernel_rfl) (hf : Region.free md ops listed i = true := by kernel_rfl) (hr : (Region.ready md ops listed).contains i = true := by kernel_rfl)
    (hQ : ∀ c a w, Q (.panic c) (a.put (some k) undef) w → Q (.panic c) a w := by exact fun _ _ _ h => h) (hy : YieldsIf P ops S ⟨some k, op, ty, pos, aft, g⟩ undef a := by exact Or.inr ⟨by rfl, rfl⟩) : wpAnyH P md ops Q S (fuel + 1) listed a w :=
  wpAnyH_take hi hs hf hr hQ hy hS h
end
end Go.Proofs.Ytfbiinipiklkaaa
namespace Go.Proofs.Ytfbiinipiklkaaa
set_option maxRecDepth 100000
section
/-- A tag: its type, its number. -/
structure Tg where
  t : Int
  c : Int
/-- A link's header. -/
structure Lk where
  d : List UInt8
  s : List UInt8
  ts : List Tg
  ty : Int
  at_ : Int
def zeros6 : List UInt8 := [0, 0, 0, 0, 0, 0]
def Lk.zero : Lk := ⟨zeros6, zeros6, [], 0, 0⟩
/-- Both addresses have six bytes. -/
structure Lk.Six (L : Lk) : Prop where
  d : L.d.length = 6
  s : L.s.length = 6
def isTg (n : Int) : Bool := decide (n = 33024 ∨ n = 34984)
/-- The number of two bytes from place p on. -/
def wd (xs : List UInt8) (p : Nat) : Nat := 256 * (xs.getD p 0).toNat + (xs.getD (p + 1) 0).toNat
def fitsB (n : Int) : Bool := decide (0 ≤ n ∧ n < 65536)
def tgOk (x : Tg) : Bool := isTg x.t && fitsB x.c
/-- May the header be? -/
def rightB_7 (L : Lk) : Bool := decide (L.ts.length ≤ 2) && (L.ts.all tgOk && (fitsB L.ty && !isTg L.ty))
end
section
open Go.RowKit Go.Lib
/-- The cells of a header whose tags lie in the slice tv. -/
def lkL (L : Lk) (tv : Value) : List Value := L.d.map v8 ++ (L.s.map v8 ++ [tv, .int .i64 L.ty, .int .i64 L.at_])
section
variable {L : Lk}
end
/-- Block g is a row of just these cells, of type T. -/
def Blk_7 (w : World) (T : TypeId) (g : Nat) (cs : List Value) : Prop := w.heap[g]? = some (.cells cs.toArray T (0, 0))
section
variable {w w' : World} {T : TypeId} {g : Nat} {cs : List Value}
theorem Blk_7.lt (h : Blk_7 w T g cs) : g < w.heap.size := (Array.getElem?_eq_some_iff.1 h).1
theorem Blk_7.new (w : World) (T : TypeId) (cs : List Value) : Blk_7 (w.alloc (.cells cs.toArray T)) T w.heap.size cs := heap_alloc_new w _
theorem Blk_7.alloc (h : Blk_7 w T g cs) (o : Obj) : Blk_7 (w.alloc o) T g cs := (Below.heap_alloc w o g h.lt).trans h
theorem Blk_7.drew (h : Blk_7 w T g cs) : Blk_7 w.drew T g cs := h
theorem Blk_7.below (h : Blk_7 w T g cs) {B : Nat} (hB : g < B) (hb : Below B w w') : Blk_7 w' T g cs := (hb.block g hB).trans h
theorem Blk_7.cell (h : Blk_7 w T g cs) {i : Nat} {v : Value} (hv : cs[i]? = some v) : w.cell? ⟨g, i, none⟩ = some v := by
  rw [cell_of_row w g i _ _ (0, 0) h]; simpa using hv
theorem Blk_7.frozen (h : Blk_7 w T g cs) (i : Nat) : w.frozen? ⟨g, i, none⟩ = false := by
  unfold Blk_7 at h; simp [World.frozen?, h]
theorem Blk_7.set (h : Blk_7 w T g cs) (i : Nat) (v : Value) : Blk_7 (w.setCell ⟨g, i, none⟩ v) T g (cs.set i v) := by
  unfold Blk_7 at h ⊢
  simp [World.setCell, Array.getElem?_modify, h]
theorem Blk_7.far (h : Blk_7 w T g cs) {p : Addr} (hp : g ≠ p.block) (u : Value) : Blk_7 (w.setCell p u) T g cs := (Below.heap_setCell w p u g hp).trans h
theorem Blk_7.setRow_ (h : Blk_7 w T g cs) (ds : List Value) : Blk_7 (w.setRow g ds.toArray) T g ds := setRow_heap w g _ _ T (0, 0) h
theorem Blk_7.grown (h : Blk_7 w T g cs) {row : Option Nat} (hg : w.grownBy w' row) (hr : row ≠ some g) : Blk_7 w' T g cs := (hg.block g h.lt (fun e => hr e.symm)).trans h
theorem Blk_7.range (h : Blk_7 w T g cs) : w.rangeAt g 0 cs := fun j v hv => by
  rw [Nat.zero_add]; exact h.cell hv
/-- The addresses in a header's block. -/
theorem Blk_7.dst {L : Lk} {tv : Value} (h : Blk_7 w T g (lkL L tv)) : w.rangeAt g 0 (L.d.map v8) := fun j v hv => by
  rw [Nat.zero_add]
  refine h.cell ?_
  unfold lkL
  rw [List.getElem?_append_left (List.getElem?_eq_some_iff.1 hv).1]; exact hv
end
/-- The slice reads as these tags. -/
def TagsAt (w : World) (B : Nat) (A : Option Addr) (len : Nat) (xs : List Tg) : Prop :=
  xs.length = len ∧ (0 < len → ∃ b off, A = some ⟨b, off, none⟩ ∧ b < B ∧ ∀ (j : Nat) (x : Tg), xs[j]? = some x →
    w.cell? ⟨b, off + j * 2, none⟩ = some (.int .i64 x.t) ∧ w.cell? ⟨b, off + j * 2 + 1, none⟩ = some (.int .i64 x.c))
section
variable {w w' : World} {B B' len : Nat} {A : Option Addr} {xs : List Tg}
theorem TagsAt.size (h : TagsAt w B A len xs) : xs.length = len := h.1
theorem TagsAt.nil_ (A : Option Addr) : TagsAt w B A 0 [] := ⟨rfl, fun h => absurd h (by omega)⟩
theorem TagsAt.keep (h : TagsAt w B A len xs) (hk : ∀ p : Addr, p.block < B → w'.cell? p = w.cell? p) : TagsAt w' B A len xs :=
  ⟨h.1, fun hn => by
    obtain ⟨b, off, e, hb, hc⟩ := h.2 hn
    refine ⟨b, off, e, hb, fun j x hx => ?_⟩
    obtain ⟨h1, h2⟩ := hc j x hx
    exact ⟨(hk _ hb).trans h1, (hk _ hb).trans h2⟩⟩
theorem TagsAt.below (h : TagsAt w B A len xs) (hb : Below B w w') : TagsAt w' B A len xs := h.keep fun _ hp => hb.cell hp
theorem TagsAt.more (h : TagsAt w B A len xs) (hB : B ≤ B') : TagsAt w B' A len xs :=
  ⟨h.1, fun hn => by
    obtain ⟨b, off, e, hb, hc⟩ := h.2 hn
    exact ⟨b, off, e, by omega, hc⟩⟩
theorem TagsAt.addr (h : TagsAt w B A len xs) (hn : 0 < len) : ∃ b off, A = some ⟨b, off, none⟩ ∧ b < B := by
  obtain ⟨b, off, e, hb, _⟩ := h.2 hn
  exact ⟨b, off, e, hb⟩
theorem TagsAt.cell {b off : Nat} (h : TagsAt w B (some ⟨b, off, none⟩) len xs) {k : Nat} {x : Tg} (hx : xs[k]? = some x) : w.cell? ⟨b, off + k * 2, none⟩ = some (.int .i64 x.t) ∧ w.cell? ⟨b, off + k * 2 + 1, none⟩ = some (.int .i64 x.c) := by
  obtain ⟨b', off', e, _, hc⟩ := h.2 (by have := (List.getElem?_eq_some_iff.1 hx).1; have := h.1; omega)
  cases e
  exact hc k x hx
end
section
variable {w w' : World} {base base' : Nat} {v v' : Value} {ts : List Tg}
end
end
section
open Go.RowKit Go.Lib
end
section
open Go.RowKit Go.Lib
end
section
open Go.RowKit Go.Lib
end
section
open Go.RowKit Go.Lib
end
section
open Go.RowKit Go.Lib
end
section
open Go.RowKit Go.Lib
end
end Go.Proofs.Ytfbiinipiklkaaa
namespace Go.Proofs.Ytfbiinipiklkaaa
set_option maxRecDepth 100000
section
open Go.RowKit Go.Lib
def frN_8 (f : Fr) : List Value := [.int .i64 f.head, .int .i64 f.total, .int .i64 f.tos, .int .i64 f.id, .bool f.frag, .bool f.keep, .int .i64 f.ttl, .int .i64 f.proto]
def frL_8 (f : Fr) : List Value := frN_8 f ++ (adL f.s ++ adL f.d)
/-- Block g is a row of just these cells, of type T. -/
def Blk_8 (w : World) (T : TypeId) (g : Nat) (cs : List Value) : Prop := w.heap[g]? = some (.cells cs.toArray T (0, 0))
section
variable {w w' : World} {T : TypeId} {g : Nat} {cs : List Value}
theorem Blk_8.lt (h : Blk_8 w T g cs) : g < w.heap.size := (Array.getElem?_eq_some_iff.1 h).1
theorem Blk_8.new (w : World) (T : TypeId) (cs : List Value) : Blk_8 (w.alloc (.cells cs.toArray T)) T w.heap.size cs := heap_alloc_new w _
theorem Blk_8.alloc (h : Blk_8 w T g cs) (o : Obj) : Blk_8 (w.alloc o) T g cs := (Below.heap_alloc w o g h.lt).trans h
theorem Blk_8.drew (h : Blk_8 w T g cs) : Blk_8 w.drew T g cs := h
theorem Blk_8.below (h : Blk_8 w T g cs) {B : Nat} (hB : g < B) (hb : Below B w w') : Blk_8 w' T g cs := (hb.block g hB).trans h
theorem Blk_8.cell (h : Blk_8 w T g cs) {i : Nat} {v : Value} (hv : cs[i]? = some v) : w.cell? ⟨g, i, none⟩ = some v := by
  rw [cell_of_row w g i _ _ (0, 0) h]; simpa using hv
theorem Blk_8.frozen (h : Blk_8 w T g cs) (i : Nat) : w.frozen? ⟨g, i, none⟩ = false := by
  unfold Blk_8 at h; simp [World.frozen?, h]
theorem Blk_8.set (h : Blk_8 w T g cs) (i : Nat) (v : Value) : Blk_8 (w.setCell ⟨g, i, none⟩ v) T g (cs.set i v) := by
  unfold Blk_8 at h ⊢
  simp [World.setCell, Array.getElem?_modify, h]
theorem Blk_8.far (h : Blk_8 w T g cs) {p : Addr} (hp : g ≠ p.block) (u : Value) : Blk_8 (w.setCell p u) T g cs := (Below.heap_setCell w p u g hp).trans h
theorem Blk_8.setRow_ (h : Blk_8 w T g cs) (ds : List Value) : Blk_8 (w.setRow g ds.toArray) T g ds := setRow_heap w g _ _ T (0, 0) h
theorem Blk_8.grown (h : Blk_8 w T g cs) {row : Option Nat} (hg : w.grownBy w' row) (hr : row ≠ some g) : Blk_8 w' T g cs := (hg.block g h.lt (fun e => hr e.symm)).trans h
theorem Blk_8.range (h : Blk_8 w T g cs) : w.rangeAt g 0 cs := fun j v hv => by
  rw [Nat.zero_add]; exact h.cell hv
theorem Blk_8.mid (h : Blk_8 w T g cs) {pre mid post : List Value} (e : cs = pre ++ (mid ++ post)) {o : Nat} (ho : pre.length = o) : w.rangeAt g o mid := fun j v hv => by
  refine h.cell ?_
  subst ho
  rw [e, List.getElem?_append_right (by omega), Nat.add_sub_cancel_left, List.getElem?_append_left (List.getElem?_eq_some_iff.1 hv).1]; exact hv
end
section
variable {w w' : World} {T : TypeId} {g : Nat} {f : Fr} {a : Ad}
theorem Blk_8.dst (h : Blk_8 w T g (frL_8 f)) (ho : f.Ok) : w.rangeAt g 25 (adL f.d) := h.mid (pre := frN_8 f ++ adL f.s) (post := []) (by rw [List.append_nil, List.append_assoc]; rfl) (by rw [List.length_append, adL_len ho.s]; rfl)
theorem Blk_8.adB (h : Blk_8 w T g (adL a)) : w.rangeAt g 1 (a.b.map v8) := h.mid (pre := [.bool a.six]) (post := []) (by rw [List.append_nil]; rfl) rfl
end
end
section
open Go.RowKit Go.Lib
end
section
open Go.RowKit Go.Lib
end
section
open Go.RowKit Go.Lib
end
section
open Go.RowKit Go.Lib
theorem short_no {a : Ad} {k : Nat} (h4 : 4 ≤ k) (h : batN a.b k ≠ 0) : shortB a = false := by
  obtain ⟨s, b⟩ := a
  unfold shortB
  apply Bool.eq_false_iff.2
  intro hh
  rw [Bool.and_eq_true, List.all_eq_true] at hh
  apply h
  unfold batN
  by_cases hk : k < b.length
  · rw [List.getD, List.getElem?_eq_getElem hk]
    have := hh.2 b[k] (List.mem_iff_getElem.2 ⟨k - 4, by simp; omega, by simp [show 4 + (k - 4) = k by omega]⟩)
    have e : b[k] = 0 := by simpa using this
    show (b[k]).toNat = 0
    rw [e]; rfl
  · rw [List.getD, List.getElem?_eq_none (by show b.length ≤ k; omega)]; rfl
theorem short_all {a : Ad} (h : ∀ k, 4 ≤ k → k < a.b.length → batN a.b k = 0) : shortB a = !a.six := by
  obtain ⟨s, b⟩ := a
  have : (b.drop 4).all (· == 0) = true := by
    rw [List.all_eq_true]
    intro x hx
    obtain ⟨i, hi, rfl⟩ := List.mem_iff_getElem.1 hx
    have hl : 4 + i < b.length := by rw [List.length_drop] at hi; omega
    have := h (4 + i) (by omega) hl
    unfold batN at this
    rw [List.getD, List.getElem?_eq_getElem (show 4 + i < b.length from hl)] at this
    have e : b[4 + i] = 0 := UInt8.toNat_inj.1 this
    simp [e]
  unfold shortB
  rw [show (({ six := s, b := b } : Ad).b.drop 4).all (· == 0) = true from this, Bool.and_true]
set_option maxRecDepth 100000 in
set_option maxHeartbeats 2000000 in
theorem rshort_any {a : Ad} (h : a.b.length = 16) (w : World) : Calls Try.prog 51 #[adC a] w fun e w' => e = .returned (.bool (shortB a)) ∧ Below w.heap.size w w' := by
  have hb1 := Blk_8.new w 24 (adL a)
  have hB1 := (Below.refl w.heap.size w).alloc (Nat.le_refl _) (.cells (adL a).toArray 24)
  have c0 := hb1.cell (i := 0) (v := .bool a.six) rfl
  have hr := range_rd hb1.adB h (Nat.lt_succ_self _)
  have ha := fun (h : ∀ k, 4 ≤ k → k < 16 → batN a.b k = 0) => short_all (a := a) (fun k h1 h2 => h k h1 (by omega))
  have hn := fun k (h1 : 4 ≤ k) (h2 : batN a.b k ≠ 0) => short_no (a := a) h1 h2
  have HA := Lib.hid ha
  have HN := Lib.hid hn
  unfold adC
  clear hb1 ha hn
  obtain ⟨w1, hw1⟩ : ∃ w1, w.alloc (.cells (adL a).toArray 24) = w1 := ⟨_, rfl⟩
  rw [hw1] at hB1 c0 hr
  have HW := Lib.hid hw1
  have HB := Lib.hid hB1
  generalize a.six = six at *
  generalize shortB a = S at *
  generalize adL a = C at *
  clear hw1 hB1
  go_enter Try.func51, Try.ntmps51
  go_wp2_with fail
  rw [HW.out]
  go_loopw [3] (fun i wr => ∃ (k : Nat), 4 ≤ k ∧ k ≤ 16 ∧ i = .int .i64 (k : Int) ∧ (∀ j, 4 ≤ j → j < k → batN a.b j = 0) ∧ wr = w1) (fun i _ => 16 - (intOf i).toNat)
  case atStart => exact ⟨4, by omega, by omega, rfl, fun j _ _ => by omega, rfl⟩
  case round =>
    obtain ⟨k, hk4, hk, rfl, hz, rfl⟩ := hrel
    have HZ := Lib.hid hz
    clear hz
    by_cases hlt : k < 16
    · have hlt' : (k : Int) < 16 := by omega
      have hc := hr.cellD (k := k) hlt
      have hx := batN_lt a.b k
      by_cases h0 : batN a.b k = 0
      · rw [h0] at hc
        have h0' := Lib.hid h0
        clear h0 hx
        go_wp2_with fail
        go_roundw
        case rel => exact ⟨k + 1, by omega, by omega, by go_num, fun j h1 h2 => by
          by_cases e : j = k
          · subst e; exact h0'.out
          · exact HZ.out j h1 (by omega), trivial⟩
        case measure => simp [intOf]; omega
      · have hS := HN.out k hk4 h0
        generalize batN a.b k = x at *
        have x1 : ((x : Int) == 0) = false := beq_eq_false_iff_ne.2 (by omega)
        have x2 : ((x : Int) != 0) = true := by simp; omega
        have x3 : (x == 0) = false := beq_eq_false_iff_ne.2 h0
        have HSS := Lib.hid hS
        clear hS h0 hx
        go_wp2_with fail
        go_ret
        exact ⟨by rw [HSS.out]; rfl, HB.out⟩
    · obtain rfl : k = 16 := by omega
      have hS := HA.out HZ.out
      have HSS := Lib.hid hS
      clear hS
      go_wp2_with fail
      go_ret
      exact ⟨by rw [HSS.out]; rfl, HB.out⟩
end
section
open Go.RowKit Go.Lib
end
section
open Go.RowKit Go.Lib
end
section
open Go.RowKit Go.Lib
end
section
open Go.RowKit Go.Lib
end
section
open Go.RowKit Go.Lib
def z4 : List UInt8 := [0, 0, 0, 0]
end
section
open Go.RowKit Go.Lib
/-- The cells of block g, from its head on, are just the bytes cur, and may be written. -/
def Held_8 (w : World) (g : Nat) (cur : List UInt8) : Prop := ∀ j y, cur[j]? = some y → w.cell? ⟨g, j, none⟩ = some (v8 y) ∧ w.frozen? ⟨g, j, none⟩ = false
theorem Held_8.set {w : World} {g : Nat} {cur : List UInt8} (h : Held_8 w g cur) {k : Nat} {x : UInt8} (hx : cur[k]? = some x) (y : UInt8) : Held_8 (w.setCell ⟨g, k, none⟩ (.int .u8 (y.toNat : Int))) g (cur.set k y) := by
  intro j z hz
  rw [World.frozen?_setCell]
  have hk : k < cur.length := (List.getElem?_eq_some_iff.1 hx).1
  rw [List.getElem?_set] at hz
  by_cases e : k = j
  · subst e
    simp [hk] at hz
    subst hz
    exact ⟨World.cell?_setCell_same _ _ _ (h k x hx).1, (h k x hx).2⟩
  · rw [if_neg e] at hz
    rw [World.cell?_setCell_other _ _ _ _ (by intro e'; cases e'; exact e rfl)]
    exact h j z hz
theorem Held_8.rd {w : World} {g : Nat} {cur : List UInt8} (h : Held_8 w g cur) {B n : Nat} (hg : g < B) (hn : cur.length = n) : Rd w B (some ⟨g, 0, none⟩) n cur :=
  ⟨hn, fun _ => ⟨g, 0, rfl, hg, fun j x hx => by rw [Nat.zero_add]; exact (h j x hx).1⟩⟩
theorem Held_8.below {w w' : World} {g B : Nat} {cur : List UInt8} (h : Held_8 w g cur) (hB : g < B) (hb : Below B w w') : Held_8 w' g cur := fun j y hy => by
  obtain ⟨h1, h2⟩ := h j y hy
  refine ⟨(hb.cell (p := ⟨g, j, none⟩) hB).trans h1, ?_⟩
  have := hb.block g hB
  unfold World.frozen? at h2 ⊢
  simpa [this] using h2
theorem Held_8.lt {w : World} {g : Nat} {cur : List UInt8} (h : Held_8 w g cur) (h0 : 0 < cur.length) : g < w.heap.size := by
  obtain ⟨h1, _⟩ := h 0 _ (List.getElem?_eq_getElem h0)
  exact World.block_lt_of_cell? w _ h1
end
end Go.Proofs.Ytfbiinipiklkaaa
namespace Go.Proofs.Ytfbiinipiklkaaa
set_option maxRecDepth 100000
section
/-- A header. -/
structure Fr_9 where
  head : Int
  total : Int
  hop : Int
  frag : Bool
  exts : Int
  proto : Int
  s : Ad
  d : Ad
/-- Both addresses have sixteen bytes. -/
structure Fr_9.Ok (f : Fr_9) : Prop where
  s : f.s.b.length = 16
  d : f.d.b.length = 16
def Fr_9.zero : Fr_9 := ⟨0, 0, 0, false, 0, 0, Ad.zero, Ad.zero⟩
/-- How far the extensions were gone through. -/
structure Wk where
  head : Nat
  exts : Nat
  proto : Nat
  frag : Bool
/-- How far one that is gone through may be. -/
structure Wk.Fit (T : Nat) (k : Wk) : Prop where
  h0 : 40 ≤ k.head
  h1 : k.head ≤ T
  e : k.exts ≤ 8
  p : k.proto < 256
/-- Is a number a protocol of an extension? -/
def extI (z : Int) : Bool := z == 0 || (z == 43 || (z == 60 || (z == 51 || z == 44)))
structure Fr_9.Good (f : Fr_9) : Prop where
  head : f.head = 40
  t0 : 40 ≤ f.total
  t1 : f.total ≤ 65575
  frag : f.frag = false
  exts : f.exts = 0
  o0 : 0 ≤ f.hop
  o1 : f.hop ≤ 255
  p0 : 0 ≤ f.proto
  p1 : f.proto ≤ 255
  ext : extI f.proto = false
  s : f.s.six = true
  d : f.d.six = true
section
variable (N P H : Nat) (s d rest : List UInt8)
end
end
section
open Go.RowKit Go.Lib
end
section
open Go.RowKit Go.Lib
def frN_9 (f : Fr_9) : List Value := [.int .i64 f.head, .int .i64 f.total, .int .i64 f.hop, .bool f.frag, .int .i64 f.exts, .int .i64 f.proto]
def frL_9 (f : Fr_9) : List Value := frN_9 f ++ (adL f.s ++ adL f.d)
/-- Block g is a row of just these cells, of type T. -/
def Blk_9 (w : World) (T : TypeId) (g : Nat) (cs : List Value) : Prop := w.heap[g]? = some (.cells cs.toArray T (0, 0))
section
variable {w w' : World} {T : TypeId} {g : Nat} {cs : List Value}
theorem Blk_9.lt (h : Blk_9 w T g cs) : g < w.heap.size := (Array.getElem?_eq_some_iff.1 h).1
theorem Blk_9.new (w : World) (T : TypeId) (cs : List Value) : Blk_9 (w.alloc (.cells cs.toArray T)) T w.heap.size cs := heap_alloc_new w _
theorem Blk_9.alloc (h : Blk_9 w T g cs) (o : Obj) : Blk_9 (w.alloc o) T g cs := (Below.heap_alloc w o g h.lt).trans h
theorem Blk_9.drew (h : Blk_9 w T g cs) : Blk_9 w.drew T g cs := h
theorem Blk_9.below (h : Blk_9 w T g cs) {B : Nat} (hB : g < B) (hb : Below B w w') : Blk_9 w' T g cs := (hb.block g hB).trans h
theorem Blk_9.cell (h : Blk_9 w T g cs) {i : Nat} {v : Value} (hv : cs[i]? = some v) : w.cell? ⟨g, i, none⟩ = some v := by
  rw [cell_of_row w g i _ _ (0, 0) h]; simpa using hv
theorem Blk_9.frozen (h : Blk_9 w T g cs) (i : Nat) : w.frozen? ⟨g, i, none⟩ = false := by
  unfold Blk_9 at h; simp [World.frozen?, h]
theorem Blk_9.set (h : Blk_9 w T g cs) (i : Nat) (v : Value) : Blk_9 (w.setCell ⟨g, i, none⟩ v) T g (cs.set i v) := by
  unfold Blk_9 at h ⊢
  simp [World.setCell, Array.getElem?_modify, h]
theorem Blk_9.far (h : Blk_9 w T g cs) {p : Addr} (hp : g ≠ p.block) (u : Value) : Blk_9 (w.setCell p u) T g cs := (Below.heap_setCell w p u g hp).trans h
theorem Blk_9.setRow_ (h : Blk_9 w T g cs) (ds : List Value) : Blk_9 (w.setRow g ds.toArray) T g ds := setRow_heap w g _ _ T (0, 0) h
theorem Blk_9.grown (h : Blk_9 w T g cs) {row : Option Nat} (hg : w.grownBy w' row) (hr : row ≠ some g) : Blk_9 w' T g cs := (hg.block g h.lt (fun e => hr e.symm)).trans h
theorem Blk_9.range (h : Blk_9 w T g cs) : w.rangeAt g 0 cs := fun j v hv => by
  rw [Nat.zero_add]; exact h.cell hv
theorem Blk_9.mid (h : Blk_9 w T g cs) {pre mid post : List Value} (e : cs = pre ++ (mid ++ post)) {o : Nat} (ho : pre.length = o) : w.rangeAt g o mid := fun j v hv => by
  refine h.cell ?_
  subst ho
  rw [e, List.getElem?_append_right (by omega), Nat.add_sub_cancel_left, List.getElem?_append_left (List.getElem?_eq_some_iff.1 hv).1]; exact hv
end
section
variable {w w' : World} {T : TypeId} {g : Nat} {f : Fr_9} {a : Ad}
theorem Blk_9.dst (h : Blk_9 w T g (frL_9 f)) (ho : f.Ok) : w.rangeAt g 23 (adL f.d) := h.mid (pre := frN_9 f ++ adL f.s) (post := []) (by rw [List.append_nil, List.append_assoc]; rfl) (by rw [List.length_append, adL_len ho.s]; rfl)
theorem Blk_9.adB (h : Blk_9 w T g (adL a)) : w.rangeAt g 1 (a.b.map v8) := h.mid (pre := [.bool a.six]) (post := []) (by rw [List.append_nil]; rfl) rfl
end
end
section
open Go.RowKit Go.Lib
end
section
open Go.RowKit Go.Lib
end
section
open Go.RowKit Go.Lib
end
section
open Go.RowKit Go.Lib
end
section
open Go.RowKit Go.Lib
end
section
open Go.RowKit Go.Lib
end
section
open Go.RowKit Go.Lib
end
section
open Go.RowKit Go.Lib
end
section
open Go.RowKit Go.Lib
end
section
open Go.RowKit Go.Lib
end
section
open Go.RowKit Go.Lib
/-- The cells of block g, from its head on, are just the bytes cur, and may be written. -/
def Held_9 (w : World) (g : Nat) (cur : List UInt8) : Prop := ∀ j y, cur[j]? = some y → w.cell? ⟨g, j, none⟩ = some (v8 y) ∧ w.frozen? ⟨g, j, none⟩ = false
theorem Held_9.set {w : World} {g : Nat} {cur : List UInt8} (h : Held_9 w g cur) {k : Nat} {x : UInt8} (hx : cur[k]? = some x) (y : UInt8) : Held_9 (w.setCell ⟨g, k, none⟩ (.int .u8 (y.toNat : Int))) g (cur.set k y) := by
  intro j z hz
  rw [World.frozen?_setCell]
  have hk : k < cur.length := (List.getElem?_eq_some_iff.1 hx).1
  rw [List.getElem?_set] at hz
  by_cases e : k = j
  · subst e
    simp [hk] at hz
    subst hz
    exact ⟨World.cell?_setCell_same _ _ _ (h k x hx).1, (h k x hx).2⟩
  · rw [if_neg e] at hz
    rw [World.cell?_setCell_other _ _ _ _ (by intro e'; cases e'; exact e rfl)]
    exact h j z hz
theorem Held_9.rd {w : World} {g : Nat} {cur : List UInt8} (h : Held_9 w g cur) {B n : Nat} (hg : g < B) (hn : cur.length = n) : Rd w B (some ⟨g, 0, none⟩) n cur :=
  ⟨hn, fun _ => ⟨g, 0, rfl, hg, fun j x hx => by rw [Nat.zero_add]; exact (h j x hx).1⟩⟩
theorem Held_9.below {w w' : World} {g B : Nat} {cur : List UInt8} (h : Held_9 w g cur) (hB : g < B) (hb : Below B w w') : Held_9 w' g cur := fun j y hy => by
  obtain ⟨h1, h2⟩ := h j y hy
  refine ⟨(hb.cell (p := ⟨g, j, none⟩) hB).trans h1, ?_⟩
  have := hb.block g hB
  unfold World.frozen? at h2 ⊢
  simpa [this] using h2
theorem Held_9.lt {w : World} {g : Nat} {cur : List UInt8} (h : Held_9 w g cur) (h0 : 0 < cur.length) : g < w.heap.size := by
  obtain ⟨h1, _⟩ := h 0 _ (List.getElem?_eq_getElem h0)
  exact World.block_lt_of_cell? w _ h1
end
end Go.Proofs.Ytfbiinipiklkaaa
namespace Go.Proofs.Ytfbiinipiklkaaa
set_option maxRecDepth 100000
section
open Go.RowKit Go.Lib
theorem own_zero {w : World} {base g C : Nat} {cur : Array Value} (hg : w.heap[g]? = some (.cells cur 5 (0, 0))) (hb : base ≤ g) (hC : C ≤ maxLen) (hs : cur.size = C) : Own8 w base (.slice (some ⟨g, 0, none⟩) 0 C) [] :=
  ⟨by simp, .inr ⟨g, C, cur, rfl, hb, hg, Nat.zero_le _, hC, by omega, by simp⟩⟩
theorem cut_zero8 (A : Option Addr) (len cap : Nat) (W : World) :
    (Instr.slice 72 (.slice A len cap) none (some (.int .i64 0)) none).run Try.prog W = .ok (.slice (cutA A cap 0) 0 cap) W := by
  obtain ⟨i0, hi, _, _, _⟩ := info_parts info8
  have hc := run_sliceBound (P := Try.prog) (w := W) .i64 0 cap .sliceAcap (by omega) (by omega)
  simp [Instr.slice, hc, run_underlying Try.underlying72, Instr.sliceBounds, sizeOf, typeInfo, hi, cutA]
set_option maxHeartbeats 1000000 in
/-- slices.Grow of nil. -/
theorem grow_any (n : Nat) (h0 : 0 < n) (hn : n ≤ 1000000) (w : World) :
    Calls Try.prog 82 #[.slice none 0 0, .int .i64 (n : Int)] w fun e W' => ∃ g C, e = .returned (.slice (some ⟨g, 0, none⟩) 0 C) ∧ Own8 W' w.heap.size (.slice (some ⟨g, 0, none⟩) 0 C) [] ∧ Below w.heap.size w W' := by
  obtain ⟨i0, hi, hz0, hz1, hz2⟩ := info_parts info8
  have hr := fun (W : World) (ty : TypeId) => run_append_nil_zeros (P := Try.prog) W 72 3 ty 5 i0 (.int .u8 0) .i64 .i64 Try.underlying72 Try.underlying3 hi hz0 n h0 (by omega) (by omega) (by rw [hz2]; omega)
  have HG := Lib.hid hr
  clear hr
  have hl := grownCap_ge w n 0 5
  have hm := grownCap_le_maxLen w n 0 5 (by unfold maxLen; omega)
  obtain ⟨C, hC⟩ : ∃ C, grownCap w n 0 5 = C := ⟨_, rfl⟩
  obtain ⟨cur, hcur⟩ : ∃ cur, Builtin.zeroCells (Value.int .u8 0).cells n ++ Builtin.zeroCells (Value.int .u8 0).cells (C - n) = cur := ⟨_, rfl⟩
  rw [hC] at hl hm
  have hcs : cur.size = C := by
    rw [← hcur, Array.size_append]
    simp [Builtin.zeroCells, Value.cells]
    omega
  have hG : ∀ ty, (Builtin.append_ #[72, 3] ty #[.slice none 0 0, .int .i64 (n : Int)]).run Try.prog w = .ok (.slice (some ⟨w.heap.size, 0, none⟩) n C) (w.drew.alloc (.cells cur 5)) := fun ty => by
    rw [HG.out w ty, hC, hcur]
  have hw1 : (w.drew.alloc (.cells cur 5)).heap[w.heap.size]? = some (.cells cur 5 (0, 0)) := heap_alloc_new w.drew _
  have hown := own_zero hw1 (Nat.le_refl _) hm hcs
  have hbel : Below w.heap.size w (w.drew.alloc (.cells cur 5)) := ((Below.refl w.heap.size w).drew).alloc (Nat.le_refl _) _
  have hcz := fun W => cut_zero8 none 0 0 W
  have hcz2 := fun W => cut_zero8 (some ⟨w.heap.size, 0, none⟩) n C W
  rw [show cutA none 0 0 = none from rfl] at hcz
  rw [show cutA (some ⟨w.heap.size, 0, none⟩) C 0 = some ⟨w.heap.size, 0, none⟩ by unfold cutA; rw [if_neg (by omega), Option.map_some, add_plain]] at hcz2
  have h0' : (0 : Int) < (n : Int) := by omega
  clear HG hcur hC hi hz0 hz1 hz2 hcs hm
  go_enter Try.func82, Try.ntmps82
  go_wp2_with (at_builtin; refine wpList_append_run _ rfl _ _ _ _ rfl _ _ (by rfl) (by rfl) _ _ (hG _) ?_)
  go_ret
  exact ⟨w.heap.size, C, rfl, hown, hbel⟩
theorem flat_take {l : List (List UInt8)} {k : Nat} {xs : List UInt8} (h : l[k]? = some xs) : (l.take k).flatten ++ xs = (l.take (k + 1)).flatten := by
  obtain ⟨hl, he⟩ := List.getElem?_eq_some_iff.1 h
  rw [← List.take_append_getElem hl, he, List.flatten_append]
  simp
end
section
open Go.RowKit Go.Lib
/-- The cells of an address. -/
def addrC (s : Bool) (bs : List UInt8) : Array Value := (.bool s :: bs.map v8).toArray
end
section
open Go.RowKit Go.Lib Go.ChangeShapes Go.WideShapes Go.ChangeAt
section
variable {H : Type} {enc : TypeId × Value → H} {W : World}
theorem cells_u8 : Try.prog.cellsOf 5 = 1 := by kernel_rfl
theorem cells_16 : Try.prog.cellsOf 22 = 16 := by kernel_rfl
theorem one_of_take {cs : List Value} {i : Nat} {v : Value} (h : (cs.drop i).take 1 = [v]) : cs[i]? = some v := by
  have := congrArg (·[0]?) h
  simpa using this
end
end
section
open Go.RowKit Go.Lib
end
section
open Go.RowKit Go.Lib
/-- How many bytes the TCP header has, by what it tells. -/
def hlN (xs : List UInt8) : Nat := 4 * (batN xs 12 / 16)
/-- Why no segment begins there. -/
def faultT (xs : List UInt8) : Nat := if xs.length < 20 then 2 else if hlN xs < 20 then 3 else if xs.length < hlN xs then 2 else 0
def faultU (xs : List UInt8) : Nat := if xs.length < 8 then 2 else if wat xs 4 < 8 then 3 else if xs.length < wat xs 4 then 2 else 0
def faultP (n : Int) (xs : List UInt8) : Nat := if n = 6 then faultT xs else if n = 17 then faultU xs else 5
/-- A header. -/
structure Po where
  s : Nat
  d : Nat
  f : Nat
  h : Nat
  t : Nat
def Po.zero : Po := ⟨0, 0, 0, 0, 0⟩
def poT (xs : List UInt8) : Po := ⟨wat xs 0, wat xs 2, batN xs 13 % 64, hlN xs, xs.length⟩
def poU (xs : List UInt8) : Po := ⟨wat xs 0, wat xs 2, 0, 8, wat xs 4⟩
def rdP (n : Int) (xs : List UInt8) : Po := if faultP n xs = 0 then (if n = 6 then poT xs else poU xs) else Po.zero
section
variable {six : Bool} {a b : List UInt8} {u : Bool} {xs : List UInt8}
end
end
section
open Go.RowKit Go.Lib
/-- The row of an owned slice. -/
theorem Own8.row {w : World} {base g N C : Nat} {ys : List UInt8} (h : Own8 w base (.slice (some ⟨g, 0, none⟩) N C) ys) :
    ∃ L : List Value, w.heap[g]? = some (.cells L.toArray 5 (0, 0)) ∧ L.length = C ∧ N ≤ C ∧ C ≤ maxLen ∧ base ≤ g ∧ L.take N = ys.map v8 := by
  obtain ⟨hl, h⟩ := h
  rcases h with ⟨e, _⟩ | ⟨g', cap, cur, e, hb, hg, hn, hm, hs, ht⟩
  · cases e
  · obtain ⟨rfl, hN, rfl⟩ : g = g' ∧ N = ys.length ∧ C = cap := by cases e; exact ⟨rfl, rfl, rfl⟩
    subst hN
    exact ⟨cur.toList, by simpa using hg, by simpa using hs, hn, hm, hb, by simpa using ht⟩
end
section
open Go.RowKit Go.Lib
/-- The cells of an address, as a list. -/
def addrL (s : Bool) (bs : List UInt8) : List Value := .bool s :: bs.map v8
theorem addrC_eq (s : Bool) (bs : List UInt8) : addrC s bs = (addrL s bs).toArray := rfl
theorem addr_range (w : World) (s : Bool) (bs : List UInt8) : (w.alloc (.cells (addrC s bs) 24)).rangeAt w.heap.size 0 (addrL s bs) := fun j v hv => by
  rw [Nat.zero_add, cell_of_row _ w.heap.size j _ _ (0, 0) (heap_alloc_new w _), addrC_eq]
  simpa using hv
/-- Block g is a row of just these cells, of type T. -/
def Blk_10 (w : World) (T : TypeId) (g : Nat) (cs : List Value) : Prop := w.heap[g]? = some (.cells cs.toArray T (0, 0))
section
variable {w w' : World} {T : TypeId} {g : Nat} {cs : List Value}
theorem Blk_10.lt (h : Blk_10 w T g cs) : g < w.heap.size := (Array.getElem?_eq_some_iff.1 h).1
theorem Blk_10.new (w : World) (T : TypeId) (cs : List Value) : Blk_10 (w.alloc (.cells cs.toArray T)) T w.heap.size cs := heap_alloc_new w _
theorem Blk_10.alloc (h : Blk_10 w T g cs) (o : Obj) : Blk_10 (w.alloc o) T g cs := (Below.heap_alloc w o g h.lt).trans h
theorem Blk_10.drew (h : Blk_10 w T g cs) : Blk_10 w.drew T g cs := h
theorem Blk_10.below (h : Blk_10 w T g cs) {B : Nat} (hB : g < B) (hb : Below B w w') : Blk_10 w' T g cs := (hb.block g hB).trans h
theorem Blk_10.cell (h : Blk_10 w T g cs) {i : Nat} {v : Value} (hv : cs[i]? = some v) : w.cell? ⟨g, i, none⟩ = some v := by
  rw [cell_of_row w g i _ _ (0, 0) h]; simpa using hv
theorem Blk_10.frozen (h : Blk_10 w T g cs) (i : Nat) : w.frozen? ⟨g, i, none⟩ = false := by
  unfold Blk_10 at h; simp [World.frozen?, h]
theorem Blk_10.set (h : Blk_10 w T g cs) (i : Nat) (v : Value) : Blk_10 (w.setCell ⟨g, i, none⟩ v) T g (cs.set i v) := by
  unfold Blk_10 at h ⊢
  simp [World.setCell, Array.getElem?_modify, h]
theorem Blk_10.far (h : Blk_10 w T g cs) {p : Addr} (hp : g ≠ p.block) (u : Value) : Blk_10 (w.setCell p u) T g cs := (Below.heap_setCell w p u g hp).trans h
theorem Blk_10.setRow_ (h : Blk_10 w T g cs) (ds : List Value) : Blk_10 (w.setRow g ds.toArray) T g ds := setRow_heap w g _ _ T (0, 0) h
theorem Blk_10.grown (h : Blk_10 w T g cs) {row : Option Nat} (hg : w.grownBy w' row) (hr : row ≠ some g) : Blk_10 w' T g cs := (hg.block g h.lt (fun e => hr e.symm)).trans h
theorem Blk_10.range (h : Blk_10 w T g cs) : w.rangeAt g 0 cs := fun j v hv => by
  rw [Nat.zero_add]; exact h.cell hv
theorem Blk_10.mid (h : Blk_10 w T g cs) {pre mid post : List Value} (e : cs = pre ++ (mid ++ post)) {o : Nat} (ho : pre.length = o) : w.rangeAt g o mid := fun j v hv => by
  refine h.cell ?_
  subst ho
  rw [e, List.getElem?_append_right (by omega), Nat.add_sub_cancel_left, List.getElem?_append_left (List.getElem?_eq_some_iff.1 hv).1]; exact hv
end
/-- A whole value into its block: a law for the walk. -/
theorem wpList_storeR_10 {w : World} {ops : Array Oper} {rest : List Oper} {op : Oper} {a : Act} {Q : Exit → Act → World → Prop} (hgd : op.guard = none) (T : TypeId) (x y : Operand) (ho : op.op = .store T x y)
    (g : Nat) (hx : a.eval x = .pointer (some ⟨g, 0, none⟩)) (cs : List Value) (hy : a.eval y = .agg cs.toArray) (old : List Value) (hb : Blk_10 w T g old) (hl : old.length = cs.length)
    (hi : (Try.prog.info? T).map (·.size) = some cs.length) (h1 : ∀ v ∈ cs, v.oneCell' = true)
    (h : wpList Try.prog ops Q rest (a.put op.dst undef) (w.setRow g cs.toArray)) : wpList Try.prog ops Q (op :: rest) a w := by
  refine wpList_plain hgd fun K hK => ?_
  have hr := run_storeVar_row (P := Try.prog) w g T T old.toArray cs.toArray hb (by simpa using hi) (by simpa using hl) (Array.all_eq_true_iff_forall_mem.2 (fun v hv => h1 v (by simpa using hv)))
  unfold Oper.wp execOp
  simp only [ho, hx, hy, Instr.storeAt, Instr.sureAddr, Sem.run_bind, Sem.run_pure, Result.andThen_ok, hr]
  exact hK _ _ h
/-- The same, at a step of a region that draws. -/
theorem step_storeR_10 {w : World} {ops : Array Oper} {op : Oper} {a : Act} {K : Act → World → Prop} {Q : Exit → Act → World → Prop} {E : Prop} (hgd : op.guard = none) (T : TypeId) (x y : Operand) (ho : op.op = .store T x y)
    (g : Nat) (hx : a.eval x = .pointer (some ⟨g, 0, none⟩)) (cs : List Value) (hy : a.eval y = .agg cs.toArray) (old : List Value) (hb : Blk_10 w T g old) (hl : old.length = cs.length)
    (hi : (Try.prog.info? T).map (·.size) = some cs.length) (h1 : ∀ v ∈ cs, v.oneCell' = true)
    (h : K (a.put op.dst undef) (w.setRow g cs.toArray)) : if Region.wanted op (yielded ops a.tmps) = true then Oper.wp Try.prog op a w K Q else E := by
  have hw : Region.wanted op (yielded ops a.tmps) = true := by simp [Region.wanted, hgd]
  rw [if_pos hw]
  have hr := run_storeVar_row (P := Try.prog) w g T T old.toArray cs.toArray hb (by simpa using hi) (by simpa using hl) (Array.all_eq_true_iff_forall_mem.2 (fun v hv => h1 v (by simpa using hv)))
  unfold Oper.wp execOp
  simp only [ho, hx, hy, Instr.storeAt, Instr.sureAddr, Sem.run_bind, Sem.run_pure, Result.andThen_ok, hr]
  exact h
/-- A struct put together: a law for the walk, under a guard that says yes, or under none. -/
theorem wpList_buildw {w : World} {ops : Array Oper} {rest : List Oper} {op : Oper} {a : Act} {Q : Exit → Act → World → Prop} (T : TypeId) (parts : Array (Nat × Operand)) (ho : op.op = .build T parts) (hw : Region.wanted op (yielded ops a.tmps) = true) (vals : List (Nat × Value)) (hv : (parts.map fun (i, x) => (i, a.eval x)).toList = vals)
    (cells : Array Value) (hb : Try.prog.built T vals = some cells) (hk : wpList Try.prog ops Q rest (a.put op.dst (.agg cells)) w) : wpList Try.prog ops Q (op :: rest) a w :=
  BigFrame.wpList_want hw fun K hK => by
    unfold Oper.wp execOp
    simp only [ho, Sem.run_bind, run_build w T _ cells (by rw [hv]; exact hb), Result.andThen_ok, Sem.run_pure]
    exact hK _ _ hk
end
section
open Go.RowKit Go.Lib
section
variable {A : Option Addr} {len cap : Nat} {xs : List UInt8}
end
end
section
open Go.RowKit Go.Lib
section
variable {A : Option Addr} {len cap : Nat} {xs : List UInt8}
end
end
section
open Go.RowKit Go.Lib
section
variable {W : World} {A1 A2 : Option Addr} {n1 n2 c1 c2 : Nat} {x y : List UInt8}
end
/-- Two addresses, laid in their boxes. -/
theorem boxes (w : World) (six : Bool) (a b : List UInt8) :
    ((w.alloc (.cells (addrC six a) 24)).alloc (.cells (addrC six b) 24)).rangeAt w.heap.size 0 (addrL six a) ∧ ((w.alloc (.cells (addrC six a) 24)).alloc (.cells (addrC six b) 24)).rangeAt (w.heap.size + 1) 0 (addrL six b) ∧
    Below w.heap.size w ((w.alloc (.cells (addrC six a) 24)).alloc (.cells (addrC six b) 24)) ∧ w.heap.size + 1 < ((w.alloc (.cells (addrC six a) 24)).alloc (.cells (addrC six b) 24)).heap.size := by
  have k0 := addr_range w six a
  have k1 := addr_range (w.alloc (.cells (addrC six a) 24)) six b
  simp only [World.size_alloc] at k1
  refine ⟨range_keep k0 (Nat.lt_succ_self _) ?_, k1, ((Below.refl w.heap.size w).alloc (Nat.le_refl _) _).alloc (by simp) _, by simp⟩
  exact (Below.refl (w.heap.size + 1) (w.alloc (.cells (addrC six a) 24))).alloc (by simp) _
end
section
open Go.RowKit Go.Lib
end
section
open Go.RowKit Go.Lib
end
section
open Go.RowKit Go.Lib
end
end Go.Proofs.Ytfbiinipiklkaaa
