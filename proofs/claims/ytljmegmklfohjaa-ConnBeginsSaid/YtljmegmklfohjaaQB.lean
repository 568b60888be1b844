/-
  Several texts in one: Bytes Turn Num Get Put CText Frame IMath Lift FMath FRing FList FSum FInts FRef moved.
-/
import Derived.Test.YtljmegmklfohjaaRows
import Derived.WalkKit
import Derived.Below
import Derived.Deep.Draws
import Derived.Lib.Hide
import Derived.Maps.AppendAt
import Derived.Laws.OwnMore
import Derived.OwnWalkIn
import Derived.RangeFuncNested
import Derived.RangeFuncBound
import Derived.RangeFuncCalls
import Derived.RangeFuncLeaves
import Derived.RangeFuncBox
import Derived.Shelf.Abstract
import Derived.Shelf.RegionOpen
import Derived.TacticsInMore
import Derived.LoopNIn
import Derived.LoopIn
import Derived.Laws.BytesArg
import Derived.Lib.BufferOwn
import Derived.Lib.Zigzag
import Derived.ProofKit
import Derived.OpenShut
import Derived.ShutString
import Derived.ChangeOld
import Derived.IntWalk
import Derived.Deep.RegionHeld3
import Derived.Deep.AppendLies
import Derived.Lib.SliceRun
import Derived.BigQuiet
import Derived.Deep.MidRow
import Derived.Laws.ResultCell
import Derived.Laws.CopyOwn
import Derived.Deep.QuietTactic
import Derived.Deep.RegionLaw
import Derived.BigFrame
import Derived.DeepKeys
import Derived.Laws.StructEq
import Derived.Great.BuildSlice
import Derived.Lib.VarintBits
import Derived.Lib.QuoteBits
import Derived.WalkMore
import Derived.Deep.LoopGhost
import Derived.Lib.AppendZeros
namespace Go.Proofs.Ytljmegmklfohjaa
set_option maxRecDepth 100000
section
open Go.RowKit
/-- A byte as a cell's value. -/
def v8 (x : UInt8) : Value := .int .u8 (x.toNat : Int)
theorem add_plain (b off j : Nat) : (⟨b, off, none⟩ : Addr).add j = ⟨b, off + j, none⟩ := by unfold Addr.add; split <;> simp_all
/-- The slice of address A and length n reads as the bytes xs; where it has any, they lie in a block below B. -/
def Rd (w : World) (B : Nat) (A : Option Addr) (n : Nat) (xs : List UInt8) : Prop :=
  xs.length = n ∧ (0 < n → ∃ b off, A = some ⟨b, off, none⟩ ∧ b < B ∧ ∀ (j : Nat) (x : UInt8), xs[j]? = some x → w.cell? ⟨b, off + j, none⟩ = some (v8 x))
section
variable {w w' : World} {B B' n : Nat} {A : Option Addr} {xs : List UInt8}
theorem Rd.len (h : Rd w B A n xs) : xs.length = n := h.1
theorem Rd.nil_ (A : Option Addr) : Rd w B A 0 [] := ⟨rfl, fun h => absurd h (by omega)⟩
theorem Rd.keep (h : Rd w B A n xs) (hk : ∀ p : Addr, p.block < B → w'.cell? p = w.cell? p) : Rd w' B A n xs :=
  ⟨h.1, fun hn => by
    obtain ⟨b, off, e, hb, hc⟩ := h.2 hn
    exact ⟨b, off, e, hb, fun j x hx => (hk _ hb).trans (hc j x hx)⟩⟩
theorem Rd.more (h : Rd w B A n xs) (hB : B ≤ B') : Rd w B' A n xs :=
  ⟨h.1, fun hn => by
    obtain ⟨b, off, e, hb, hc⟩ := h.2 hn
    exact ⟨b, off, e, by omega, hc⟩⟩
theorem Rd.below (h : Rd w B A n xs) (hb : Below B w w') : Rd w' B A n xs := h.keep fun _ hp => hb.cell hp
theorem Rd.drew (h : Rd w B A n xs) : Rd w.drew B A n xs := h
theorem Rd.drewN (h : Rd w B A n xs) (k : Nat) : Rd (w.drewN k) B A n xs := h
theorem Rd.alloc (h : Rd w B A n xs) (hB : B ≤ w.heap.size) (o : Obj) : Rd (w.alloc o) B A n xs := h.keep fun p hp => World.cell?_alloc_lt w o p (by omega)
theorem Rd.setCell (h : Rd w B A n xs) {p : Addr} (hB : B ≤ p.block) (u : Value) : Rd (w.setCell p u) B A n xs :=
  h.keep fun q hq => World.cell?_setCell_other w p q u (fun e => by subst e; omega)
theorem Rd.grown (h : Rd w B A n xs) {row : Option Nat} (hg : w.grownBy w' row) (hB : B ≤ w.heap.size) (hr : ∀ g, row = some g → B ≤ g) : Rd w' B A n xs :=
  h.keep fun p hp => World.cell?_of_block (hg.block p.block (by omega) (fun e => by have := hr _ e.symm; omega))
theorem Rd.cell {b off : Nat} (h : Rd w B (some ⟨b, off, none⟩) n xs) {k : Nat} (hk : k < n) : w.cell? ⟨b, off + k, none⟩ = some (.int .u8 ((xs[k]'(by rw [h.1]; exact hk)).toNat : Int)) := by
  obtain ⟨b', off', e, _, hc⟩ := h.2 (by omega)
  cases e
  exact hc k _ (List.getElem?_eq_getElem _)
theorem Rd.addr (h : Rd w B A n xs) (hn : 0 < n) : ∃ b off, A = some ⟨b, off, none⟩ ∧ b < B := by
  obtain ⟨b, off, e, hb, _⟩ := h.2 hn
  exact ⟨b, off, e, hb⟩
end
/-- The slice value v owns, in a row of bytes of the call's own from block 'base' on, the bytes xs. -/
def Own8 (w : World) (base : Nat) (v : Value) (xs : List UInt8) : Prop := w.ownsRow base 5 1 v xs.length (xs.map v8)
section
variable {w w' : World} {base : Nat} {v : Value} {xs : List UInt8}
theorem Own8.nil_ (w : World) (base : Nat) : Own8 w base (.slice none 0 0) [] := World.ownsRow_nil w base 5 1
/-- What is owned reads so. -/
theorem Own8.rd (h : Own8 w base v xs) : ∃ A c, v = .slice A xs.length c ∧ xs.length ≤ c ∧ c ≤ maxLen ∧ Rd w w.heap.size A xs.length xs ∧ (0 < xs.length → ∃ g, A = some ⟨g, 0, none⟩ ∧ base ≤ g) := by
  rcases h.2 with ⟨rfl, h0⟩ | ⟨g, cap, cur, rfl, hbg, hg, hnc, hcm, hcs, ht⟩
  · have : xs = [] := List.eq_nil_of_length_eq_zero h0
    subst this
    exact ⟨none, 0, rfl, by simp, by simp [maxLen], Rd.nil_ _, fun h => absurd h (by simp)⟩
  · refine ⟨some ⟨g, 0, none⟩, cap, rfl, hnc, hcm, ⟨rfl, fun _ => ⟨g, 0, rfl, (Array.getElem?_eq_some_iff.1 hg).1, fun j x hx => ?_⟩⟩, fun _ => ⟨g, rfl, hbg⟩⟩
    have := World.ownsRow.cells h (g := g) rfl j (v8 x) (by simp [hx])
    rw [add_plain] at this
    exact this
theorem Own8.alloc (h : Own8 w base v xs) (o : Obj) : Own8 (w.alloc o) base v xs := World.ownsRow.alloc h o
theorem Own8.drew (h : Own8 w base v xs) : Own8 w.drew base v xs := h
theorem Own8.below (h : Own8 w base v xs) (hb : Below w.heap.size w w') : Own8 w' base v xs := by
  refine ⟨h.1, ?_⟩
  rcases h.2 with hn | ⟨g, cap, cur, rfl, hbg, hg, rest⟩
  · exact .inl hn
  · exact .inr ⟨g, cap, cur, rfl, hbg, (hb.block g (Array.getElem?_eq_some_iff.1 hg).1).trans hg, rest⟩
theorem Own8.base_le (h : Own8 w base v xs) {base' : Nat} (hle : base' ≤ base) : Own8 w base' v xs := by
  refine ⟨h.1, ?_⟩
  rcases h.2 with hn | ⟨g, cap, cur, rfl, hbg, rest⟩
  · exact .inl hn
  · exact .inr ⟨g, cap, cur, rfl, by omega, rest⟩
end
/-- Block g is a row of just the bytes xs. -/
def Row8 (w : World) (g : Nat) (xs : List UInt8) : Prop := w.heap[g]? = some (.cells (xs.map v8).toArray 5 (0, 0))
section
variable {w w' : World} {g : Nat} {xs : List UInt8}
theorem Row8.lt (h : Row8 w g xs) : g < w.heap.size := (Array.getElem?_eq_some_iff.1 h).1
theorem Row8.cell (h : Row8 w g xs) {i : Nat} {x : UInt8} (hx : xs[i]? = some x) : w.cell? ⟨g, i, none⟩ = some (v8 x) := by
  rw [cell_of_row w g i _ _ (0, 0) h]; simp [hx]
theorem Row8.frozen (h : Row8 w g xs) (i : Nat) : w.frozen? ⟨g, i, none⟩ = false := by
  unfold Row8 at h; simp [World.frozen?, h]
theorem madeCells8 (c : Nat) : madeCells #[.int .u8 0] c = ((List.replicate c (0 : UInt8)).map v8).toArray := by
  apply Array.ext
  · simp [madeCells]
  · intro i h1 h2
    simp [madeCells, v8, Nat.mod_one]
theorem Row8.made (w : World) (c : Nat) : Row8 (w.alloc (.cells (madeCells #[.int .u8 0] c) 5)) w.heap.size (List.replicate c 0) := by
  rw [madeCells8]; exact heap_alloc_new w _
theorem Row8.alloc (h : Row8 w g xs) (o : Obj) : Row8 (w.alloc o) g xs := (Below.heap_alloc w o g h.lt).trans h
theorem Row8.drew (h : Row8 w g xs) : Row8 w.drew g xs := h
theorem Row8.set (h : Row8 w g xs) (i : Nat) (x : UInt8) : Row8 (w.setCell ⟨g, i, none⟩ (.int .u8 (x.toNat : Int))) g (xs.set i x) := by
  unfold Row8 at h ⊢
  simp [World.setCell, Array.getElem?_modify, h, List.map_set, v8]
theorem Row8.far (h : Row8 w g xs) {p : Addr} (hp : g ≠ p.block) (u : Value) : Row8 (w.setCell p u) g xs := (Below.heap_setCell w p u g hp).trans h
theorem Row8.own (h : Row8 w g xs) {base n : Nat} (hb : base ≤ g) (hn : n ≤ xs.length) (hm : xs.length ≤ maxLen) : Own8 w base (.slice (some ⟨g, 0, none⟩) n xs.length) (xs.take n) := by
  have e : (xs.take n).length = n := by simp; omega
  unfold Own8
  rw [e]
  exact ⟨by simp; omega, .inr ⟨g, xs.length, _, rfl, hb, h, hn, hm, by simp, by simp⟩⟩
theorem Row8.rd (h : Row8 w g xs) {B : Nat} (hB : g < B) : Rd w B (some ⟨g, 0, none⟩) xs.length xs :=
  ⟨rfl, fun _ => ⟨g, 0, rfl, hB, fun j x hx => by rw [Nat.zero_add]; exact h.cell hx⟩⟩
end
theorem Rd.cells {w : World} {B n : Nat} {A : Option Addr} {xs : List UInt8} (h : Rd w B A n xs) (hn : 0 < n) : ∃ ad, A = some ad ∧ ∀ j v, (xs.map v8)[j]? = some v → w.cell? (ad.add j) = some v := by
  obtain ⟨b, off, e, _, hc⟩ := h.2 hn
  refine ⟨_, e, fun j v hv => ?_⟩
  rw [add_plain]
  rw [List.getElem?_map] at hv
  cases hx : xs[j]? with
  | none => rw [hx] at hv; cases hv
  | some x => rw [hx] at hv; cases hv; exact hc j x hx
section
variable {w : World} {x : UInt8}
/-- A slice of one byte that is laid in a block of its own. -/
theorem Row8.one (w : World) (x : UInt8) : Row8 (w.alloc (.cells #[.int .u8 (x.toNat : Int)] 5)) w.heap.size [x] := heap_alloc_new w _
theorem Rd.one (w : World) (x : UInt8) : Rd (w.alloc (.cells #[.int .u8 (x.toNat : Int)] 5)) (w.heap.size + 1) (some ⟨w.heap.size, 0, none⟩) 1 [x] := (Row8.one w x).rd (by omega)
end
theorem Own8.lt {w : World} {base : Nat} {v : Value} {xs : List UInt8} (h : Own8 w base v xs) : ∀ g, v.ownBlock = some g → base ≤ g := fun g hg => (World.ownsRow.lt h g hg).1
theorem Own8.kept {w w' : World} {base : Nat} {v : Value} {xs : List UInt8} {row : Option Nat} (h : Own8 w base v xs) (hg : w.grownBy w' row) (hne : v.ownBlock = none ∨ v.ownBlock ≠ row) : Own8 w' base v xs := World.ownsRow.kept h hg hne
end
section
open Go.RowKit Go.Shelf
attribute [local go_sem] Oper.semAt_some
/-- What a round that goes on keeps: all below n₀, and the box of the slice that is gone through. -/
def KpB (n₀ Bs : Nat) (W W' : World) : Prop := Below n₀ W W' ∧ W'.heap[Bs]? = W.heap[Bs]?
theorem KpB.refl (n₀ Bs : Nat) (W : World) : KpB n₀ Bs W W := ⟨Below.refl _ _, rfl⟩
theorem KpB.trans {n₀ Bs : Nat} {A B C : World} (h : KpB n₀ Bs A B) (k : KpB n₀ Bs B C) : KpB n₀ Bs A C := ⟨h.1.trans k.1, k.2.trans h.2⟩
end
section
end
section
open Go.RowKit Go.Shelf
attribute [local go_sem] Oper.semAt_some
theorem Rd.take {w : World} {B n : Nat} {A : Option Addr} {xs : List UInt8} (h : Rd w B A n xs) {k : Nat} (hk : k ≤ n) : Rd w B A k (xs.take k) := by
  refine ⟨by rw [List.length_take, h.1]; omega, fun h0 => ?_⟩
  obtain ⟨b, off, e, hb, hc⟩ := h.2 (by omega)
  refine ⟨b, off, e, hb, fun j x hx => hc j x ?_⟩
  rw [List.getElem?_take] at hx
  split at hx
  · exact hx
  · cases hx
end
section
open Go.RowKit Go.Shelf
end
section
open Go.RowKit Go.Shelf
theorem Own8.sl {w : World} {base : Nat} {v : Value} {xs : List UInt8} (h : Own8 w base v xs) : ∃ A m c, v = .slice A m c ∧ m = xs.length ∧ m ≤ c ∧ c ≤ maxLen ∧ Rd w w.heap.size A m xs := by
  obtain ⟨A, c, rfl, h1, h2, hr, _⟩ := h.rd
  exact ⟨A, _, c, rfl, rfl, h1, h2, hr⟩
end
section
open Go.RowKit
section
variable {a b w w' : World} {row : Option Nat}
/-- A contract that leaves the world, as a drawn region asks it. -/
theorem quiet_same {P : Program} {f : FuncId} {args : Array Value} {n : Nat} {v : Value} (h : Calls P f args (w.drewN n) fun e w' => e = .returned v ∧ w.drewN n = w') :
    Calls P f args (w.drewN n) fun e w' => e = .returned v ∧ ∃ m, w' = w.drewN m :=
  h.mono fun _ _ g => ⟨g.1, n, g.2.symm⟩
end
end
section
end
section
open Go.ChangeShapes Go.WideShapes Go.ChangeAt Go.RowKit
theorem own_knob : ownKnob Try.prog.godebug = none := by kernel_rfl
theorem laid_out : laidOutB Try.prog = true := by kernel_rfl
section
variable {H : Type} {enc : TypeId × Value → H} {P : Program} {w : World} {base : Nat} {spare : Nat → Bool} {held : Bool}
theorem trodAll_len : ∀ {ts : List TypeId} {vs : List Value} {ds : List (DataW H)} {ps : List MemPlace}, DataW.TrodAll enc P w base spare held ts vs ds ps → ds.length = ts.length ∧ vs.length = ts.length
  | [], _, _, _, h => by obtain ⟨rfl, rfl, rfl⟩ := trodAll_nil h; exact ⟨rfl, rfl⟩
  | t :: ts, _, _, _, h => by
    obtain ⟨v, vs', d, ds', p, q, rfl, rfl, rfl, h0, h1⟩ := trodAll_cons h
    obtain ⟨e1, e2⟩ := trodAll_len h1
    simp [e1, e2]
theorem trodAll_below (hl : laidOutB P = true) {W W' : World} (hb : Below W.heap.size W W') : ∀ {ts : List TypeId} {vs : List Value} {ds : List (DataW H)} {ps : List MemPlace}, ts.all (fun t => P.readableRec t && decide (t < P.types.size)) = true →
    DataW.TrodAll enc P W 0 (fun _ => true) true ts vs ds ps → (∀ x ∈ ps, x.block < W.heap.size) → DataW.TrodAll enc P W' 0 (fun b => decide (b < W.heap.size)) true ts vs ds ps
  | [], _, _, _, _, h, _ => by obtain ⟨rfl, rfl, rfl⟩ := trodAll_nil h; exact trodAll_mk0
  | t :: ts, _, _, _, hr, h, hlt => by
    obtain ⟨v, vs', d, ds', p, q, rfl, rfl, rfl, h0, h1⟩ := trodAll_cons h
    simp only [List.all_cons, Bool.and_eq_true, decide_eq_true_eq] at hr
    exact trodAll_cons_mk (Below.trod hl hr.1.1 hr.1.2 h0 hb fun x hx => hlt x (List.mem_append_left _ hx)) (trodAll_below hl hb (by simpa using hr.2) h1 fun x hx => hlt x (List.mem_append_right _ hx))
end
/-- What a law's walk has to show. -/
def WalksTrue (k : Nat) (f : Func) : Prop :=
  ∀ (H : Type) (enc : TypeId × Value → H) (W : World) (base : Nat) (args : Array Value) (ds : List (DataW H)) (p : List MemPlace),
    (∀ (j : Nat) t v, f.params[j]? = some t → args[j]? = some v → Value.okWide Try.prog W .any base t v) →
    DataW.TrodAll enc Try.prog W 0 (fun _ => true) true f.params.toList args.toList ds p →
    Calls Try.prog k args W fun e W' => e = .returned (.bool true) ∧ Below W.heap.size W W'
/-- The lift. -/
theorem law_lift {k : Nat} {f : Func} {s : ChangeSpec} (hf : Try.prog.funcs[k]? = some f) (hin : Try.prog.inits.idxOf? k = none) (hv : s.vars = []) (hres : f.resultTypes = #[4])
    (hsp : ∀ (H : Type) (ds : List (DataW H)), ds.length = f.params.toList.length → (s.fn H ds).results = [.lit (.bool true)] ∧ (s.fn H ds).args = ds ∧ (s.fn H ds).vars = [])
    (hrd : f.params.toList.all (fun t => Try.prog.readableRec t && decide (t < Try.prog.types.size)) = true)
    (hwalk : WalksTrue k f) (os : Os) (started : os.Started) (H : Type) (enc : TypeId × Value → H)
    (witness : ∃ (w : World) (tape : Tape) (i : Input), w.os = os ∧ (w.forCall tape i).Shaped Try.checked.prog ∧ i.vars = [] ∧ Input.okWide Try.checked.prog (w.forCall tape i) .any w.heap.size k i ∧
      s.pre6 enc Try.checked.prog f [] false (w.forCall tape i).memory i.args ∧ ({} : Assume).holds Try.checked.prog (lone (Frame.enter Try.checked.prog k i.args .normal) [] (w.forCall tape i))) :
    ReturnsInHanded {} Try.checked os k .any (s.pre6 enc Try.prog f [] false) (s.post enc Try.prog f false true false false) := by
  refine returnsInHanded_of_change (C := Try.checked) own_knob started hin hf witness ?_
  intro W base args ds gs before hval hW _ _
  have hW' := hW
  obtain ⟨p, q, hA, hV, rfl, hfz, hnd⟩ := hW
  rw [hv] at hV
  obtain ⟨rfl, rfl⟩ := trodVars_none hV
  have hlt : ∀ x ∈ p, x.block < W.heap.size := fun x hx => hW'.lt x (by simpa using hx)
  refine (hwalk H enc W base args ds p hval hA).mono fun e W' ⟨he, bel⟩ => ?_
  subst he
  obtain ⟨r1, r2, r3⟩ := hsp H (ds ++ []) (by rw [List.append_nil]; exact (trodAll_len hA).1)
  refine ⟨_, rfl, ds, [], _, [], p, [], hW', ?_, ?_, ?_, bel.frame _, fun h => by cases h⟩
  · rw [r1, hres]
    exact trodAll_mk1 (shut_bool Try.underlying4 _)
  · rw [r2, List.append_nil]
    exact trodAll_below laid_out bel hrd hA hlt
  · rw [hv, r3]
    rfl
theorem range_i64 {n : Int} (h : (Lit.int .i64 n).wf = true) : -9223372036854775808 ≤ n ∧ n ≤ 9223372036854775807 := by
  simp [Lit.wf, IntKind.min, IntKind.max, IntKind.signed, IntKind.bits] at h; omega
theorem range_u16 {n : Int} (h : (Lit.int .u16 n).wf = true) : 0 ≤ n ∧ n < 65536 := by
  simp [Lit.wf, IntKind.min, IntKind.max, IntKind.signed, IntKind.bits] at h; omega
theorem range_u8 {n : Int} (h : (Lit.int .u8 n).wf = true) : 0 ≤ n ∧ n < 256 := by
  simp [Lit.wf, IntKind.min, IntKind.max, IntKind.signed, IntKind.bits] at h; omega
end
section
/-- Byte i, 0 behind the end. -/
def batN (xs : List UInt8) (i : Nat) : Nat := (xs.getD i 0).toNat
/-- The word that begins at byte i. -/
def wat (xs : List UInt8) (i : Nat) : Nat := 256 * batN xs i + batN xs (i + 1)
/-- An address: of IPv6?, its sixteen bytes. -/
structure Ad where
  six : Bool
  b : List UInt8
/-- A header. -/
structure Fr where
  head : Int
  total : Int
  tos : Int
  id : Int
  frag : Bool
  keep : Bool
  ttl : Int
  proto : Int
  s : Ad
  d : Ad
/-- Both addresses have sixteen bytes. -/
structure Fr.Ok (f : Fr) : Prop where
  s : f.s.b.length = 16
  d : f.d.b.length = 16
def z16 : List UInt8 := [0, 0, 0, 0, 0, 0, 0, 0, 0, 0, 0, 0, 0, 0, 0, 0]
def Ad.zero : Ad := ⟨false, z16⟩
def Fr.zero : Fr := ⟨0, 0, 0, 0, false, false, 0, 0, Ad.zero, Ad.zero⟩
/-- Is an address one of IPv4? -/
def shortB (a : Ad) : Bool := !a.six && (a.b.drop 4).all (· == 0)
structure Fr.Good (f : Fr) : Prop where
  head : f.head = 20
  t0 : 20 ≤ f.total
  t1 : f.total ≤ 65535
  frag : f.frag = false
  o0 : 0 ≤ f.tos
  o1 : f.tos ≤ 255
  l0 : 0 ≤ f.ttl
  l1 : f.ttl ≤ 255
  p0 : 0 ≤ f.proto
  p1 : f.proto ≤ 255
  i0 : 0 ≤ f.id
  i1 : f.id ≤ 65535
  s : shortB f.s = true
  d : shortB f.d = true
section
variable (O T I W L P c : Nat) (s d rest : List UInt8)
end
end
section
open Go.RowKit Go.Lib
end
section
open Go.RowKit Go.Lib
/-- The part of a slice from byte k on, n bytes: what it reads as. -/
theorem Rd.part {w : World} {B len : Nat} {A : Option Addr} {xs : List UInt8} (h : Rd w B A len xs) {k n : Nat} (hk : k + n ≤ len) (hn : 0 < n) :
    Rd w B (A.map fun a => a.add k) n ((xs.drop k).take n) := by
  refine ⟨by rw [List.length_take, List.length_drop, h.1]; omega, fun _ => ?_⟩
  obtain ⟨b, off, rfl, hb, hc⟩ := h.2 (by omega)
  refine ⟨b, off + k, by simp [add_plain], hb, fun j x hx => ?_⟩
  rw [show off + k + j = off + (k + j) by omega]
  refine hc (k + j) x ?_
  rw [List.getElem?_take] at hx
  split at hx
  · rw [List.getElem?_drop] at hx; exact hx
  · cases hx
/-- b[l:h] of bytes, the address under one name. -/
def cutA (A : Option Addr) (cap l : Nat) : Option Addr := if cap = l then A else A.map fun a => a.add l
theorem Rd.cut {w : World} {B len : Nat} {A : Option Addr} {xs : List UInt8} (h : Rd w B A len xs) {l n : Nat} (hk : l + n ≤ len) (cap : Nat) (hcap : len ≤ cap) : Rd w B (cutA A cap l) n ((xs.drop l).take n) := by
  unfold cutA
  rcases Nat.eq_zero_or_pos n with rfl | hn
  · rw [List.take_zero]; exact Rd.nil_ _
  · rw [if_neg (by omega)]; exact h.part hk hn
theorem Rd.from {w : World} {B len : Nat} {A : Option Addr} {xs : List UInt8} (h : Rd w B A len xs) {l : Nat} (hk : l ≤ len) (cap : Nat) (hcap : len ≤ cap) : Rd w B (cutA A cap l) (len - l) (xs.drop l) := by
  have := h.cut (l := l) (n := len - l) (by omega) cap hcap
  rwa [List.take_of_length_le (by rw [List.length_drop, h.1]; exact Nat.le_refl _)] at this
/-- The slice reads as these lists of bytes. -/
def LsAt (w : World) (B : Nat) (A : Option Addr) (len : Nat) (l : List (List UInt8)) : Prop :=
  l.length = len ∧ (0 < len → ∃ b off, A = some ⟨b, off, none⟩ ∧ b < B ∧ ∀ (j : Nat) (xs : List UInt8), l[j]? = some xs →
    ∃ A' n' c', w.cell? ⟨b, off + j, none⟩ = some (.slice A' n' c') ∧ n' ≤ c' ∧ c' ≤ maxLen ∧ Rd w B A' n' xs)
section
variable {w w' : World} {B B' len : Nat} {A : Option Addr} {l : List (List UInt8)}
theorem LsAt.size (h : LsAt w B A len l) : l.length = len := h.1
theorem LsAt.nil_ (A : Option Addr) : LsAt w B A 0 [] := ⟨rfl, fun h => absurd h (by omega)⟩
theorem LsAt.keep (h : LsAt w B A len l) (hk : ∀ p : Addr, p.block < B → w'.cell? p = w.cell? p) : LsAt w' B A len l :=
  ⟨h.1, fun hn => by
    obtain ⟨b, off, e, hb, hc⟩ := h.2 hn
    refine ⟨b, off, e, hb, fun j p hp => ?_⟩
    obtain ⟨A', l', c', h2, h4, h5, h3⟩ := hc j p hp
    exact ⟨A', l', c', (hk _ hb).trans h2, h4, h5, h3.keep hk⟩⟩
theorem LsAt.below (h : LsAt w B A len l) (hb : Below B w w') : LsAt w' B A len l := h.keep fun _ hp => hb.cell hp
theorem LsAt.alloc (h : LsAt w B A len l) (hB : B ≤ w.heap.size) (o : Obj) : LsAt (w.alloc o) B A len l := h.keep fun p hp => World.cell?_alloc_lt w o p (by omega)
theorem LsAt.drewN (h : LsAt w B A len l) (k : Nat) : LsAt (w.drewN k) B A len l := h.keep fun _ _ => rfl
theorem LsAt.more (h : LsAt w B A len l) (hB : B ≤ B') : LsAt w B' A len l :=
  ⟨h.1, fun hn => by
    obtain ⟨b, off, e, hb, hc⟩ := h.2 hn
    refine ⟨b, off, e, by omega, fun j p hp => ?_⟩
    obtain ⟨A', l', c', h2, h4, h5, h3⟩ := hc j p hp
    exact ⟨A', l', c', h2, h4, h5, h3.more hB⟩⟩
theorem LsAt.take (h : LsAt w B A len l) {k : Nat} (hk : k ≤ len) : LsAt w B A k (l.take k) := by
  refine ⟨by rw [List.length_take, h.1]; omega, fun h0 => ?_⟩
  obtain ⟨b, off, e, hb, hc⟩ := h.2 (by omega)
  refine ⟨b, off, e, hb, fun j x hx => hc j x ?_⟩
  rw [List.getElem?_take] at hx
  split at hx
  · exact hx
  · cases hx
end
/-- The cells of a row of byte slices read as these lists of bytes. -/
def CellsAt (w : World) (B : Nat) (cs : List Value) (l : List (List UInt8)) : Prop :=
  l.length = cs.length ∧ ∀ (j : Nat) (u : Value) (xs : List UInt8), cs[j]? = some u → l[j]? = some xs → ∃ A' n' c', u = .slice A' n' c' ∧ n' ≤ c' ∧ c' ≤ maxLen ∧ Rd w B A' n' xs
theorem CellsAt.nil_ (w : World) (B : Nat) : CellsAt w B [] [] := ⟨rfl, fun j u xs h _ => by simp at h⟩
theorem CellsAt.cons {w : World} {B n c : Nat} {A : Option Addr} {xs : List UInt8} {cs : List Value} {l : List (List UInt8)} (h : Rd w B A n xs) (hn : n ≤ c) (hc : c ≤ maxLen) (hl : CellsAt w B cs l) : CellsAt w B (.slice A n c :: cs) (xs :: l) :=
  ⟨by simp [hl.1], fun j u ys h1 h2 => by
    match j, h1, h2 with
    | 0, h1, h2 => cases h1; cases h2; exact ⟨A, n, c, rfl, hn, hc, h⟩
    | j + 1, h1, h2 => exact hl.2 j u ys (by simpa using h1) (by simpa using h2)⟩
/-- A block that was just laid: of these bytes. -/
theorem Rd.laid (w : World) (xs : List UInt8) (n : Nat) (hn : xs.length = n) : Rd (w.alloc (.cells (xs.map v8).toArray 5)) (w.heap.size + 1) (some ⟨w.heap.size, 0, none⟩) n xs := by
  subst hn
  exact (show Row8 (w.alloc (.cells (xs.map v8).toArray 5)) w.heap.size xs from heap_alloc_new w _).rd (by omega)
theorem CellsAt.one {w : World} {B n c : Nat} {A : Option Addr} {xs : List UInt8} (h : Rd w B A n xs) (hn : n ≤ c) (hc : c ≤ maxLen) : CellsAt w B [.slice A n c] [xs] := (CellsAt.nil_ w B).cons h hn hc
end
section
open Go.RowKit Go.Lib
theorem LsAt.at {w : World} {B n : Nat} {A : Option Addr} {l : List (List UInt8)} (h : LsAt w B A n l) {k : Nat} {xs : List UInt8} (hx : l[k]? = some xs) :
    ∃ b off A' n' c', A = some ⟨b, off, none⟩ ∧ w.cell? ⟨b, off + k, none⟩ = some (.slice A' n' c') ∧ Rd w B A' n' xs := by
  have hk := (List.getElem?_eq_some_iff.1 hx).1
  obtain ⟨b, off, e, _, hc⟩ := h.2 (by rw [← h.1]; omega)
  obtain ⟨A', n', c', h1, _, _, h2⟩ := hc k xs hx
  exact ⟨b, off, A', n', c', e, h1, h2⟩
end
section
open Go.RowKit Go.Lib
/-- A whole number as a cell's value. -/
def vI (x : Nat) : Value := .int .i64 (x : Int)
/-- The slice reads as these numbers. -/
def RdI (w : World) (B : Nat) (A : Option Addr) (n : Nat) (xs : List Nat) : Prop :=
  xs.length = n ∧ (0 < n → ∃ b off, A = some ⟨b, off, none⟩ ∧ b < B ∧ ∀ (j : Nat) (x : Nat), xs[j]? = some x → w.cell? ⟨b, off + j, none⟩ = some (vI x))
section
variable {w w' : World} {B B' n : Nat} {A : Option Addr} {xs : List Nat}
theorem RdI.len (h : RdI w B A n xs) : xs.length = n := h.1
theorem RdI.nil_ (A : Option Addr) : RdI w B A 0 [] := ⟨rfl, fun h => absurd h (by omega)⟩
theorem RdI.keep (h : RdI w B A n xs) (hk : ∀ p : Addr, p.block < B → w'.cell? p = w.cell? p) : RdI w' B A n xs :=
  ⟨h.1, fun hn => by
    obtain ⟨b, off, e, hb, hc⟩ := h.2 hn
    exact ⟨b, off, e, hb, fun j x hx => (hk _ hb).trans (hc j x hx)⟩⟩
theorem RdI.below (h : RdI w B A n xs) (hb : Below B w w') : RdI w' B A n xs := h.keep fun _ hp => hb.cell hp
theorem RdI.alloc (h : RdI w B A n xs) (hB : B ≤ w.heap.size) (o : Obj) : RdI (w.alloc o) B A n xs := h.keep fun p hp => World.cell?_alloc_lt w o p (by omega)
theorem RdI.addr (h : RdI w B A n xs) (hn : 0 < n) : ∃ b off, A = some ⟨b, off, none⟩ ∧ b < B := by
  obtain ⟨b, off, e, hb, _⟩ := h.2 hn
  exact ⟨b, off, e, hb⟩
theorem RdI.cell {b off : Nat} (h : RdI w B (some ⟨b, off, none⟩) n xs) {k x : Nat} (hx : xs[k]? = some x) : w.cell? ⟨b, off + k, none⟩ = some (.int .i64 (x : Int)) := by
  have := (List.getElem?_eq_some_iff.1 hx).1
  obtain ⟨b', off', e, _, hc⟩ := h.2 (by rw [← h.1]; omega)
  cases e
  exact hc k x hx
end
/-- The slice value v owns, in a row of the call's own from block 'base' on, these numbers. -/
def OwnI (w : World) (base : Nat) (v : Value) (xs : List Nat) : Prop := w.ownsRow base 3 1 v xs.length (xs.map vI)
section
variable {w w' : World} {base : Nat} {v : Value} {xs : List Nat}
theorem OwnI.nil_ (w : World) (base : Nat) : OwnI w base (.slice none 0 0) [] := World.ownsRow_nil w base 3 1
theorem OwnI.alloc (h : OwnI w base v xs) (o : Obj) : OwnI (w.alloc o) base v xs := World.ownsRow.alloc h o
theorem OwnI.lt (h : OwnI w base v xs) : ∀ g, v.ownBlock = some g → base ≤ g := fun g hg => (World.ownsRow.lt h g hg).1
theorem OwnI.sl (h : OwnI w base v xs) : ∃ A m c, v = .slice A m c ∧ m = xs.length ∧ m ≤ c ∧ c ≤ maxLen ∧ RdI w w.heap.size A m xs := by
  rcases h.2 with ⟨rfl, h0⟩ | ⟨g, cap, cur, rfl, hbg, hg, hnc, hcm, hcs, ht⟩
  · have : xs = [] := List.eq_nil_of_length_eq_zero h0
    subst this
    exact ⟨none, 0, 0, rfl, rfl, Nat.le_refl _, by simp [maxLen], RdI.nil_ _⟩
  · refine ⟨_, _, cap, rfl, rfl, hnc, hcm, rfl, fun _ => ⟨g, 0, rfl, (Array.getElem?_eq_some_iff.1 hg).1, fun j x hx => ?_⟩⟩
    have := World.ownsRow.cells h (g := g) rfl j (vI x) (by simp [hx])
    rw [add_plain] at this
    exact this
end
theorem OwnI.form {w : World} {base : Nat} {v : Value} {xs : List Nat} (h : OwnI w base v xs) : ∃ A m c, v = .slice A m c := by
  obtain ⟨A, m, c, e, _⟩ := h.sl
  exact ⟨A, m, c, e⟩
end
section
open Go.RowKit Go.Lib
end
section
open Go.RowKit Go.Lib
theorem below_setRow {B : Nat} {w0 w : World} (h : Below B w0 w) {g : Nat} (hg : B ≤ g) (ds : Array Value) : Below B w0 (w.setRow g ds) :=
  ⟨h.os, h.tape, h.output, by rw [World.setRow]; simpa using h.size, fun k hk => by rw [setRow_other w g k ds (by omega)]; exact h.block k hk⟩
/-- The cells of an address, of a header. -/
def adL (a : Ad) : List Value := .bool a.six :: a.b.map v8
theorem sixteen {xs : List UInt8} (h : xs.length = 16) : ∃ a b c d e f g i j k l m n o p q, xs = [a, b, c, d, e, f, g, i, j, k, l, m, n, o, p, q] := by
  match xs, h with
  | [a, b, c, d, e, f, g, i, j, k, l, m, n, o, p, q], _ => exact ⟨a, b, c, d, e, f, g, i, j, k, l, m, n, o, p, q, rfl⟩
theorem plain_int : Try.prog.plainKey 3 = true := by kernel_rfl
theorem Own8.frozen {w : World} {base g n c : Nat} {xs : List UInt8} (h : Own8 w base (.slice (some ⟨g, 0, none⟩) n c) xs) (j : Nat) : w.frozen? ⟨g, j, none⟩ = false := by
  rcases h.2 with ⟨e, _⟩ | ⟨g', cap', cur, e, _, hg, _⟩
  · cases e
  · cases e
    exact frozen_of_row w g j cur _ hg
theorem adL_len {a : Ad} (h : a.b.length = 16) : (adL a).length = 17 := by simp [adL, h]
theorem part_int (w : World) {cs : List Value} {v : Value} {o : Nat} (h : cs[o]? = some v) : (part 3 cs.toArray o).run Try.prog w = .ok v w := run_part_plain w plain_int (by simpa using h)
end
end Go.Proofs.Ytljmegmklfohjaa
