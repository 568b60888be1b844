/-
  Plain lemmas on byte slices in memory: what a slice value that came in, or that a call made, reads as. No function of the program is walked here.
-/
import Derived.Test.YtcimgbjliamaiaaRows
import Derived.WalkKit
import Derived.Below
import Derived.Deep.Draws
import Derived.Lib.Hide
import Derived.Maps.AppendAt
import Derived.Laws.OwnMore
import Derived.OwnWalkIn
namespace Go.Proofs.Ytcimgbjliamaiaa
open Go.RowKit

/-- A byte as a cell's value. -/
def v8 (x : UInt8) : Value := .int .u8 (x.toNat : Int)

theorem add_plain (b off j : Nat) : (⟨b, off, none⟩ : Addr).add j = ⟨b, off + j, none⟩ := by unfold Addr.add; split <;> simp_all

/-- The slice of address A and length n reads as the bytes xs; where it has any, they lie in a block below B. -/
def Rd (w : World) (B : Nat) (A : Option Addr) (n : Nat) (xs : List UInt8) : Prop :=
  xs.length = n ∧ (0 < n → ∃ b off, A = some ⟨b, off, none⟩ ∧ b < B ∧ ∀ (j : Nat) (x : UInt8), xs[j]? = some x → w.cell? ⟨b, off + j, none⟩ = some (v8 x))

section
variable {w w' : World} {B B' n : Nat} {A : Option Addr} {xs : List UInt8}

theorem Rd.len (h : Rd w B A n xs) : xs.length = n := h.1
theorem Rd.nil_ (A : Option Addr) : Rd w B A 0 [] := ⟨rfl, fun h => absurd h (by omega)⟩
theorem Rd.keep (h : Rd w B A n xs) (hk : ∀ p : Addr, p.block < B → w'.cell? p = w.cell? p) : Rd w' B A n xs :=
  ⟨h.1, fun hn => by
    obtain ⟨b, off, e, hb, hc⟩ := h.2 hn
    exact ⟨b, off, e, hb, fun j x hx => (hk _ hb).trans (hc j x hx)⟩⟩
theorem Rd.more (h : Rd w B A n xs) (hB : B ≤ B') : Rd w B' A n xs :=
  ⟨h.1, fun hn => by
    obtain ⟨b, off, e, hb, hc⟩ := h.2 hn
    exact ⟨b, off, e, by omega, hc⟩⟩
theorem Rd.below (h : Rd w B A n xs) (hb : Below B w w') : Rd w' B A n xs := h.keep fun _ hp => hb.cell hp
theorem Rd.drew (h : Rd w B A n xs) : Rd w.drew B A n xs := h
theorem Rd.drewN (h : Rd w B A n xs) (k : Nat) : Rd (w.drewN k) B A n xs := h
theorem Rd.alloc (h : Rd w B A n xs) (hB : B ≤ w.heap.size) (o : Obj) : Rd (w.alloc o) B A n xs := h.keep fun p hp => World.cell?_alloc_lt w o p (by omega)
theorem Rd.setCell (h : Rd w B A n xs) {p : Addr} (hB : B ≤ p.block) (u : Value) : Rd (w.setCell p u) B A n xs :=
  h.keep fun q hq => World.cell?_setCell_other w p q u (fun e => by subst e; omega)
theorem Rd.grown (h : Rd w B A n xs) {row : Option Nat} (hg : w.grownBy w' row) (hB : B ≤ w.heap.size) (hr : ∀ g, row = some g → B ≤ g) : Rd w' B A n xs :=
  h.keep fun p hp => World.cell?_of_block (hg.block p.block (by omega) (fun e => by have := hr _ e.symm; omega))
theorem Rd.cell {b off : Nat} (h : Rd w B (some ⟨b, off, none⟩) n xs) {k : Nat} (hk : k < n) : w.cell? ⟨b, off + k, none⟩ = some (.int .u8 ((xs[k]'(by rw [h.1]; exact hk)).toNat : Int)) := by
  obtain ⟨b', off', e, _, hc⟩ := h.2 (by omega)
  cases e
  exact hc k _ (List.getElem?_eq_getElem _)
theorem Rd.addr (h : Rd w B A n xs) (hn : 0 < n) : ∃ b off, A = some ⟨b, off, none⟩ ∧ b < B := by
  obtain ⟨b, off, e, hb, _⟩ := h.2 hn
  exact ⟨b, off, e, hb⟩
end

/-- The slice value v owns, in a row of bytes of the call's own from block 'base' on, the bytes xs. -/
def Own8 (w : World) (base : Nat) (v : Value) (xs : List UInt8) : Prop := w.ownsRow base 5 1 v xs.length (xs.map v8)

section
variable {w w' : World} {base : Nat} {v : Value} {xs : List UInt8}
theorem Own8.nil_ (w : World) (base : Nat) : Own8 w base (.slice none 0 0) [] := World.ownsRow_nil w base 5 1
/-- What is owned reads so. -/
theorem Own8.rd (h : Own8 w base v xs) : ∃ A c, v = .slice A xs.length c ∧ xs.length ≤ c ∧ c ≤ maxLen ∧ Rd w w.heap.size A xs.length xs ∧ (0 < xs.length → ∃ g, A = some ⟨g, 0, none⟩ ∧ base ≤ g) := by
  rcases h.2 with ⟨rfl, h0⟩ | ⟨g, cap, cur, rfl, hbg, hg, hnc, hcm, hcs, ht⟩
  · have : xs = [] := List.eq_nil_of_length_eq_zero h0
    subst this
    exact ⟨none, 0, rfl, by simp, by simp [maxLen], Rd.nil_ _, fun h => absurd h (by simp)⟩
  · refine ⟨some ⟨g, 0, none⟩, cap, rfl, hnc, hcm, ⟨rfl, fun _ => ⟨g, 0, rfl, (Array.getElem?_eq_some_iff.1 hg).1, fun j x hx => ?_⟩⟩, fun _ => ⟨g, rfl, hbg⟩⟩
    have := World.ownsRow.cells h (g := g) rfl j (v8 x) (by simp [hx])
    rw [add_plain] at this
    exact this
theorem Own8.alloc (h : Own8 w base v xs) (o : Obj) : Own8 (w.alloc o) base v xs := World.ownsRow.alloc h o
theorem Own8.drew (h : Own8 w base v xs) : Own8 w.drew base v xs := h
theorem Own8.below (h : Own8 w base v xs) (hb : Below w.heap.size w w') : Own8 w' base v xs := by
  refine ⟨h.1, ?_⟩
  rcases h.2 with hn | ⟨g, cap, cur, rfl, hbg, hg, rest⟩
  · exact .inl hn
  · exact .inr ⟨g, cap, cur, rfl, hbg, (hb.block g (Array.getElem?_eq_some_iff.1 hg).1).trans hg, rest⟩
theorem Own8.base_le (h : Own8 w base v xs) {base' : Nat} (hle : base' ≤ base) : Own8 w base' v xs := by
  refine ⟨h.1, ?_⟩
  rcases h.2 with hn | ⟨g, cap, cur, rfl, hbg, rest⟩
  · exact .inl hn
  · exact .inr ⟨g, cap, cur, rfl, by omega, rest⟩
end

/-- Block g is a row of just the bytes xs. -/
def Row8 (w : World) (g : Nat) (xs : List UInt8) : Prop := w.heap[g]? = some (.cells (xs.map v8).toArray 5 (0, 0))

section
variable {w w' : World} {g : Nat} {xs : List UInt8}
theorem Row8.lt (h : Row8 w g xs) : g < w.heap.size := (Array.getElem?_eq_some_iff.1 h).1
theorem Row8.cell (h : Row8 w g xs) {i : Nat} {x : UInt8} (hx : xs[i]? = some x) : w.cell? ⟨g, i, none⟩ = some (v8 x) := by
  rw [cell_of_row w g i _ _ (0, 0) h]; simp [hx]
theorem Row8.frozen (h : Row8 w g xs) (i : Nat) : w.frozen? ⟨g, i, none⟩ = false := by
  unfold Row8 at h; simp [World.frozen?, h]
theorem madeCells8 (c : Nat) : madeCells #[.int .u8 0] c = ((List.replicate c (0 : UInt8)).map v8).toArray := by
  apply Array.ext
  · simp [madeCells]
  · intro i h1 h2
    simp [madeCells, v8, Nat.mod_one]
theorem Row8.made (w : World) (c : Nat) : Row8 (w.alloc (.cells (madeCells #[.int .u8 0] c) 5)) w.heap.size (List.replicate c 0) := by
  rw [madeCells8]; exact heap_alloc_new w _
theorem Row8.alloc (h : Row8 w g xs) (o : Obj) : Row8 (w.alloc o) g xs := (Below.heap_alloc w o g h.lt).trans h
theorem Row8.drew (h : Row8 w g xs) : Row8 w.drew g xs := h
theorem Row8.set (h : Row8 w g xs) (i : Nat) (x : UInt8) : Row8 (w.setCell ⟨g, i, none⟩ (.int .u8 (x.toNat : Int))) g (xs.set i x) := by
  unfold Row8 at h ⊢
  simp [World.setCell, Array.getElem?_modify, h, List.map_set, v8]
theorem Row8.far (h : Row8 w g xs) {p : Addr} (hp : g ≠ p.block) (u : Value) : Row8 (w.setCell p u) g xs := (Below.heap_setCell w p u g hp).trans h
theorem Row8.own (h : Row8 w g xs) {base n : Nat} (hb : base ≤ g) (hn : n ≤ xs.length) (hm : xs.length ≤ maxLen) : Own8 w base (.slice (some ⟨g, 0, none⟩) n xs.length) (xs.take n) := by
  have e : (xs.take n).length = n := by simp; omega
  unfold Own8
  rw [e]
  exact ⟨by simp; omega, .inr ⟨g, xs.length, _, rfl, hb, h, hn, hm, by simp, by simp⟩⟩
theorem Row8.rd (h : Row8 w g xs) {B : Nat} (hB : g < B) : Rd w B (some ⟨g, 0, none⟩) xs.length xs :=
  ⟨rfl, fun _ => ⟨g, 0, rfl, hB, fun j x hx => by rw [Nat.zero_add]; exact h.cell hx⟩⟩
end

theorem info8 : (Try.prog.info? 5).map (fun i => (i.zero, i.size, i.bytes)) = some (some (.int .u8 0), 1, 1) := by kernel_rfl
theorem oneCell8 (xs : List UInt8) : ∀ u ∈ xs.map v8, u.oneCell' = true := by
  intro u hu
  obtain ⟨x, _, rfl⟩ := List.mem_map.1 hu
  rfl
theorem Rd.cells {w : World} {B n : Nat} {A : Option Addr} {xs : List UInt8} (h : Rd w B A n xs) (hn : 0 < n) : ∃ ad, A = some ad ∧ ∀ j v, (xs.map v8)[j]? = some v → w.cell? (ad.add j) = some v := by
  obtain ⟨b, off, e, _, hc⟩ := h.2 hn
  refine ⟨_, e, fun j v hv => ?_⟩
  rw [add_plain]
  rw [List.getElem?_map] at hv
  cases hx : xs[j]? with
  | none => rw [hx] at hv; cases hv
  | some x => rw [hx] at hv; cases hv; exact hc j x hx

section
variable {w : World} {x : UInt8}
/-- A slice of one byte that is laid in a block of its own. -/
theorem Row8.one (w : World) (x : UInt8) : Row8 (w.alloc (.cells #[.int .u8 (x.toNat : Int)] 5)) w.heap.size [x] := heap_alloc_new w _
theorem Rd.one (w : World) (x : UInt8) : Rd (w.alloc (.cells #[.int .u8 (x.toNat : Int)] 5)) (w.heap.size + 1) (some ⟨w.heap.size, 0, none⟩) 1 [x] := (Row8.one w x).rd (by omega)
end

theorem run_append8 (w : World) (ty : TypeId) (base : Nat) (v : Value) (xs : List UInt8) (hown : Own8 w base v xs) (B : Nat) (A : Option Addr) (m c : Nat) (ys : List UInt8) (hr : Rd w B A m ys) (hlen : xs.length + m ≤ 2000000000) (hbase : base ≤ w.heap.size) :
    ∃ v' w', (Builtin.append_ #[43, 43] ty #[v, .slice A m c]).run Try.prog w = .ok v' w' ∧ Own8 w' base v' (xs ++ ys) ∧ w.grownBy w' v.ownBlock ∧ (v'.ownBlock = v.ownBlock ∨ v'.ownBlock = some w.heap.size) := by
  obtain ⟨i0, hi, hz0, hz1, hz2⟩ := info_parts info8
  have go : ∀ ad, A = some ad → (∀ j u, (ys.map v8)[j]? = some u → w.cell? (ad.add j) = some u) → ∃ v' w', (Builtin.append_ #[43, 43] ty #[v, .slice A m c]).run Try.prog w = .ok v' w' ∧ Own8 w' base v' (xs ++ ys) ∧ w.grownBy w' v.ownBlock ∧ (v'.ownBlock = v.ownBlock ∨ v'.ownBlock = some w.heap.size) := by
    rintro ad rfl hc
    obtain ⟨v', w', h1, h2, h3, _, h5⟩ := run_append_own_at (P := Try.prog) w base 43 ty 5 i0 (.int .u8 0) 1 1 Try.underlying43 hi hz0 hz1 hz2 rfl (by decide) v xs.length (xs.map v8) hown ad m c (ys.map v8) (by rw [List.length_map, hr.len, Nat.mul_one]) hc (oneCell8 ys) (by unfold maxLen; omega) (by omega) hbase
    refine ⟨v', w', h1, ?_, h3, h5⟩
    unfold Own8
    rw [List.length_append, hr.len, List.map_append]
    exact h2
  rcases Nat.eq_zero_or_pos m with rfl | hm
  · obtain rfl : ys = [] := List.eq_nil_of_length_eq_zero hr.len
    cases A with
    | some ad => exact go ad rfl (fun j u hj => by simp at hj)
    | none =>
      refine ⟨v, w, ?_, by simpa using hown, World.grownBy.refl w _, .inl rfl⟩
      rcases hown.2 with ⟨rfl, h0⟩ | ⟨g, cap, cur, rfl, _, _, hnc, _⟩
      · simp [Builtin.append_, run_underlying Try.underlying43, sizeOf, typeInfo, hi, Builtin.lenOf, Builtin.firstCells]
      · simp [Builtin.append_, run_underlying Try.underlying43, sizeOf, typeInfo, hi, Builtin.lenOf, Builtin.firstCells, hnc, storeCells]
  · obtain ⟨ad, hA, hc⟩ := hr.cells hm
    exact go ad hA hc

/-- append onto an owned slice of bytes: a law for the walk. -/
theorem wpList_append8 {w : World} {ops : Array Oper} {rest : List Oper} {o : Oper} {a : Act} {Q : Exit → Act → World → Prop} (hgd : o.guard = none) (s x : Operand)
    (ho : o.op = .call { callee := .builtin .append, args := #[s, x], argTypes := #[43, 43] })
    (base : Nat) (v : Value) (xs : List UInt8) (hs : a.eval s = v) (hown : Own8 w base v xs) (B : Nat) (A : Option Addr) (m c : Nat) (ys : List UInt8) (hx : a.eval x = .slice A m c) (hr : Rd w B A m ys)
    (hlen : xs.length + m ≤ 2000000000) (hbase : base ≤ w.heap.size)
    (h : ∀ v' w', Own8 w' base v' (xs ++ ys) → w.grownBy w' v.ownBlock → (v'.ownBlock = v.ownBlock ∨ v'.ownBlock = some w.heap.size) → wpList Try.prog ops Q rest (a.put o.dst v') w') : wpList Try.prog ops Q (o :: rest) a w := by
  refine wpList_plain hgd fun K hK => ?_
  obtain ⟨v', w', hrun, h2, h3, h4⟩ := run_append8 w o.type base v xs hown B A m c ys hr hlen hbase
  unfold Oper.wp execOp
  simp only [ho, resolve, invoke, builtin, Sem.run_bind, Sem.run_pure, Result.andThen_ok, List.map_toArray, List.map_cons, List.map_nil, hs, hx, hrun]
  exact hK _ _ (h v' w' h2 h3 h4)

theorem Own8.lt {w : World} {base : Nat} {v : Value} {xs : List UInt8} (h : Own8 w base v xs) : ∀ g, v.ownBlock = some g → base ≤ g := fun g hg => (World.ownsRow.lt h g hg).1
theorem Own8.kept {w w' : World} {base : Nat} {v : Value} {xs : List UInt8} {row : Option Nat} (h : Own8 w base v xs) (hg : w.grownBy w' row) (hne : v.ownBlock = none ∨ v.ownBlock ≠ row) : Own8 w' base v xs := World.ownsRow.kept h hg hne

end Go.Proofs.Ytcimgbjliamaiaa
