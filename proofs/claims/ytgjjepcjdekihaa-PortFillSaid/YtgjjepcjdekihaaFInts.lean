/-
  Slices of whole numbers that a call owns, and what they read as; a number appended.
-/
import Derived.Test.YtgjjepcjdekihaaCText
import Derived.IntWalk
namespace Go.Proofs.Ytgjjepcjdekihaa
open Go.RowKit Go.Lib

/-- A whole number as a cell's value. -/
def vI (x : Nat) : Value := .int .i64 (x : Int)
/-- The slice reads as these numbers. -/
def RdI (w : World) (B : Nat) (A : Option Addr) (n : Nat) (xs : List Nat) : Prop :=
  xs.length = n ∧ (0 < n → ∃ b off, A = some ⟨b, off, none⟩ ∧ b < B ∧ ∀ (j : Nat) (x : Nat), xs[j]? = some x → w.cell? ⟨b, off + j, none⟩ = some (vI x))
section
variable {w w' : World} {B B' n : Nat} {A : Option Addr} {xs : List Nat}
theorem RdI.len (h : RdI w B A n xs) : xs.length = n := h.1
theorem RdI.nil_ (A : Option Addr) : RdI w B A 0 [] := ⟨rfl, fun h => absurd h (by omega)⟩
theorem RdI.keep (h : RdI w B A n xs) (hk : ∀ p : Addr, p.block < B → w'.cell? p = w.cell? p) : RdI w' B A n xs :=
  ⟨h.1, fun hn => by
    obtain ⟨b, off, e, hb, hc⟩ := h.2 hn
    exact ⟨b, off, e, hb, fun j x hx => (hk _ hb).trans (hc j x hx)⟩⟩
theorem RdI.below (h : RdI w B A n xs) (hb : Below B w w') : RdI w' B A n xs := h.keep fun _ hp => hb.cell hp
theorem RdI.alloc (h : RdI w B A n xs) (hB : B ≤ w.heap.size) (o : Obj) : RdI (w.alloc o) B A n xs := h.keep fun p hp => World.cell?_alloc_lt w o p (by omega)
theorem RdI.addr (h : RdI w B A n xs) (hn : 0 < n) : ∃ b off, A = some ⟨b, off, none⟩ ∧ b < B := by
  obtain ⟨b, off, e, hb, _⟩ := h.2 hn
  exact ⟨b, off, e, hb⟩
theorem RdI.cell {b off : Nat} (h : RdI w B (some ⟨b, off, none⟩) n xs) {k x : Nat} (hx : xs[k]? = some x) : w.cell? ⟨b, off + k, none⟩ = some (.int .i64 (x : Int)) := by
  have := (List.getElem?_eq_some_iff.1 hx).1
  obtain ⟨b', off', e, _, hc⟩ := h.2 (by rw [← h.1]; omega)
  cases e
  exact hc k x hx
end

/-- The slice value v owns, in a row of the call's own from block 'base' on, these numbers. -/
def OwnI (w : World) (base : Nat) (v : Value) (xs : List Nat) : Prop := w.ownsRow base 3 1 v xs.length (xs.map vI)
section
variable {w w' : World} {base : Nat} {v : Value} {xs : List Nat}
theorem OwnI.nil_ (w : World) (base : Nat) : OwnI w base (.slice none 0 0) [] := World.ownsRow_nil w base 3 1
theorem OwnI.alloc (h : OwnI w base v xs) (o : Obj) : OwnI (w.alloc o) base v xs := World.ownsRow.alloc h o
theorem OwnI.lt (h : OwnI w base v xs) : ∀ g, v.ownBlock = some g → base ≤ g := fun g hg => (World.ownsRow.lt h g hg).1
theorem OwnI.sl (h : OwnI w base v xs) : ∃ A m c, v = .slice A m c ∧ m = xs.length ∧ m ≤ c ∧ c ≤ maxLen ∧ RdI w w.heap.size A m xs := by
  rcases h.2 with ⟨rfl, h0⟩ | ⟨g, cap, cur, rfl, hbg, hg, hnc, hcm, hcs, ht⟩
  · have : xs = [] := List.eq_nil_of_length_eq_zero h0
    subst this
    exact ⟨none, 0, 0, rfl, rfl, Nat.le_refl _, by simp [maxLen], RdI.nil_ _⟩
  · refine ⟨_, _, cap, rfl, rfl, hnc, hcm, rfl, fun _ => ⟨g, 0, rfl, (Array.getElem?_eq_some_iff.1 hg).1, fun j x hx => ?_⟩⟩
    have := World.ownsRow.cells h (g := g) rfl j (vI x) (by simp [hx])
    rw [add_plain] at this
    exact this
end
theorem infoI : (Try.prog.info? 3).map (fun i => (i.zero, i.size, i.bytes)) = some (some (.int .i64 0), 1, 8) := by kernel_rfl
theorem OwnI.form {w : World} {base : Nat} {v : Value} {xs : List Nat} (h : OwnI w base v xs) : ∃ A m c, v = .slice A m c := by
  obtain ⟨A, m, c, e, _⟩ := h.sl
  exact ⟨A, m, c, e⟩

/-- append of one number, laid in a block of its own, onto an owned slice of numbers. -/
theorem run_appendI (w : World) (ty : TypeId) (base : Nat) (v : Value) (xs : List Nat) (hown : OwnI w base v xs) (x g : Nat) (hg : w.heap[g]? = some (.cells #[vI x] 3 (0, 0))) (hlen : xs.length ≤ 1000000) (hbase : base ≤ w.heap.size) :
    ∃ v' w', (Builtin.append_ #[64, 64] ty #[v, .slice (some ⟨g, 0, none⟩) 1 1]).run Try.prog w = .ok v' w' ∧ OwnI w' base v' (xs ++ [x]) ∧ w.grownBy w' v.ownBlock ∧ (v'.ownBlock = v.ownBlock ∨ v'.ownBlock = some w.heap.size) := by
  obtain ⟨i0, hi, hz0, hz1, hz2⟩ := info_parts infoI
  have c0 : w.cell? ⟨g, 0, none⟩ = some (vI x) := by rw [cell_of_row w g 0 _ _ (0, 0) hg]; rfl
  obtain ⟨v', w', h1, h2, h3, _, h5⟩ := run_append_own_at (P := Try.prog) w base 64 ty 3 i0 (.int .i64 0) 1 8 Try.underlying64 hi hz0 hz1 hz2 rfl (by decide) v xs.length (xs.map vI) hown ⟨g, 0, none⟩ 1 1 [vI x] rfl
    (by
      intro j u hj
      match j, hj with
      | 0, hj => simp at hj; subst hj; rw [add_plain]; exact c0)
    (by
      intro u hu
      simp at hu
      subst hu
      rfl) (by unfold maxLen; omega) (by omega) hbase
  refine ⟨v', w', h1, ?_, h3, h5⟩
  unfold OwnI
  rw [List.length_append, List.map_append]
  exact h2

/-- The same, at an operation of a walk. -/
theorem wpList_appendI {w : World} {ops : Array Oper} {rest : List Oper} {o : Oper} {a : Act} {Q : Exit → Act → World → Prop} (hgd : o.guard = none) (s y : Operand)
    (ho : o.op = .call { callee := .builtin .append, args := #[s, y], argTypes := #[64, 64] })
    (base : Nat) (v : Value) (xs : List Nat) (hs : a.eval s = v) (hown : OwnI w base v xs) (x g : Nat) (hy : a.eval y = .slice (some ⟨g, 0, none⟩) 1 1) (hg : w.heap[g]? = some (.cells #[vI x] 3 (0, 0)))
    (hlen : xs.length ≤ 1000000) (hbase : base ≤ w.heap.size)
    (h : ∀ v' w', OwnI w' base v' (xs ++ [x]) → w.grownBy w' v.ownBlock → (v'.ownBlock = v.ownBlock ∨ v'.ownBlock = some w.heap.size) → wpList Try.prog ops Q rest (a.put o.dst v') w') : wpList Try.prog ops Q (o :: rest) a w := by
  refine wpList_plain hgd fun K hK => ?_
  obtain ⟨v', w', hrun, h2, h3, h4⟩ := run_appendI w o.type base v xs hown x g hg hlen hbase
  unfold Oper.wp execOp
  simp only [ho, resolve, invoke, builtin, Sem.run_bind, Sem.run_pure, Result.andThen_ok, List.map_toArray, List.map_cons, List.map_nil, hs, hy, hrun]
  exact hK _ _ (h v' w' h2 h3 h4)
end Go.Proofs.Ytgjjepcjdekihaa
