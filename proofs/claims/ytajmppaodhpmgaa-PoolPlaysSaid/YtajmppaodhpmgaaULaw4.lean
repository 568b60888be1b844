/-
  A whole element stored anew in an owned slice.
  A whole element stored anew in an owned slice (PoolKeeps): see StRow.
  What PoolPlays holds a pool against: no program.
-/
import Derived.Test.YtajmppaodhpmgaaGSl
import Derived.Test.YtajmppaodhpmgaaGBlk
import Derived.Deep.MidRow
import Derived.Deep.Cut
import Derived.Test.YtajmppaodhpmgaaULaw
namespace Go.Proofs.Ytajmppaodhpmgaa
set_option maxRecDepth 100000
open Go.RowKit Go.Lib

theorem gb2 {a b c : World} {row : Option Nat} (h1 : a.grownBy b row) (h2 : b.grownBy c row) : a.grownBy c row :=
  ⟨h2.os.trans h1.os, h2.tape.trans h1.tape, h2.output.trans h1.output, Nat.le_trans h1.size h2.size, fun k hk hne => (h2.block k (Nat.lt_of_lt_of_le hk h1.size) hne).trans (h1.block k hk hne)⟩
theorem gb_setCells (g : Nat) : ∀ (vs : List Value) (o : Nat) (w : World), w.grownBy (w.setCells g o vs) (some g)
  | [], _, w => World.grownBy.refl w _
  | v :: vs, o, w => gb2 (gb_setCell w g o v) (gb_setCells g vs (o + 1) _)
theorem there_own {α : Type} {E : Enc α} {w : World} {base g n c : Nat} {xs : List α} (h : OwnG E w base (.slice (some ⟨g, 0, none⟩) n c) xs) : w.there g 0 (n * E.k) := fun j hj => by
  obtain rfl := h.lenEq
  rw [Nat.zero_add]
  refine ⟨?_, h.frozen j⟩
  have h1 := World.ownsRow.cellAt h j hj
  rw [h1, List.getElem?_eq_getElem (by rw [Enc.cells_len]; exact hj)]
  rfl
/-- A whole element stored: the world behind it a letter. -/
theorem wpList_storeRowU {α : Type} (E : Enc α) {w : World} {ops : Array Oper} {rest : List Oper} {op : Oper} {a : Act} {Q : Exit → Act → World → Prop} (hgd : op.guard = none) (x y : Operand) (ho : op.op = .store E.T x y)
    (g o N : Nat) (hx : a.eval x = .pointer (some ⟨g, o, none⟩)) (e : α) (C : Array Value) (hC : (E.f e).toArray = C) (hy : a.eval y = .agg C) (hth : w.there g 0 N) (hlt : o + E.k ≤ N)
    (h : ∀ w', w'.there g 0 N → w.grownBy w' (some g) → wpList Try.prog ops Q rest (a.put op.dst undef) w') : wpList Try.prog ops Q (op :: rest) a w := by
  subst hC
  obtain ⟨i0, hi, _, hz1, _⟩ := E.parts
  refine wpList_store_mid hgd E.T x y ho g o (E.f e).toArray hx hy (fun j hj => ?_) (by rw [hi, List.size_toArray, E.len]; show some i0.size = _; rw [hz1]) (all_oneCell_toArray (E.one e)) (h _ (World.there_setCells hth g o _) (gb_setCells g _ o w))
  rw [List.size_toArray, E.len] at hj
  have := hth (o + j) (by omega)
  rwa [Nat.zero_add] at this
end Go.Proofs.Ytajmppaodhpmgaa

namespace Go.Proofs.Ytajmppaodhpmgaa
set_option maxRecDepth 100000
open Go.RowKit Go.Lib

def wA (o : OpU) (b : Bk) : Bk := if o.kind = 1 then o.b else b
def wB (o : OpU) (b : Bk) : Bk := if o.kind = 3 then { b with wt := o.wt, hw := o.hw } else b
def wC (o : OpU) (b : Bk) : Bk := if o.kind = 4 ∨ o.kind = 5 then { b with dr := decide (o.kind = 4) } else b
theorem plain_of {b : Bk} (h : rightBk b = true) : plainW b.wt = b.wt := by
  refine plain_id b.hw ?_
  unfold rightBk at h
  simp only [Bool.and_eq_true, Bool.not_eq_true'] at h
  exact h.2
/-- What is found of the name, ahead and behind, and what it should be. -/
theorem plays_own {p : Pl} (hp : RightP p) {o : OpU} (he : o.err p = 0) :
    ((findB p.l o.name).isSome == (o.kind == 1)) = false ∧ ((findB (doP p o).l o.name).isSome == (o.kind == 2)) = false ∧
    (findB (doP p o).l o.name = none ∨ findB (doP p o).l o.name = some (wC o (wB o (wA o ((findB p.l o.name).getD bk0)))).plain) := by
  rcases do_own hp he with ⟨hk, h0, h1⟩ | ⟨hk, ⟨b, h0⟩, h1⟩ | ⟨hk3, hk5, b, h0, h1, _, _⟩
  · rw [h0, h1, hk]
    refine ⟨rfl, rfl, .inr ?_⟩
    unfold wC wB wA
    rw [if_pos hk, if_neg (by omega), if_neg (by omega)]
  · rw [h0, h1, hk]
    exact ⟨rfl, rfl, .inl rfl⟩
  · rw [h0, h1, beq_eq_false_iff_ne.2 (show o.kind ≠ 1 by omega), beq_eq_false_iff_ne.2 (show o.kind ≠ 2 by omega)]
    refine ⟨rfl, rfl, .inr ?_⟩
    have hw := plain_of (hp.each b (find_some h0).1)
    congr 1
    show o.set b = (wC o (wB o (wA o b))).plain
    unfold wC wB wA
    rw [if_neg (show ¬ o.kind = 1 by omega)]
    by_cases h3 : o.kind = 3
    · rw [if_pos h3, if_neg (by omega), set_wt h3]
      rfl
    · rw [if_neg h3, if_pos (by omega), set_dr h3, plain_same]
      exact hw
theorem do_ver {p : Pl} {o : OpU} (he : o.err p = 0) : (doP p o).ver = p.ver + 1 := by rw [do_yes he]
theorem do_more {p : Pl} (hp : RightP p) (o : OpU) : (doP p o).l.length ≤ p.l.length + 1 := by
  by_cases he : o.err p = 0
  · have := do_len hp he
    split at this
    · omega
    · split at this <;> omega
  · rw [do_no he]
    omega
theorem few_o {l : List OpU} (h : fewO l = true) : l.length ≤ 60 ∧ ∀ o, o ∈ l → o.nm.length ≤ 60 ∧ o.b.nm.length ≤ 60 := (fewO_iff l).1 h
theorem name_few {o : OpU} (h : o.nm.length ≤ 60 ∧ o.b.nm.length ≤ 60) : o.name.length ≤ 1000 := by
  unfold OpU.name
  split <;> omega
theorem fnd_getP (r : Option Bk) : fndV r = bkC (r.getD bk0) := by
  cases r <;> rfl
end Go.Proofs.Ytajmppaodhpmgaa
