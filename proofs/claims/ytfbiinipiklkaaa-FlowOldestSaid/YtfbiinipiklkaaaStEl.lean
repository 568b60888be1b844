/-
  A whole element stored anew in an owned slice.
  A whole element stored anew in an owned slice, and what the slice holds then. No program function is named here.
-/
import Derived.Test.YtfbiinipiklkaaaGSl
import Derived.Test.YtfbiinipiklkaaaGBlk
import Derived.Deep.MidRow
import Derived.Deep.Cut
namespace Go.Proofs.Ytfbiinipiklkaaa
set_option maxRecDepth 100000
open Go.RowKit Go.Lib

theorem gb2 {a b c : World} {row : Option Nat} (h1 : a.grownBy b row) (h2 : b.grownBy c row) : a.grownBy c row :=
  ⟨h2.os.trans h1.os, h2.tape.trans h1.tape, h2.output.trans h1.output, Nat.le_trans h1.size h2.size, fun k hk hne => (h2.block k (Nat.lt_of_lt_of_le hk h1.size) hne).trans (h1.block k hk hne)⟩
theorem gb_setCells (g : Nat) : ∀ (vs : List Value) (o : Nat) (w : World), w.grownBy (w.setCells g o vs) (some g)
  | [], _, w => World.grownBy.refl w _
  | v :: vs, o, w => gb2 (gb_setCell w g o v) (gb_setCells g vs (o + 1) _)
theorem there_own {α : Type} {E : Enc α} {w : World} {base g n c : Nat} {xs : List α} (h : OwnG E w base (.slice (some ⟨g, 0, none⟩) n c) xs) : w.there g 0 (n * E.k) := fun j hj => by
  obtain rfl := h.lenEq
  rw [Nat.zero_add]
  refine ⟨?_, h.frozen j⟩
  have h1 := World.ownsRow.cellAt h j hj
  rw [h1, List.getElem?_eq_getElem (by rw [Enc.cells_len]; exact hj)]
  rfl
/-- A whole element stored: the world behind it a letter. -/
theorem wpList_storeRowU {α : Type} (E : Enc α) {w : World} {ops : Array Oper} {rest : List Oper} {op : Oper} {a : Act} {Q : Exit → Act → World → Prop} (hgd : op.guard = none) (x y : Operand) (ho : op.op = .store E.T x y)
    (g o N : Nat) (hx : a.eval x = .pointer (some ⟨g, o, none⟩)) (e : α) (C : Array Value) (hC : (E.f e).toArray = C) (hy : a.eval y = .agg C) (hth : w.there g 0 N) (hlt : o + E.k ≤ N)
    (h : ∀ w', w'.there g 0 N → w.grownBy w' (some g) → wpList Try.prog ops Q rest (a.put op.dst undef) w') : wpList Try.prog ops Q (op :: rest) a w := by
  subst hC
  obtain ⟨i0, hi, _, hz1, _⟩ := E.parts
  refine wpList_store_mid hgd E.T x y ho g o (E.f e).toArray hx hy (fun j hj => ?_) (by rw [hi, List.size_toArray, E.len]; show some i0.size = _; rw [hz1]) (all_oneCell_toArray (E.one e)) (h _ (World.there_setCells hth g o _) (gb_setCells g _ o w))
  rw [List.size_toArray, E.len] at hj
  have := hth (o + j) (by omega)
  rwa [Nat.zero_add] at this
end Go.Proofs.Ytfbiinipiklkaaa
namespace Go.Proofs.Ytfbiinipiklkaaa
set_option maxRecDepth 100000
open Go.RowKit Go.Lib

def setsL : List Value → Nat → List Value → List Value
  | cs, _, [] => cs
  | cs, o, v :: vs => setsL (cs.set o v) (o + 1) vs
theorem setsL_mid : ∀ (vs pre old post : List Value), old.length = vs.length → setsL (pre ++ (old ++ post)) pre.length vs = pre ++ (vs ++ post)
  | [], pre, [], post, _ => rfl
  | [], _, _ :: _, _, h => by cases h
  | _ :: _, _, [], _, h => by cases h
  | v :: vs, pre, u :: old, post, h => by
    unfold setsL
    have e : (pre ++ (u :: old ++ post)).set pre.length v = (pre ++ [v]) ++ (old ++ post) := by
      rw [List.set_append_right _ _ (Nat.le_refl _), Nat.sub_self]
      simp
    rw [e]
    have := setsL_mid vs (pre ++ [v]) old post (by simpa using h)
    rw [List.length_append, List.length_singleton] at this
    rw [this]
    simp
theorem own_sets {base g n c k : Nat} {T : TypeId} : ∀ (vs : List Value) (o : Nat) (w : World) (cs : List Value), w.ownsRow base T k (.slice (some ⟨g, 0, none⟩) n c) n cs → (w.setCells g o vs).ownsRow base T k (.slice (some ⟨g, 0, none⟩) n c) n (setsL cs o vs)
  | [], _, _, _, h => h
  | v :: vs, o, _, _, h => own_sets vs (o + 1) _ _ (World.ownsRow.stored h o v).1
section
variable {α : Type} (E : Enc α)
theorem Enc.cells_at {xs : List α} {j : Nat} {x : α} (hx : xs[j]? = some x) : E.cells xs = E.cells (xs.take j) ++ (E.f x ++ E.cells (xs.drop (j + 1))) := by
  have h1 := (List.getElem?_eq_some_iff.1 hx)
  obtain ⟨h2, h3⟩ := h1
  have e : xs = xs.take j ++ x :: xs.drop (j + 1) := by
    rw [← h3, ← List.drop_eq_getElem_cons h2, List.take_append_drop]
  have e2 := congrArg E.cells e
  rw [e2, Enc.cells_append]
  rfl
theorem OwnG.storedE {w : World} {base g n c j : Nat} {xs : List α} {x : α} (h : OwnG E w base (.slice (some ⟨g, 0, none⟩) n c) xs) (hx : xs[j]? = some x) (y : α) :
    OwnG E (w.setCells g (j * E.k) (E.f y)) base (.slice (some ⟨g, 0, none⟩) n c) (xs.set j y) := by
  have hn := h.lenEq
  subst hn
  have hj := (List.getElem?_eq_some_iff.1 hx).1
  have h1 : w.ownsRow base E.T E.k (.slice (some ⟨g, 0, none⟩) xs.length c) xs.length (E.cells xs) := h
  have h2 := own_sets (E.f y) (j * E.k) w _ h1
  have hl : (E.cells (xs.take j)).length = j * E.k := by rw [Enc.cells_len, List.length_take, Nat.min_eq_left (Nat.le_of_lt hj)]
  have h3 : setsL (E.cells xs) (j * E.k) (E.f y) = E.cells (xs.set j y) := by
    rw [E.cells_at hx, E.cells_at (xs := xs.set j y) (j := j) (x := y) (List.getElem?_set_self hj), ← hl, setsL_mid _ _ _ _ (by rw [E.len, E.len])]
    rw [List.take_set_of_le (Nat.le_refl _), List.drop_set_of_lt (Nat.lt_succ_self _)]
  rw [h3] at h2
  unfold OwnG
  rw [List.length_set]
  exact h2
/-- A whole element stored: the world behind it a letter, the slice owned still. -/
theorem wpList_storeEG {w : World} {ops : Array Oper} {rest : List Oper} {op : Oper} {a : Act} {Q : Exit → Act → World → Prop} (hgd : op.guard = none) (x y : Operand) (ho : op.op = .store E.T x y)
    (g j o : Nat) (hq : o = j * E.k) (hx : a.eval x = .pointer (some ⟨g, o, none⟩)) (e : α) (C : Array Value) (hC : (E.f e).toArray = C) (hy : a.eval y = .agg C) (xs : List α) (n c base : Nat) (hown : OwnG E w base (.slice (some ⟨g, 0, none⟩) n c) xs) (e0 : α) (he : xs[j]? = some e0)
    (h : ∀ w', OwnG E w' base (.slice (some ⟨g, 0, none⟩) n c) (xs.set j e) → w.grownBy w' (some g) → wpList Try.prog ops Q rest (a.put op.dst undef) w') : wpList Try.prog ops Q (op :: rest) a w := by
  subst hC hq
  obtain ⟨i0, hi, _, hz1, _⟩ := E.parts
  have hn := hown.lenEq
  have hj := (List.getElem?_eq_some_iff.1 he).1
  have hth := there_own hown
  have hlt : j * E.k + E.k ≤ n * E.k := by rw [hn, ← Nat.succ_mul]; exact Nat.mul_le_mul_right _ hj
  refine wpList_store_mid hgd E.T x y ho g (j * E.k) (E.f e).toArray hx hy (fun i hi2 => ?_) (by rw [hi, List.size_toArray, E.len]; show some i0.size = _; rw [hz1]) (all_oneCell_toArray (E.one e)) (h _ (OwnG.storedE E hown he e) (gb_setCells g _ _ w))
  rw [List.size_toArray, E.len] at hi2
  have := hth (j * E.k + i) (by omega)
  rwa [Nat.zero_add] at this
end
end Go.Proofs.Ytfbiinipiklkaaa
