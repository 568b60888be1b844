/-
  A whole element stored anew in an owned slice.
-/
import Derived.Test.YteljijjebocbiaaGSl
import Derived.Test.YteljijjebocbiaaGBlk
import Derived.Deep.MidRow
import Derived.Deep.Cut
namespace Go.Proofs.Yteljijjebocbiaa
set_option maxRecDepth 100000
open Go.RowKit Go.Lib

theorem gb2 {a b c : World} {row : Option Nat} (h1 : a.grownBy b row) (h2 : b.grownBy c row) : a.grownBy c row :=
  ⟨h2.os.trans h1.os, h2.tape.trans h1.tape, h2.output.trans h1.output, Nat.le_trans h1.size h2.size, fun k hk hne => (h2.block k (Nat.lt_of_lt_of_le hk h1.size) hne).trans (h1.block k hk hne)⟩
theorem gb_setCells (g : Nat) : ∀ (vs : List Value) (o : Nat) (w : World), w.grownBy (w.setCells g o vs) (some g)
  | [], _, w => World.grownBy.refl w _
  | v :: vs, o, w => gb2 (gb_setCell w g o v) (gb_setCells g vs (o + 1) _)
theorem there_own {α : Type} {E : Enc α} {w : World} {base g n c : Nat} {xs : List α} (h : OwnG E w base (.slice (some ⟨g, 0, none⟩) n c) xs) : w.there g 0 (n * E.k) := fun j hj => by
  obtain rfl := h.lenEq
  rw [Nat.zero_add]
  refine ⟨?_, h.frozen j⟩
  have h1 := World.ownsRow.cellAt h j hj
  rw [h1, List.getElem?_eq_getElem (by rw [Enc.cells_len]; exact hj)]
  rfl
/-- A whole element stored: the world behind it a letter. -/
theorem wpList_storeRowU {α : Type} (E : Enc α) {w : World} {ops : Array Oper} {rest : List Oper} {op : Oper} {a : Act} {Q : Exit → Act → World → Prop} (hgd : op.guard = none) (x y : Operand) (ho : op.op = .store E.T x y)
    (g o N : Nat) (hx : a.eval x = .pointer (some ⟨g, o, none⟩)) (e : α) (C : Array Value) (hC : (E.f e).toArray = C) (hy : a.eval y = .agg C) (hth : w.there g 0 N) (hlt : o + E.k ≤ N)
    (h : ∀ w', w'.there g 0 N → w.grownBy w' (some g) → wpList Try.prog ops Q rest (a.put op.dst undef) w') : wpList Try.prog ops Q (op :: rest) a w := by
  subst hC
  obtain ⟨i0, hi, _, hz1, _⟩ := E.parts
  refine wpList_store_mid hgd E.T x y ho g o (E.f e).toArray hx hy (fun j hj => ?_) (by rw [hi, List.size_toArray, E.len]; show some i0.size = _; rw [hz1]) (all_oneCell_toArray (E.one e)) (h _ (World.there_setCells hth g o _) (gb_setCells g _ o w))
  rw [List.size_toArray, E.len] at hj
  have := hth (o + j) (by omega)
  rwa [Nat.zero_add] at this
end Go.Proofs.Yteljijjebocbiaa
