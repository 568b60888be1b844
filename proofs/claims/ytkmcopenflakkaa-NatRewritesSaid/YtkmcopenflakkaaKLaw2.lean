/-
  More of what the laws share: bytes stored into a slice of the call's own, told by what stays; bytes turned.
-/
import Derived.Test.YtkmcopenflakkaaKLaw
namespace Go.Proofs.Ytkmcopenflakkaa
set_option maxRecDepth 100000
open Go.RowKit Go.Lib
theorem xor8 (x y : UInt8) : bits .xor .u8 (x.toNat : Int) (y.toNat : Int) = ((x ^^^ y).toNat : Int) := by
  rw [u8_xor_nat _ _ x.toNat_lt y.toNat_lt, UInt8.toNat_xor]
theorem or8 (x y : UInt8) : bits .or .u8 (x.toNat : Int) (y.toNat : Int) = ((x ||| y).toNat : Int) := by
  rw [u8_or_nat _ _ x.toNat_lt y.toNat_lt, UInt8.toNat_or]
/-- A byte stored into an owned slice: only its block changes. -/
theorem wpList_storeOG {w : World} {ops : Array Oper} {rest : List Oper} {op : Oper} {a : Act} {Q : Exit → Act → World → Prop} (hgd : op.guard = none) (x y : Operand) (ho : op.op = .store 5 x y)
    (g i : Nat) (hx : a.eval x = .pointer (some ⟨g, i, none⟩)) (b : UInt8) (m : Int) (hm : m = (b.toNat : Int)) (hy : a.eval y = .int .u8 m) (xs : List UInt8) (n c base : Nat) (hn : xs.length = n) (hown : Own8 w base (.slice (some ⟨g, 0, none⟩) n c) xs) (hi : i < n)
    (h : ∀ w', Own8 w' base (.slice (some ⟨g, 0, none⟩) n c) (xs.set i b) → w.grownBy w' (some g) → wpList Try.prog ops Q rest (a.put op.dst undef) w') : wpList Try.prog ops Q (op :: rest) a w := by
  subst hm
  subst hn
  refine wpList_plain hgd fun K hK => ?_
  have hc := hown.cellAt i (by omega)
  have hf := hown.frozenAt i
  have hs := (hown.stored i (v8 b)).1
  rw [List.getElem?_map, List.getElem?_eq_getElem hi] at hc
  have ho2 : Own8 (w.setCell ⟨g, i, none⟩ (v8 b)) base (.slice (some ⟨g, 0, none⟩) xs.length c) (xs.set i b) := by
    unfold Own8
    rw [List.length_set, List.map_set]
    exact hs
  have hk := h _ ho2 (gb_set (World.grownBy.refl w (some g)) i (v8 b))
  unfold v8 at hc hk
  simp only [Option.map_some] at hc
  unfold Oper.wp execOp
  simp only [ho, hx, hy]
  clear h hs ho2
  go_simp
  exact hK _ _ hk
/-- A byte of an owned slice. -/
theorem Own8.byte {w : World} {base g n c : Nat} {xs : List UInt8} (h : Own8 w base (.slice (some ⟨g, 0, none⟩) n c) xs) {i : Nat} {x : UInt8} (hx : xs[i]? = some x) : w.cell? ⟨g, i, none⟩ = some (.int .u8 (x.toNat : Int)) := by
  have hi : i < xs.length := (List.getElem?_eq_some_iff.1 hx).1
  have hn : n = xs.length := by
    obtain ⟨A', c', e, _⟩ := h.rd
    cases e
    rfl
  subst hn
  have hc := h.cellAt i (by omega)
  rw [List.getElem?_map, hx] at hc
  exact hc
theorem own_kept {w w' : World} {base g : Nat} {v : Value} {xs : List UInt8} (h : Own8 w base v xs) (hg : w.grownBy w' (some g)) (hlt : g < base) : Own8 w' base v xs :=
  h.kept hg (by
    cases hu : v.ownBlock with
    | none => exact .inl rfl
    | some k => exact .inr (fun e => by have := h.lt k hu; cases e; omega))
theorem gb_stay {w w' : World} {g k : Nat} (hg : w.grownBy w' (some g)) (hk : k < w.heap.size) (hne : k ≠ g) : w'.heap[k]? = w.heap[k]? := hg.block k hk (fun e => by cases e; exact hne rfl)
theorem rd_stay {w w' : World} {B n g : Nat} {A : Option Addr} {xs : List UInt8} (h : Rd w B A n xs) (hg : w.grownBy w' (some g)) (hB : B ≤ g) (hBw : B ≤ w.heap.size) : Rd w' B A n xs := h.below (gb_to_below hg hB hBw)
end Go.Proofs.Ytkmcopenflakkaa
