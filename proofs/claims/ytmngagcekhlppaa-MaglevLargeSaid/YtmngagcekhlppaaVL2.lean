/-
  What holds while the document's Build lays and takes slots: no program function is named here.
-/
import Derived.Test.YtmngagcekhlppaaVL1
namespace Go.Proofs.Ytmngagcekhlppaa
set_option maxRecDepth 100000
open Go.RowKit Go.Lib

/-- The table's block g holds the names nv and the slots ts; slots sl are owned as sv. -/
structure L2 (key : List UInt8) (p : Nat) (R : List Shr) (w1 : World) (g : Nat) (nv cv : Value) (cs : List (Nat × Nat)) (ts sv : Value) (sl : List Int) (w : World) : Prop where
  t : Blk w 30 g [nv, ts]
  names : OwnG eN w (g + 1) nv (R.map Shr.nm)
  cho : OwnG (eC p) w (g + 1) cv cs
  at_ : ChAt w (g + 1) key p R cs
  slots : OwnG eZ w (g + 1) sv sl
  offS : Off cs sv.ownBlock
  disN : ∀ b, sv.ownBlock = some b → nv.ownBlock ≠ some b
  disC : ∀ b, sv.ownBlock = some b → cv.ownBlock ≠ some b
  bel : Below g w1 w
  size : g + 1 ≤ w.heap.size
variable {key : List UInt8} {p : Nat} {R : List Shr} {w1 w w' : World} {g : Nat} {nv cv ts sv sv' kv : Value} {cs : List (Nat × Nat)} {sl sl' cl cl' : List Int}
theorem L2.start (h : L1 key p R w1 g (R.map Shr.nm) nv nv cv cs w) : L2 key p R w1 g nv cv cs (.slice none 0 0) (.slice none 0 0) [] w where
  t := h.t
  names := h.names
  cho := h.cho
  at_ := h.at_
  slots := OwnG.nil_ eZ _ _
  offS := Off.none_ _
  disN := fun b hb => by cases hb
  disC := fun b hb => by cases hb
  bel := h.bel
  size := h.size
theorem L2.drewN (h : L2 key p R w1 g nv cv cs ts sv sl w) (n : Nat) : L2 key p R w1 g nv cv cs ts sv sl (w.drewN n) where
  t := h.t
  names := h.names
  cho := h.cho
  at_ := h.at_
  slots := h.slots
  offS := h.offS
  disN := h.disN
  disC := h.disC
  bel := ⟨h.bel.os, h.bel.tape, h.bel.output, h.bel.size, h.bel.block⟩
  size := h.size
theorem L2.call (h : L2 key p R w1 g nv cv cs ts sv sl w) (hb : Below w.heap.size w w') : L2 key p R w1 g nv cv cs ts sv sl w' where
  t := Blk_10.below h.t (Blk_10.lt h.t) hb
  names := h.names.below hb
  cho := h.cho.below hb
  at_ := h.at_.below hb
  slots := h.slots.below hb
  offS := h.offS
  disN := h.disN
  disC := h.disC
  bel := h.bel.trans (hb.mono (Nat.le_trans (Nat.le_succ g) h.size))
  size := Nat.le_trans h.size hb.size
theorem L2.alloc (h : L2 key p R w1 g nv cv cs ts sv sl w) (o : Obj) : L2 key p R w1 g nv cv cs ts sv sl (w.alloc o) := h.call ((Below.refl w.heap.size w).alloc (Nat.le_refl _) o)
theorem dis_kept {a b : Option Nat} (h : ∀ g, b = some g → a ≠ some g) : a = none ∨ a ≠ b := by
  cases ha : a with
  | none => exact .inl rfl
  | some g => exact .inr fun e => h g e.symm ha
/-- Slots written: appended to, or one of them stored anew. -/
theorem L2.put (h : L2 key p R w1 g nv cv cs ts sv sl w) (ho : OwnG eZ w' (g + 1) sv' sl') (hg : w.grownBy w' sv.ownBlock) (hv : sv'.ownBlock = sv.ownBlock ∨ sv'.ownBlock = some w.heap.size) : L2 key p R w1 g nv cv cs ts sv' sl' w' where
  t := Blk.gb h.t hg (fun e => by have := h.slots.lt g e; omega)
  names := h.names.kept hg (dis_kept h.disN)
  cho := h.cho.kept hg (dis_kept h.disC)
  at_ := h.at_.kept hg h.offS
  slots := ho
  offS := h.at_.offAppend h.offS hv
  disN := fun b hb hc => by
    rcases hv with e | e
    · exact h.disN b (e ▸ hb) hc
    · rw [e] at hb
      cases hb
      have := h.names.ltS _ hc
      omega
  disC := fun b hb hc => by
    rcases hv with e | e
    · exact h.disC b (e ▸ hb) hc
    · rw [e] at hb
      cases hb
      have := h.cho.ltS _ hc
      omega
  bel := h.bel.grown hg (Nat.le_trans (Nat.le_succ g) h.size) (fun b hb => by have := h.slots.lt b hb; omega)
  size := Nat.le_trans h.size hg.size
/-- They are stored into the table. -/
theorem L2.store (h : L2 key p R w1 g nv cv cs ts sv sl w) (hb : Blk w' 30 g [nv, sv]) (hg : w.grownBy w' (some g)) : L2 key p R w1 g nv cv cs sv sv sl w' where
  t := hb
  names := h.names.kept hg (.inr fun e => by have := h.names.lt g e; omega)
  cho := h.cho.kept hg (.inr fun e => by have := h.cho.lt g e; omega)
  at_ := h.at_.kept hg (h.at_.early (Nat.lt_succ_self g))
  slots := h.slots.kept hg (.inr fun e => by have := h.slots.lt g e; omega)
  offS := h.offS
  disN := h.disN
  disC := h.disC
  bel := h.bel.grown hg (Nat.le_trans (Nat.le_succ g) h.size) (fun b hb => by cases hb; exact Nat.le_refl _)
  size := Nat.le_trans h.size hg.size
/-- With credits cl, owned as kv. -/
structure L3 (key : List UInt8) (p : Nat) (R : List Shr) (w1 : World) (g : Nat) (nv cv : Value) (cs : List (Nat × Nat)) (sv kv : Value) (sl cl : List Int) (w : World) : Prop where
  two : L2 key p R w1 g nv cv cs sv sv sl w
  cred : OwnG eZ w (g + 1) kv cl
  offK : Off cs kv.ownBlock
  disN : ∀ b, kv.ownBlock = some b → nv.ownBlock ≠ some b
  disC : ∀ b, kv.ownBlock = some b → cv.ownBlock ≠ some b
  disS : ∀ b, kv.ownBlock = some b → sv.ownBlock ≠ some b
theorem L3.drewN (h : L3 key p R w1 g nv cv cs sv kv sl cl w) (n : Nat) : L3 key p R w1 g nv cv cs sv kv sl cl (w.drewN n) := ⟨h.two.drewN n, h.cred, h.offK, h.disN, h.disC, h.disS⟩
/-- Credits made. -/
theorem L3.start (h : L2 key p R w1 g nv cv cs sv sv sl w) (hg : w.grownBy w' none) (ho : OwnG eZ w' (g + 1) kv cl) (hk : kv.ownBlock = some w.heap.size) : L3 key p R w1 g nv cv cs sv kv sl cl w' where
  two := ⟨Blk.gb h.t hg (fun e => by cases e), h.names.kept hg (dis_kept fun b e => by cases e), h.cho.kept hg (dis_kept fun b e => by cases e), h.at_.kept hg (Off.none_ _), h.slots.kept hg (dis_kept fun b e => by cases e), h.offS, h.disN, h.disC, h.bel.grown hg (Nat.le_trans (Nat.le_succ g) h.size) (fun b hb => by cases hb), Nat.le_trans h.size hg.size⟩
  cred := ho
  offK := by rw [hk]; exact h.at_.fresh (Nat.le_refl _)
  disN := fun b hb hc => by
    rw [hk] at hb
    cases hb
    have := h.names.ltS _ hc
    omega
  disC := fun b hb hc => by
    rw [hk] at hb
    cases hb
    have := h.cho.ltS _ hc
    omega
  disS := fun b hb hc => by
    rw [hk] at hb
    cases hb
    have := h.slots.ltS _ hc
    omega
/-- A slot stored. -/
theorem L3.putS (h : L3 key p R w1 g nv cv cs sv kv sl cl w) (ho : OwnG eZ w' (g + 1) sv sl') (hg : w.grownBy w' sv.ownBlock) : L3 key p R w1 g nv cv cs sv kv sl' cl w' where
  two := by
    have h2 := h.two.put ho hg (.inl rfl)
    exact h2
  cred := h.cred.kept hg (by
    cases hk : kv.ownBlock with
    | none => exact .inl rfl
    | some b => exact .inr fun e => h.disS b hk e.symm)
  offK := h.offK
  disN := h.disN
  disC := h.disC
  disS := h.disS
/-- A credit stored. -/
theorem L3.putK (h : L3 key p R w1 g nv cv cs sv kv sl cl w) (ho : OwnG eZ w' (g + 1) kv cl') (hg : w.grownBy w' kv.ownBlock) : L3 key p R w1 g nv cv cs sv kv sl cl' w' where
  two := ⟨Blk.gb h.two.t hg (fun e => by have := h.cred.lt g e; omega), h.two.names.kept hg (dis_kept h.disN), h.two.cho.kept hg (dis_kept h.disC), h.two.at_.kept hg h.offK, h.two.slots.kept hg (dis_kept h.disS), h.two.offS, h.two.disN, h.two.disC, h.two.bel.grown hg (Nat.le_trans (Nat.le_succ g) h.two.size) (fun b hb => by have := h.cred.lt b hb; omega), Nat.le_trans h.two.size hg.size⟩
  cred := ho
  offK := h.offK
  disN := h.disN
  disC := h.disC
  disS := h.disS
end Go.Proofs.Ytmngagcekhlppaa
