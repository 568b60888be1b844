/-
  What holds while the document's Build lays names and choices: no program function is named here.
-/
import Derived.Test.YtmngagcekhlppaaVCh
namespace Go.Proofs.Ytmngagcekhlppaa
set_option maxRecDepth 100000
open Go.RowKit Go.Lib

/-- The table's block g holds the names tv and no slots; names nl are owned as nv, choices cs as cv; what is older than g stays. -/
structure L1 (key : List UInt8) (p : Nat) (R : List Shr) (w1 : World) (g : Nat) (nl : List (List UInt8)) (tv nv cv : Value) (cs : List (Nat × Nat)) (w : World) : Prop where
  t : Blk w 30 g [tv, .slice none 0 0]
  names : OwnG eN w (g + 1) nv nl
  cho : OwnG (eC p) w (g + 1) cv cs
  at_ : ChAt w (g + 1) key p R cs
  offN : Off cs nv.ownBlock
  offC : Off cs cv.ownBlock
  dis : ∀ b, nv.ownBlock = some b → cv.ownBlock ≠ some b
  bel : Below g w1 w
  size : g + 1 ≤ w.heap.size
variable {key : List UInt8} {p : Nat} {R : List Shr} {w1 w w' : World} {g : Nat} {nl nl' : List (List UInt8)} {tv nv nv' cv cv' : Value} {cs : List (Nat × Nat)}
theorem L1.drewN (h : L1 key p R w1 g nl tv nv cv cs w) (n : Nat) : L1 key p R w1 g nl tv nv cv cs (w.drewN n) where
  t := h.t
  names := h.names
  cho := h.cho
  at_ := h.at_
  offN := h.offN
  offC := h.offC
  dis := h.dis
  bel := ⟨h.bel.os, h.bel.tape, h.bel.output, h.bel.size, h.bel.block⟩
  size := h.size
/-- A call that writes nothing that was there. -/
theorem L1.call (h : L1 key p R w1 g nl tv nv cv cs w) (hb : Below w.heap.size w w') : L1 key p R w1 g nl tv nv cv cs w' where
  t := Blk_10.below h.t (Blk_10.lt h.t) hb
  names := h.names.below hb
  cho := h.cho.below hb
  at_ := h.at_.below hb
  offN := h.offN
  offC := h.offC
  dis := h.dis
  bel := h.bel.trans (hb.mono (Nat.le_trans (Nat.le_succ g) h.size))
  size := Nat.le_trans h.size hb.size
theorem L1.alloc (h : L1 key p R w1 g nl tv nv cv cs w) (o : Obj) : L1 key p R w1 g nl tv nv cv cs (w.alloc o) := h.call ((Below.refl w.heap.size w).alloc (Nat.le_refl _) o)
/-- Names appended. -/
theorem L1.appN (h : L1 key p R w1 g nl tv nv cv cs w) (ho : OwnG eN w' (g + 1) nv' nl') (hg : w.grownBy w' nv.ownBlock) (hv : nv'.ownBlock = nv.ownBlock ∨ nv'.ownBlock = some w.heap.size) : L1 key p R w1 g nl' tv nv' cv cs w' where
  t := Blk.gb h.t hg (fun e => by have := h.names.lt g e; omega)
  names := ho
  cho := h.cho.kept hg (by
    cases hc : cv.ownBlock with
    | none => exact .inl rfl
    | some b => exact .inr fun e => h.dis b e.symm hc)
  at_ := h.at_.kept hg h.offN
  offN := h.at_.offAppend h.offN hv
  offC := h.offC
  dis := fun b hb hc => by
    rcases hv with e | e
    · exact h.dis b (e ▸ hb) hc
    · rw [e] at hb
      cases hb
      have := h.cho.ltS _ hc
      omega
  bel := h.bel.grown hg (Nat.le_trans (Nat.le_succ g) h.size) (fun b hb => by have := h.names.lt b hb; omega)
  size := Nat.le_trans h.size hg.size
/-- They are stored into the table. -/
theorem L1.store (h : L1 key p R w1 g nl tv nv cv cs w) (hb : Blk w' 30 g [nv, .slice none 0 0]) (hg : w.grownBy w' (some g)) : L1 key p R w1 g nl nv nv cv cs w' where
  t := hb
  names := h.names.kept hg (.inr fun e => by have := h.names.lt g e; omega)
  cho := h.cho.kept hg (.inr fun e => by have := h.cho.lt g e; omega)
  at_ := h.at_.kept hg (h.at_.early (Nat.lt_succ_self g))
  offN := h.offN
  offC := h.offC
  dis := h.dis
  bel := h.bel.grown hg (Nat.le_trans (Nat.le_succ g) h.size) (fun b hb => by cases hb; exact Nat.le_refl _)
  size := Nat.le_trans h.size hg.size
/-- A name's choices appended. -/
theorem L1.appC (h : L1 key p R w1 g nl tv nv cv cs w) {b c : Nat} {x : Shr} (hx : R[cs.length]? = some x) (hz : OwnG eZ w (g + 1) (.slice (some ⟨b, 0, none⟩) p c) (chZ key p x)) (hbn : nv.ownBlock ≠ some b) (hbc : cv.ownBlock ≠ some b) (ho : OwnG (eC p) w' (g + 1) cv' (cs ++ [(b, c)])) (hg : w.grownBy w' cv.ownBlock) (hv : cv'.ownBlock = cv.ownBlock ∨ cv'.ownBlock = some w.heap.size) : L1 key p R w1 g nl tv nv cv' (cs ++ [(b, c)]) w' where
  t := Blk.gb h.t hg (fun e => by have := h.cho.lt g e; omega)
  names := h.names.kept hg (by
    cases hc : nv.ownBlock with
    | none => exact .inl rfl
    | some b' => exact .inr fun e => h.dis b' hc e.symm)
  cho := ho
  at_ := (h.at_.succ hx hz).kept hg (h.offC.succ hbc)
  offN := h.offN.succ hbn
  offC := by
    rcases hv with e | e
    · rw [e]
      exact h.offC.succ hbc
    · rw [e]
      exact (h.at_.succ hx hz).fresh (Nat.le_refl _)
  dis := fun b' hb hc => by
    rcases hv with e | e
    · exact h.dis b' hb (e ▸ hc)
    · rw [e] at hc
      cases hc
      have := h.names.ltS _ hb
      omega
  bel := h.bel.grown hg (Nat.le_trans (Nat.le_succ g) h.size) (fun b' hb => by have := h.cho.lt b' hb; omega)
  size := Nat.le_trans h.size hg.size
theorem L1.start (w1 : World) : L1 key p R w1 w1.heap.size [] (.slice none 0 0) (.slice none 0 0) (.slice none 0 0) [] (w1.alloc (.cells #[.slice none 0 0, .slice none 0 0] 30)) where
  t := Blk_10.new w1 _ [.slice none 0 0, .slice none 0 0]
  names := OwnG.nil_ eN _ _
  cho := OwnG.nil_ (eC p) _ _
  at_ := ChAt.nil_ _ _ _ _ _
  offN := Off.nil_ _
  offC := Off.nil_ _
  dis := fun b hb => by cases hb
  bel := (Below.refl w1.heap.size w1).alloc (Nat.le_refl _) _
  size := by rw [World.size_alloc]; exact Nat.le_refl _
/-- The greatest quanta of the first k, one more. -/
theorem bestL_succ {k : Nat} {x : Shr} (hx : R[k]? = some x) : bestL (R.take (k + 1)) = bestF (bestL (R.take k)) x := by
  unfold bestL
  rw [List.take_add_one, hx, List.foldl_append]
  rfl
theorem names_succ {k : Nat} {x : Shr} (hx : R[k]? = some x) : (R.take (k + 1)).map Shr.nm = (R.take k).map Shr.nm ++ [x.nm] := by
  rw [List.take_add_one, hx, List.map_append]
  rfl
end Go.Proofs.Ytmngagcekhlppaa
