/-
  Addresses stored into a block; arguments that are addresses; links of noughts.
-/
import Derived.Test.YtkmcopenflakkaaNROf
import Derived.Test.YtkmcopenflakkaaKOpen
import Derived.Test.YtkmcopenflakkaaKLaw2
import Derived.WalkLawsBesides
namespace Go.Proofs.Ytkmcopenflakkaa
set_option maxRecDepth 100000
open Go.RowKit Go.Lib Go.ChangeShapes Go.WideShapes Go.ChangeAt

/-- A part of a block known whole is stored. -/
theorem Blk.setCells_mid {T : TypeId} {g : Nat} (post : List Value) : ∀ (vs pre old : List Value) (w : World) (o : Nat), pre.length = o → old.length = vs.length → Blk w T g (pre ++ (old ++ post)) → Blk (w.setCells g o vs) T g (pre ++ (vs ++ post))
  | [], pre, old, w, o, _, ho, h => by
    obtain rfl : old = [] := List.eq_nil_of_length_eq_zero (by simpa using ho)
    exact h
  | v :: vs, pre, [], _, _, _, ho, _ => by simp at ho
  | v :: vs, pre, u :: old, w, o, hp, ho, h => by
    have h1 := Blk_10.set h o v
    have e : (pre ++ (u :: old ++ post)).set o v = (pre ++ [v]) ++ (old ++ post) := by
      rw [List.set_append_right _ _ (by omega), hp, Nat.sub_self]
      simp
    rw [e] at h1
    have := Blk.setCells_mid post vs (pre ++ [v]) old _ (o + 1) (by simp [hp]) (by simpa using ho) h1
    show Blk ((w.setCell ⟨g, o, none⟩ v).setCells g (o + 1) vs) T g _
    simpa using this
theorem below_setCells {B : Nat} {w0 : World} {g : Nat} (hg : B ≤ g) : ∀ (vs : List Value) (w : World) (o : Nat), Below B w0 w → Below B w0 (w.setCells g o vs)
  | [], _, _, h => h
  | v :: vs, _, o, h => below_setCells hg vs _ (o + 1) (h.setCell (p := ⟨g, o, none⟩) hg v)
theorem Blk.there {w : World} {T : TypeId} {g : Nat} {cs : List Value} (h : Blk w T g cs) {o n : Nat} (hn : o + n ≤ cs.length) : w.there g o n := fun j hj => by
  have hv : cs[o + j]? = some (cs[o + j]'(by omega)) := List.getElem?_eq_getElem (by omega)
  exact ⟨by rw [Blk_10.cell h hv]; rfl, Blk_10.frozen h _⟩
theorem heap_setCells_far {g k : Nat} (hk : k ≠ g) : ∀ (vs : List Value) (w : World) (o : Nat), (w.setCells g o vs).heap[k]? = w.heap[k]?
  | [], _, _ => rfl
  | v :: vs, w, o => (heap_setCells_far hk vs _ (o + 1)).trans (Below.heap_setCell w ⟨g, o, none⟩ v k hk)
/-- An address stored into the middle of a block known whole. -/
theorem wpList_storeAd {w : World} {ops : Array Oper} {rest : List Oper} {op : Oper} {a : Act} {Q : Exit → Act → World → Prop} (hgd : op.guard = none) (x y : Operand) (ho : op.op = .store 25 x y)
    (g o : Nat) (hx : a.eval x = .pointer (some ⟨g, o, none⟩)) (A : Ad) (hA : A.b.length = 16) (hy : a.eval y = .agg (adL A).toArray) (T : TypeId) (cs pre old post : List Value) (hp : pre.length = o) (hl : old.length = 17) (hb : Blk w T g cs) (e : cs = pre ++ (old ++ post))
    (h : ∀ w', Blk w' T g (pre ++ (adL A ++ post)) → (∀ k, k ≠ g → w'.heap[k]? = w.heap[k]?) → Below g w w' → wpList Try.prog ops Q rest (a.put op.dst undef) w') : wpList Try.prog ops Q (op :: rest) a w := by
  subst e
  have hAl := adL_len hA
  refine wpList_store_mid hgd 25 x y ho g o (adL A).toArray hx hy ?_ ?_ (all_oneCell_toArray (adL_one A)) (h _ (Blk.setCells_mid post (adL A) pre old w o hp (by rw [hl, hAl]) hb) (fun k hk => heap_setCells_far hk _ _ _) (below_setCells (Nat.le_refl _) _ _ _ (Below.refl g w)))
  · have := Blk.there hb (o := o) (n := 17) (by rw [List.length_append, List.length_append, hp, hl]; omega)
    simpa [hAl] using this
  · simpa [hAl] using sizeAdL hA
theorem built_lk0 : Try.prog.built 46 [] = some (lkL Lk.zero (.slice none 0 0)).toArray := by kernel_rfl
section
variable {H : Type} {enc : TypeId × Value → H} {W : World}
theorem cells_ad : Try.prog.cellsOf 25 = 17 := by kernel_rfl
/-- An argument that is an address. -/
theorem open_ad {r : Reach} {b0 : Nat} {v : Value} {d : DataW H} {ps : List MemPlace} (hv : Value.okWide Try.prog W r b0 25 v) (hd : DataW.Trod enc Try.prog W 0 (fun _ => true) true 25 v d ps) :
    ∃ a, v = adC a ∧ a.b.length = 16 := by
  obtain ⟨cs, rfl, hcs⟩ := okWide_struct Try.underlying25 hv
  rw [cells_ad] at hcs
  obtain ⟨fuel, hf⟩ := hd
  obtain ⟨a, la, ca⟩ := ad_cells hf
  refine ⟨a, ?_, la⟩
  show Value.agg cs = .agg (adL a).toArray
  congr 1
  have : cs.toList = adL a := by
    apply List.ext_getElem?
    intro i
    by_cases hi : i < 17
    · exact ca i hi
    · rw [List.getElem?_eq_none (by simp; omega), List.getElem?_eq_none (by rw [adL_len la]; omega)]
  rw [← this]
end
/-- What a fine frame is rewritten to hangs on nothing behind it. -/
theorem natL_more {xs more : List UInt8} (h : (readK xs).kind = 0) (a : Ad) (m : Int) (dst : Bool) : natL (xs ++ more) a m dst = natL xs a m dst ∧ readK (xs ++ more) = readK xs := by
  obtain ⟨z, six, n, p, u, hA⟩ := at_fine h
  have hM := hA.more more
  exact ⟨by rw [hM.nat, hA.nat], hM.r.symm.trans hA.r⟩
/-- One block changes, no other one. -/
theorem gb_of {w w' : World} {g : Nat} (hn : ∀ k, k ≠ g → w'.heap[k]? = w.heap[k]?) (hb : Below g w w') : w.grownBy w' (some g) :=
  ⟨hb.os, hb.tape, hb.output, hb.size, fun k _ hk => hn k (fun e => hk (by rw [e]))⟩
theorem okB_yes {L : Lk} {t : Tu} {f : Int} (h : okB L t f = true) : MakeOk L t f := by
  unfold okB at h
  simp only [Bool.and_eq_true, decide_eq_true_eq] at h
  obtain ⟨h1, h2, h3, ⟨h4, h5⟩, ⟨h6, h7⟩, ⟨h8, h9⟩, h10⟩ := h
  exact ⟨h1, h2, h3, h4, h5, h6, h7, h8, h9, h10⟩
end Go.Proofs.Ytkmcopenflakkaa
