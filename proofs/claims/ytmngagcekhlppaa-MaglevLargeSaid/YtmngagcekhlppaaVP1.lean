/-
  What slices.SortFunc leaves of a slice that a call owns; the order in which shares are sorted; what is sorted with names of its own rises. No program function is named here.
-/
import Derived.Shelf.SlSortCmp.WholeK
import Derived.Test.YtmngagcekhlppaaVShelf
import Derived.Test.YtmngagcekhlppaaVEnc
import Derived.Test.YtmngagcekhlppaaVTab
namespace Go.Proofs.Ytmngagcekhlppaa
set_option maxRecDepth 100000
open Go.RowKit Go.Lib

theorem cmp_less : ∀ a b : List UInt8, decide (Lib.compareBytes a b < 0) = Op.bytesLess a b
  | [], [] => rfl
  | [], _ :: _ => rfl
  | _ :: _, [] => rfl
  | a :: r, b :: t => by
    unfold Lib.compareBytes Op.bytesLess
    by_cases h : a < b
    · rw [if_pos h, decide_eq_true h]
      rfl
    · rw [if_neg h, decide_eq_false h, Bool.false_or]
      by_cases h2 : b < a
      · rw [if_pos h2]
        have h3 : (a == b) = false := by
          apply Bool.eq_false_iff.2
          intro h4
          rw [beq_iff_eq] at h4
          subst h4
          exact absurd h2 (UInt8.lt_irrefl a)
        rw [h3]
        rfl
      · rw [if_neg h2, cmp_less r t]
        have h3 : a = b := by
          rcases Decidable.em (a = b) with h4 | h4
          · exact h4
          · rcases UInt8.lt_or_lt_of_ne h4 with h5 | h5
            · exact absurd h5 h
            · exact absurd h5 h2
        subst h3
        simp
def cmpS (x y : Shr) : Int := Lib.compareBytes x.nm y.nm
theorem lt_cmpS (x y : Shr) : ltOf cmpS x y = Op.bytesLess x.nm y.nm := cmp_less x.nm y.nm
theorem swoS : Go.Sort.SWO (ltOf cmpS) where
  irrefl x := by rw [lt_cmpS]; exact less_irr _
  trans x y z h1 h2 := by
    rw [lt_cmpS] at *
    exact less_trans h1 h2
  ntrans x y z h1 h2 := by
    rw [lt_cmpS] at *
    apply Bool.eq_false_iff.2
    intro h3
    by_cases h4 : x.nm = y.nm
    · rw [h4, h2] at h3
      cases h3
    · have h5 := less_other h1 h4
      have h6 := less_trans h5 h3
      rw [h2] at h6
      cases h6
instance : Inhabited Shr := ⟨⟨[], 0⟩⟩

section
variable {α : Type} [Inhabited α] (E : Enc α)
theorem flat_cells (d : Array α) : (Go.Sort.flatK E.f E.k d).toList = E.cells d.toList := by
  have hp := E.pos
  apply List.ext_getElem?
  intro t
  by_cases ht : t < d.size * E.k
  · have h1 : t / E.k < d.size := Nat.div_lt_of_lt_mul (by rw [Nat.mul_comm]; exact ht)
    have h2 : t % E.k < E.k := Nat.mod_lt _ hp
    have h3 : d.toList[t / E.k]? = some d[t / E.k]! := by
      rw [Array.getElem?_toList, Array.getElem?_eq_getElem h1, getElem!_pos d _ h1]
    have h4 := Enc.cells_get (E := E) d.toList (t / E.k) _ h3 (t % E.k) h2
    rw [show t / E.k * E.k + t % E.k = t by rw [Nat.mul_comm]; exact Nat.div_add_mod t E.k] at h4
    have h5 : t % E.k < (E.f d[t / E.k]!).length := by rw [E.len]; exact h2
    have h6 : t < (Go.Sort.flatK E.f E.k d).size := by rw [Go.Sort.size_flatK]; exact ht
    rw [h4, Array.getElem?_toList, Array.getElem?_eq_getElem h6, ← getElem!_pos (Go.Sort.flatK E.f E.k d) t h6, Go.Sort.get_flatK E.f E.k d t ht, List.getElem?_eq_getElem h5, getElem!_pos (E.f d[t / E.k]!) (t % E.k) h5]
  · rw [List.getElem?_eq_none (by rw [Array.length_toList, Go.Sort.size_flatK]; omega), List.getElem?_eq_none (by rw [Enc.cells_len, Array.length_toList]; omega)]
theorem put_take (F c : Array Value) (h : F.size ≤ c.size) : (Go.Sort.putCells id 0 F c).toList.take F.size = F.toList := by
  apply List.ext_getElem?
  intro t
  rw [List.getElem?_take]
  by_cases ht : t < F.size
  · rw [if_pos ht]
    have h1 : t < c.size := by omega
    simp [Go.Sort.putCells, h1, ht]
  · rw [if_neg ht, List.getElem?_eq_none (by rw [Array.length_toList]; omega)]
theorem heap_grow_old' (w : World) (os : Array Obj) {k : Nat} (h : k < w.heap.size) : (Go.Sort.grow w os).heap[k]? = w.heap[k]? := Go.Sort.heap_grow_old w os h
/-- The row holds other elements, as many; all else is as it was, but for new blocks. -/
theorem OwnG.sorted {w : World} {base n c g : Nat} {xs : List α} (h : OwnG E w base (.slice (some ⟨g, 0, none⟩) n c) xs) (d : Array α) (hd : d.size = xs.length) (m : Nat) (os : Array Obj) :
    OwnG E (sortWorldK E.f E.k w g 0 m d os) base (.slice (some ⟨g, 0, none⟩) n c) d.toList ∧ w.grownBy (sortWorldK E.f E.k w g 0 m d os) (some g) := by
  have hg0 := h.ltS g rfl
  have hn := h.lenEq
  have hF : (Go.Sort.flatK E.f E.k d).size = d.size * E.k := Go.Sort.size_flatK _ _ _
  have hsz : (Go.Sort.putRowK E.f E.k (Go.Sort.ahead w m) g 0 d).heap.size = w.heap.size := by
    unfold Go.Sort.putRowK
    rw [Go.Sort.size_putRow]
    rfl
  have hgr : w.grownBy (sortWorldK E.f E.k w g 0 m d os) (some g) := by
    refine ⟨rfl, rfl, rfl, ?_, fun k hk hne => ?_⟩
    · unfold sortWorldK
      rw [Go.Sort.size_grow, hsz]
      omega
    · unfold sortWorldK
      rw [Go.Sort.heap_grow_old _ _ (by rw [hsz]; exact hk)]
      unfold Go.Sort.putRowK Go.Sort.putRow Go.Sort.mapBlock
      show (w.heap.modify g _)[k]? = _
      rw [Array.getElem?_modify, if_neg (fun e => hne (by rw [e]))]
  refine ⟨?_, hgr⟩
  rcases h.2 with ⟨e, _⟩ | ⟨g', cap, cur, e, hb, hg, hnc, hcm, hcs, ht⟩
  · cases e
  · cases e
    refine ⟨?_, .inr ⟨g, c, Go.Sort.putCells id 0 (Go.Sort.flatK E.f E.k d) cur, ?_, hb, ?_, ?_, hcm, ?_, ?_⟩⟩
    · rw [Enc.cells_len]
    · rw [show d.toList.length = xs.length from hd]
    · unfold sortWorldK
      rw [Go.Sort.heap_grow_old _ _ (by rw [hsz]; exact hg0)]
      unfold Go.Sort.putRowK Go.Sort.putRow Go.Sort.mapBlock
      show (w.heap.modify g _)[g]? = _
      rw [Array.getElem?_modify, if_pos rfl, hg]
      rfl
    · rw [Array.length_toList, hd]; exact hnc
    · unfold Go.Sort.putCells
      rw [Array.size_mapIdx]
      exact hcs
    · have h1 := put_take (Go.Sort.flatK E.f E.k d) cur (by rw [hF, hcs, hd]; exact Nat.mul_le_mul_right _ hnc)
      rw [hF] at h1
      rw [Array.length_toList, h1, flat_cells]
/-- What an owned row holds, in the sort's words. -/
theorem OwnG.holds {w : World} {base n c g : Nat} {xs : List α} (h : OwnG E w base (.slice (some ⟨g, 0, none⟩) n c) xs) : Go.Sort.HoldsK E.f E.k w g 0 xs.toArray := by
  intro j hj
  have hj' : j < xs.length * E.k := by
    have := hj
    rw [Go.Sort.size_flatK] at this
    exact this
  have hl : j < (E.cells xs).length := by rw [Enc.cells_len]; exact hj'
  have h1 := World.ownsRow.cells h (g := g) rfl j _ (List.getElem?_eq_getElem hl)
  rw [add_plain] at h1
  refine ⟨?_, ?_⟩
  · rw [h1]
    have h2 := flat_cells E xs.toArray
    have h3 : (Go.Sort.flatK E.f E.k xs.toArray).toList[j]? = (E.cells xs)[j]? := by rw [h2]
    rw [Array.getElem?_toList, Array.getElem?_eq_getElem hj, List.getElem?_eq_getElem hl] at h3
    rw [getElem!_pos (Go.Sort.flatK E.f E.k xs.toArray) j hj]
    exact h3.symm
  · rw [Nat.zero_add]
    exact h.frozen j
end
/-- Sorted by their names; no later one is less. -/
def SortS (l : List Shr) : Prop := l.Pairwise fun a b => Op.bytesLess b.nm a.nm = false
theorem sort_of (d : Array Shr) (h : Go.Sort.SortedIn (ltOf cmpS) 0 d.size d) : SortS d.toList := by
  unfold SortS
  rw [List.pairwise_iff_getElem]
  intro i j hi hj hij
  have hi' : i < d.size := by simpa using hi
  have hj' : j < d.size := by simpa using hj
  have h1 := h i j (Nat.zero_le _) hij hj'
  rw [lt_cmpS, getElem!_pos d i hi', getElem!_pos d j hj'] at h1
  simpa using h1
theorem perm_of {xs : List Shr} {d : Array Shr} (h : Go.Sort.PermIn 0 xs.toArray.size xs.toArray d) : d.toList.Perm xs ∧ d.size = xs.length := by
  obtain ⟨h1, _, h3⟩ := h
  have h1 : d.size = xs.length := h1
  refine ⟨?_, h1⟩
  rw [show xs.toArray.size = d.size from h1.symm] at h3
  rw [Array.extract_size] at h3
  have e : xs.toArray.extract 0 d.size = xs.toArray := by
    rw [show d.size = xs.toArray.size from h1, Array.extract_size]
  rw [e] at h3
  exact h3
/-- May be, as far as k: quanta in their bounds, each name another one than the one ahead of it. -/
def okTo (l : List Shr) (k : Nat) : Prop := ∀ i x, i < k → l[i]? = some x → (0 ≤ x.q ∧ x.q ≤ 1024000) ∧ ∀ y, 0 < i → l[i - 1]? = some y → y.nm ≠ x.nm
theorem okTo.succ {l : List Shr} {k : Nat} (h : okTo l k) {x : Shr} (hx : l[k]? = some x) (hq : 0 ≤ x.q ∧ x.q ≤ 1024000) (hn : ∀ y, 0 < k → l[k - 1]? = some y → y.nm ≠ x.nm) : okTo l (k + 1) := fun i z hi hz => by
  rcases Nat.lt_or_ge i k with h1 | h1
  · exact h i z h1 hz
  · obtain rfl : i = k := by omega
    rw [hx] at hz
    cases hz
    exact ⟨hq, hn⟩
theorem okTo.rise : ∀ {l : List Shr}, okTo l l.length → SortS l → Rising l
  | [], _, _ => List.Pairwise.nil
  | [_], _, _ => List.pairwise_singleton _ _
  | x :: y :: l, h, hs => by
    obtain ⟨h1, h2⟩ := List.pairwise_cons.1 hs
    have h3 : okTo (y :: l) (y :: l).length := fun i z hi hz => by
      obtain ⟨h4, h5⟩ := h (i + 1) z (by simp at hi ⊢; omega) (by simpa using hz)
      refine ⟨h4, fun u hu hu2 => h5 u (by omega) ?_⟩
      obtain ⟨j, rfl⟩ : ∃ j, i = j + 1 := ⟨i - 1, by omega⟩
      simpa using hu2
    have h4 := okTo.rise h3 h2
    have h5 : x.nm ≠ y.nm := (h 1 y (by simp) rfl).2 x (by omega) rfl
    have h6 : Op.bytesLess x.nm y.nm = true := less_other (h1 y List.mem_cons_self) (fun e => h5 e.symm)
    refine List.pairwise_cons.2 ⟨fun z hz => ?_, h4⟩
    rcases List.mem_cons.1 hz with rfl | hz
    · exact h6
    · exact less_trans h6 ((List.pairwise_cons.1 h4).1 z hz)
theorem okTo.may {l xs : List Shr} (h : okTo l l.length) (hs : SortS l) (hp : l.Perm xs) (hf : xs.length ≤ 1024) : MayS xs where
  few := hf
  qu := fun x hx => by
    obtain ⟨i, hi⟩ := List.getElem?_of_mem (hp.mem_iff.2 hx)
    exact (h i x (List.getElem?_eq_some_iff.1 hi).1 hi).1
  apart := (h.rise hs).apart.perm hp
theorem MayS.okTo {xs l : List Shr} (h : MayS xs) (hp : l.Perm xs) : okTo l l.length := fun i x hi hx => by
  refine ⟨h.qu x (hp.mem_iff.1 (List.mem_of_getElem? hx)), fun y h0 hy => ?_⟩
  have ha : Apart l := h.apart.perm hp.symm
  unfold Apart at ha
  rw [List.pairwise_iff_getElem] at ha
  obtain ⟨hi', e1⟩ := List.getElem?_eq_some_iff.1 hx
  obtain ⟨hj', e2⟩ := List.getElem?_eq_some_iff.1 hy
  have := ha (i - 1) i hj' hi' (by omega)
  rw [e1, e2] at this
  exact this
/-- Those with quanta of what rises. -/
def posL (l : List Shr) : List Shr := l.filter fun x => decide (x.q ≠ 0)
theorem posL_eq {l xs : List Shr} (h : Rising l) (hp : l.Perm xs) : posL l = riseL xs := by
  have ha : Apart xs := h.apart.perm hp
  exact rise_eq (List.Pairwise.filter _ h) (riseL_rise ha) ((hp.filter _).trans (riseL_perm xs).symm)
theorem posL_succ {l : List Shr} {k : Nat} {x : Shr} (hx : l[k]? = some x) : posL (l.take (k + 1)) = if x.q = 0 then posL (l.take k) else posL (l.take k) ++ [x] := by
  unfold posL
  rw [List.take_add_one, hx, List.filter_append]
  by_cases h : x.q = 0
  · rw [if_pos h, Option.toList_some, List.filter_cons_of_neg (by simpa using h), List.filter_nil, List.append_nil]
  · rw [if_neg h, Option.toList_some, List.filter_cons_of_pos (by simpa using h), List.filter_nil]
end Go.Proofs.Ytmngagcekhlppaa
