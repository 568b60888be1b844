/-
  []byte(s) of a string that is no constant, and one byte appended to it.
-/
import Derived.Test.YtmngagcekhlppaaGBlk
import Derived.Lib.ConvBytes
namespace Go.Proofs.Ytmngagcekhlppaa
set_option maxRecDepth 100000
open Go.RowKit Go.Lib
/-- Bytes of a string that were just laid: at the head of block g, n of them, room for C. -/
def ConvAt (w : World) (g n C : Nat) (xs : List UInt8) : Prop :=
  ∃ cur, w.heap[g]? = some (.cells cur 5 (C, C + 1)) ∧ cur.size = C ∧ n ≤ C ∧ C ≤ maxLen ∧ xs.length = n ∧ cur.toList.take n = xs.map v8
theorem ConvAt.below {w w' : World} {g n C B : Nat} {xs : List UInt8} (h : ConvAt w g n C xs) (hb : Below B w w') (hg : g < B) : ConvAt w' g n C xs := by
  obtain ⟨cur, h1, h2⟩ := h
  exact ⟨cur, (hb.block g hg).trans h1, h2⟩
theorem ConvAt.lt {w : World} {g n C : Nat} {xs : List UInt8} (h : ConvAt w g n C xs) : g < w.heap.size := by
  obtain ⟨cur, h1, _⟩ := h
  exact (Array.getElem?_eq_some_iff.1 h1).1
theorem ConvAt.rd {w : World} {g n C B : Nat} {xs : List UInt8} (h : ConvAt w g n C xs) (hB : g < B) : Rd w B (some ⟨g, 0, none⟩) n xs := by
  obtain ⟨cur, h1, h2, h3, _, h4, h5⟩ := h
  refine ⟨h4, fun _ => ⟨g, 0, rfl, hB, fun j x hx => ?_⟩⟩
  have hj : j < n := by rw [← h4]; exact (List.getElem?_eq_some_iff.1 hx).1
  rw [Nat.zero_add, cell_of_row w g j cur _ _ h1]
  have e : (cur.toList.take n)[j]? = some (v8 x) := by rw [h5, List.getElem?_map, hx]; rfl
  rw [List.getElem?_take, if_pos hj] at e
  simpa [v8] using e
/-- The world behind the conversion. -/
theorem run_conv8 (s : ByteArray) (w : World) : ∃ C, (convert 9 63 (.string s)).run Try.prog w = .ok (.slice (some ⟨w.heap.size, 0, none⟩) s.size C) (bytesWorld w 5 s) ∧
    (s.size ≤ maxLen → ConvAt (bytesWorld w 5 s) w.heap.size s.size C s.data.toList) := by
  refine ⟨_, Lib.run_convert_string_bytes w 9 63 5 s Try.underlying9 Try.underlying63 Try.underlying5, fun hm => ?_⟩
  have hge := grownCap_ge w s.size 0 5
  have hsz : (bytesCells w 5 s).size = grownCap w s.size 0 5 := by
    unfold bytesCells
    rw [Array.size_append, Array.size_map, Array.size_replicate]
    show s.size + _ = _
    omega
  refine ⟨_, ?_, hsz, hge, grownCap_le_maxLen w s.size 0 5 hm, rfl, ?_⟩
  · have := bytesWorld_at_new w 5 s
    rwa [hsz] at this
  · unfold bytesCells
    rw [Array.toList_append, List.take_append_of_le_length (by rw [Array.length_toList, Array.size_map]; exact Nat.le_refl _), List.take_of_length_le (by rw [Array.length_toList, Array.size_map]; exact Nat.le_refl _), Array.toList_map]
    rfl
theorem below_conv {B : Nat} {w0 w : World} (h : Below B w0 w) (hB : B ≤ w.heap.size) (s : ByteArray) : Below B w0 (bytesWorld w 5 s) :=
  ⟨h.os, h.tape, h.output, by rw [bytesWorld_size]; exact Nat.le_succ_of_le h.size, fun k hk => (bytesWorld_at_old w 5 s k (Nat.lt_of_lt_of_le hk hB)).trans (h.block k hk)⟩
/-- One byte appended. -/
theorem run_append_conv (w : World) (ty : TypeId) (g n C : Nat) (xs : List UInt8) (h : ConvAt w g n C xs) (hn : n ≤ 1000000) (x : UInt8) (ga : Nat) (hga : w.heap[ga]? = some (.cells #[v8 x] 5 (0, 0))) :
    ∃ A' c' w', (Builtin.append_ #[63, 63] ty #[.slice (some ⟨g, 0, none⟩) n C, .slice (some ⟨ga, 0, none⟩) 1 1]).run Try.prog w = .ok (.slice A' (n + 1) c') w' ∧ n + 1 ≤ c' ∧ c' ≤ maxLen ∧ Rd w' w'.heap.size A' (n + 1) (xs ++ [x]) ∧
      (∀ B w0, Below B w0 w → B ≤ g → Below B w0 w') := by
  obtain ⟨i0, hi, hz0, hz1, hz2⟩ := info_parts info8
  obtain ⟨cur, hg, hcs, hnC, hCm, hl, ht⟩ := h
  have c0 : w.cell? ⟨ga, 0, none⟩ = some (v8 x) := by rw [cell_of_row w ga 0 _ _ (0, 0) hga]; rfl
  have hnews : ∀ j u, ([v8 x] : List Value)[j]? = some u → w.cell? ((⟨ga, 0, none⟩ : Addr).add j) = some u := by
    intro j u hj
    match j, hj with
    | 0, hj => simp at hj; subst hj; rw [add_plain]; exact c0
  have hgl := (Array.getElem?_eq_some_iff.1 hg).1
  have hcell : ∀ j y, xs[j]? = some y → w.cell? ⟨g, j, none⟩ = some (v8 y) := fun j y hy => by
    have hj : j < n := by rw [← hl]; exact (List.getElem?_eq_some_iff.1 hy).1
    rw [cell_of_row w g j cur _ _ hg]
    have e : (cur.toList.take n)[j]? = some (v8 y) := by rw [ht, List.getElem?_map, hy]; rfl
    rw [List.getElem?_take, if_pos hj] at e
    simpa using e
  by_cases hroom : n + 1 ≤ C
  · have hf := run_firstCells_some (P := Try.prog) w i0.size 1 ⟨ga, 0, none⟩ 1 1 [v8 x] (by rw [hz1]; rfl) hnews
    have hcn : w.cell? ⟨g, n, none⟩ = some cur[n]! := by
      rw [cell_of_row w g n cur _ _ hg, Array.getElem?_eq_getElem (by omega), getElem!_pos cur n (by omega)]
    have hfr : w.frozen? ⟨g, n, none⟩ = false := by
      simp only [World.frozen?, hg]
      simp
      omega
    have hst := run_storeCells_cells (P := Try.prog) g n [v8 x] 0 w (fun j hj => by
        have : j = 0 := by simpa using hj
        subst this
        simp [hcn]) (fun j hj => by
        have : j = 0 := by simpa using hj
        subst this
        simpa using hfr) (fun v hv => by
        have : v = v8 x := by simpa using hv
        subst this
        rfl)
    simp only [Nat.add_zero] at hst
    refine ⟨some ⟨g, 0, none⟩, C, w.setCell ⟨g, n, none⟩ (v8 x), ?_, hroom, hCm, ⟨by rw [List.length_append, hl]; rfl, fun _ => ⟨g, 0, rfl, by simp; exact hgl, fun j y hy => ?_⟩⟩, fun B w0 hb hBg => hb.setCell (p := ⟨g, n, none⟩) hBg _⟩
    · rw [hz1] at hf
      simp [Builtin.append_, run_underlying Try.underlying63, sizeOf, typeInfo, hi, hz1, Builtin.lenOf, hroom, hf, add_plain, hst, World.setCells]
    · rw [Nat.zero_add]
      by_cases hj : j < n
      · rw [List.getElem?_append_left (by omega)] at hy
        exact (World.cell?_setCell_other (w := w) (a := ⟨g, n, none⟩) (b := ⟨g, j, none⟩) (v := v8 x) (fun e => by have := congrArg Addr.off e; simp at this; omega)).trans (hcell j y hy)
      · have hjn : j = n := by
          have := (List.getElem?_eq_some_iff.1 hy).1
          rw [List.length_append, hl] at this
          simp at this
          omega
        subst hjn
        rw [List.getElem?_append_right (by omega), hl, Nat.sub_self] at hy
        simp at hy
        subst hy
        exact World.cell?_setCell_same w _ _ hcn
  · have holds : ∀ j u, (xs.map v8)[j]? = some u → w.cell? ((⟨g, 0, none⟩ : Addr).add j) = some u := by
      intro j u hu
      rw [add_plain, Nat.zero_add]
      rw [List.getElem?_map] at hu
      cases hy : xs[j]? with
      | none => rw [hy] at hu; cases hu
      | some y =>
        rw [hy] at hu
        cases hu
        exact hcell j y hy
    have hr := run_append_grow (P := Try.prog) w 63 ty 5 i0 (.int .u8 0) Try.underlying63 hi hz0 ⟨g, 0, none⟩ n C (xs.map v8) (by rw [List.length_map, hl, hz1, Nat.mul_one]) holds ⟨ga, 0, none⟩ 1 1 [v8 x] (by rw [hz1]; rfl) hnews (by omega) (by omega) (growslice_fits (by omega) (by rw [hz2]; omega))
    have hge := grownCap_ge w (n + 1) C 5
    have hle := grownCap_le_maxLen w (n + 1) C 5 (by unfold maxLen; omega)
    refine ⟨_, _, _, hr, hge, hle, ⟨by rw [List.length_append, hl]; rfl, fun _ => ⟨w.heap.size, 0, rfl, by simp, fun j y hy => ?_⟩⟩, fun B w0 hb hBg => hb.drew.alloc (Nat.le_trans hBg (Nat.le_of_lt hgl)) _⟩
    rw [Nat.zero_add, cell_of_row _ w.heap.size j _ _ (0, 0) (heap_alloc_new w.drew _)]
    have hj : j < n + 1 := by
      have := (List.getElem?_eq_some_iff.1 hy).1
      rw [List.length_append, hl] at this
      exact this
    have e : (xs.map v8 ++ [v8 x])[j]? = some (v8 y) := by
      rw [show xs.map v8 ++ [v8 x] = (xs ++ [x]).map v8 by simp, List.getElem?_map, hy]
      rfl
    rw [← Array.getElem?_toList, Array.toList_append, List.getElem?_append_left (by simp [hl]; omega)]
    simpa using e
/-- At a step of a region that draws. -/
theorem step_append_conv {w : World} {ops : Array Oper} {o : Oper} {a : Act} {K : Act → World → Prop} {Q : Exit → Act → World → Prop} {D : Prop} (hgd : o.guard = none) (s x : Operand)
    (ho : o.op = .call { callee := .builtin .append, args := #[s, x], argTypes := #[63, 63] })
    (g n C : Nat) (xs : List UInt8) (hs : a.eval s = .slice (some ⟨g, 0, none⟩) n C) (hc : ConvAt w g n C xs) (hn : n ≤ 1000000) (y : UInt8) (ga : Nat) (hx : a.eval x = .slice (some ⟨ga, 0, none⟩) 1 1) (hga : w.heap[ga]? = some (.cells #[v8 y] 5 (0, 0)))
    (h : ∀ A' c' w', n + 1 ≤ c' → c' ≤ maxLen → Rd w' w'.heap.size A' (n + 1) (xs ++ [y]) → (∀ B w0, Below B w0 w → B ≤ g → Below B w0 w') → K (a.put o.dst (.slice A' (n + 1) c')) w') :
    if Region.wanted o (yielded ops a.tmps) = true then Oper.wp Try.prog o a w K Q else D := by
  have hw : Region.wanted o (yielded ops a.tmps) = true := by simp [Region.wanted, hgd]
  rw [if_pos hw]
  obtain ⟨A', c', w', hrun, h1, h2, h3, h4⟩ := run_append_conv w o.type g n C xs hc hn y ga hga
  unfold Oper.wp execOp
  simp only [ho, resolve, invoke, builtin, Sem.run_bind, Sem.run_pure, Result.andThen_ok, List.map_toArray, List.map_cons, List.map_nil, hs, hx, hrun]
  exact h A' c' w' h1 h2 h3 h4
end Go.Proofs.Ytmngagcekhlppaa
