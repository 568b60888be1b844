/-
  The document's table of flows: found in, cut out of, dropped from.
  The document's table of flows, swept.
  The document's table of flows: one put.
-/
import Derived.Test.YtfbiinipiklkaaaFLRef2
import Derived.Test.YtfbiinipiklkaaaBld1
import Derived.Deep.DeepCutAuto
import Derived.Test.YtfbiinipiklkaaaZRef2
import Derived.Deep.RegionHeld
namespace Go.Proofs.Ytfbiinipiklkaaa
set_option maxRecDepth 100000
open Go.RowKit Go.Lib

/-- The document's table at g: its room, its flows. -/
structure RefT (w : World) (g : Nat) (room : Int) (lv : Value) (l : List Fw) : Prop where
  blk : Blk_10 w 44 g [.int .i64 room, lv]
  own : OwnG eF w 0 lv l
  ne : lv.ownBlock ≠ some g
theorem RefT.lt {w : World} {g : Nat} {room : Int} {lv : Value} {l : List Fw} (h : RefT w g room lv l) : g < w.heap.size := Blk_10.lt h.blk
theorem RefT.below {w w' : World} {g : Nat} {room : Int} {lv : Value} {l : List Fw} (h : RefT w g room lv l) (hb : Below w.heap.size w w') : RefT w' g room lv l :=
  ⟨Blk_10.below h.blk h.lt hb, h.own.below hb, h.ne⟩
theorem gbBel {w w' : World} (h : Below w.heap.size w w') (row : Option Nat) : w.grownBy w' row := ⟨h.os, h.tape, h.output, h.size, fun k hk _ => h.block k hk⟩
theorem gbThen {a b c : World} {row : Option Nat} (h1 : a.grownBy b row) (h2 : b.grownBy c row) : a.grownBy c row :=
  ⟨h2.os.trans h1.os, h2.tape.trans h1.tape, h2.output.trans h1.output, Nat.le_trans h1.size h2.size, fun k hk hne => (h2.block k (Nat.lt_of_lt_of_le hk h1.size) hne).trans (h1.block k hk hne)⟩
theorem sliceSize : (Try.prog.info? 42).map (·.size) = some 1 := by kernel_rfl
/-- The place of the first flow of a key, or -1. -/
def placeK (l : List Fw) (k : Tu) : Int := match l.findIdx? (fun x => tuQ x.k k) with
  | some i => (i : Int)
  | none => -1
theorem placeK_at {l : List Fw} {k : Tu} {i : Nat} {x : Fw} (hb : l[i]? = some x) (he : tuQ x.k k = true) (hn : ∀ j y, j < i → l[j]? = some y → tuQ y.k k = false) : placeK l k = (i : Int) := by
  have e : l.findIdx? (fun x => tuQ x.k k) = some i := by
    rw [List.findIdx?_eq_some_iff_getElem]
    obtain ⟨hk, hk2⟩ := List.getElem?_eq_some_iff.1 hb
    refine ⟨hk, by rw [hk2]; exact he, fun j hj => ?_⟩
    rw [hn j _ hj (List.getElem?_eq_getElem (Nat.lt_trans hj hk))]
    exact Bool.false_ne_true
  unfold placeK
  rw [e]
theorem placeK_no {l : List Fw} {k : Tu} (hn : ∀ y, y ∈ l → tuQ y.k k = false) : placeK l k = -1 := by
  have e : l.findIdx? (fun x => tuQ x.k k) = none := by
    rw [List.findIdx?_eq_none_iff]
    exact hn
  unfold placeK
  rw [e]
theorem placeK_cons (x : Fw) (l : List Fw) (k : Tu) : placeK (x :: l) k = if tuQ x.k k = true then 0 else if placeK l k < 0 then -1 else placeK l k + 1 := by
  by_cases h : tuQ x.k k = true
  · rw [if_pos h]
    unfold placeK
    rw [List.findIdx?_cons, if_pos (by exact h)]
    rfl
  · rw [if_neg h]
    unfold placeK
    rw [List.findIdx?_cons, if_neg (by exact h)]
    cases l.findIdx? (fun x => tuQ x.k k) with
    | none => rfl
    | some i =>
      show ((i + 1 : Nat) : Int) = if (i : Int) < 0 then -1 else (i : Int) + 1
      rw [if_neg (by omega)]
      omega
/-- There is one, or none, and what is left without it. -/
theorem place_none : ∀ {l : List Fw} {k : Tu}, placeK l k < 0 ↔ hasK l k = none
  | [], k => by simp [placeK, hasK]
  | x :: l, k => by
    rw [placeK_cons]
    unfold hasK
    by_cases h : tuQ x.k k = true
    · rw [if_pos h, List.find?_cons_of_pos (by exact h)]
      simp
    · rw [if_neg h, List.find?_cons_of_neg (by exact h)]
      have ih := place_none (l := l) (k := k)
      unfold hasK at ih
      rw [← ih]
      by_cases h2 : placeK l k < 0
      · rw [if_pos h2]
        exact iff_of_true (by decide) h2
      · rw [if_neg h2]
        exact iff_of_false (by omega) h2
theorem place_some {l : List Fw} {k : Tu} (ha : l.Pairwise fun a b => a.k ≠ b.k) (h : ¬ placeK l k < 0) : ∃ i x, placeK l k = (i : Nat) ∧ l[i]? = some x ∧ hasK l k = some x ∧ l.eraseIdx i = outK l k := by
  induction l with
  | nil => exact absurd (by decide : (-1 : Int) < 0) h
  | cons x l ih =>
    obtain ⟨h1, h2⟩ := List.pairwise_cons.1 ha
    rw [placeK_cons] at h ⊢
    unfold hasK outK
    by_cases hq : tuQ x.k k = true
    · rw [if_pos hq]
      obtain rfl := tuQ_eq.1 hq
      refine ⟨0, x, rfl, rfl, by rw [List.find?_cons_of_pos (by exact hq)], ?_⟩
      rw [List.eraseIdx_cons_zero, List.filter_cons_of_neg (by rw [hq]; decide), List.filter_eq_self.2 (fun z hz => by rw [tuQ_ne (fun e => h1 z hz e.symm)]; rfl)]
    · rw [if_neg hq] at h ⊢
      by_cases h3 : placeK l k < 0
      · rw [if_pos h3] at h
        exact absurd (by decide) h
      · rw [if_neg h3]
        obtain ⟨i, y, e1, e2, e3, e4⟩ := ih h2 h3
        refine ⟨i + 1, y, by rw [e1]; rfl, by rw [List.getElem?_cons_succ]; exact e2, by rw [List.find?_cons_of_neg (by exact hq)]; exact e3, ?_⟩
        rw [List.eraseIdx_cons_succ, e4, List.filter_cons_of_pos (by rw [Bool.eq_false_iff.2 hq]; rfl)]
        rfl
set_option maxHeartbeats 8000000 in
theorem rfind21_any {w : World} {g : Nat} {room : Int} {lv : Value} {l : List Fw} (h : RefT w g room lv l) {k : Tu} (hk : k.Ok) : Calls Try.prog 27 #[.pointer (some ⟨g, 0, none⟩), tuC k] w fun e w' => e = .returned (.int .i64 (placeK l k)) ∧ Below w.heap.size w w' := by
  obtain ⟨A, n, c, hlv, hn, hnc, hcm, hr, _⟩ := h.own.sl
  subst hlv
  have hn8 : n ≤ 9223372036854775807 := by unfold maxLen at hcm; omega
  obtain ⟨Y, hY, hb, hbel, hys⟩ := box_tu1 w k
  obtain ⟨LK, hLK⟩ : ∃ C, (tuL k).toArray = C := ⟨_, rfl⟩
  have HY := Lib.hid (show w.alloc (.cells LK 26) = Y by rw [← hLK]; exact hY)
  have HB := Lib.hid hbel
  have e0 : tuC k = .agg LK := by unfold tuC; rw [hLK]
  rw [e0]
  have HLK := Lib.hid hLK
  have HG := Lib.hid h.lt
  have HQ : Hid (∀ W, Below Y.heap.size Y W → W.cell? ⟨g, 1, none⟩ = some (.slice A n c)) := Lib.hid (fun W hW => (Blk_10.below h.blk h.lt (hbel.trans (hW.mono hbel.size))).cell (i := 1) rfl)
  have HX := Lib.hid hr
  have HL := Lib.hid hr.len
  have HKB : Hid (∀ W, Below Y.heap.size Y W → W.rangeAt w.heap.size 0 (tuL k)) := Lib.hid (fun W hW => Blk_10.range (Blk_10.below hb (Blk_10.lt hb) hW))
  have HZ := Lib.hid (fun t : Tu => fun h : t.Ok => sizeTuL h)
  have HOK := Lib.hid hk
  obtain ⟨r, hrr⟩ : ∃ r, placeK l k = r := ⟨_, rfl⟩
  rw [hrr]
  have HR := Lib.hid hrr
  clear h hn hnc hcm hr hY hb hbel hys hLK e0 hk hrr
  go_enter Try.func27, Try.ntmps27
  go_upto_region 1 with (fail)
  rw [HY.out]
  go_wp2_with fail
  go_loopw [5] (fun i wr => ∃ j : Nat, j ≤ n ∧ i = .int .i64 (j : Int) ∧ Hid (∀ m y, m < j → l[m]? = some y → tuQ y.k k = false) ∧ Hid (Below Y.heap.size Y wr))
    (fun i _ => n - (RowKit.intOf i).toNat)
  case atStart => exact ⟨0, Nat.zero_le _, rfl, Lib.hid (fun m y h => absurd h (by omega)), Lib.hid (Below.refl _ _)⟩
  case round =>
    obtain ⟨j, hj, rfl, HAL, HW⟩ := hrel
    have q1 := HQ.out wr HW.out
    by_cases hlt : j < n
    · have h1 : (j : Int) < (n : Int) := by omega
      have h0 : (0 : Int) ≤ (j : Int) := by omega
      obtain ⟨b, off, rfl, _⟩ := HX.out.addr (by omega)
      obtain ⟨x, hx⟩ : ∃ x, l[j]? = some x := ⟨_, List.getElem?_eq_getElem (by rw [HL.out]; exact hlt)⟩
      have RX : Hid (∀ W, Below Y.heap.size Y W → W.rangeAt b (off + j * 41) (tuL x.k)) := Lib.hid (fun W hW => fw_key ((HX.out.below (HB.out.trans (hW.mono HB.out.size))).range hx))
      have HXX := Lib.hid hx
      have HLT := Lib.hid hlt
      have hj9 : j < 9223372036854775807 := by omega
      obtain ⟨LX, hLX⟩ : ∃ L, (tuL x.k).toArray = L := ⟨_, rfl⟩
      obtain ⟨f, hf⟩ : ∃ f, tuQ x.k k = f := ⟨_, rfl⟩
      have HNQ : Hid (∀ W : World, (binOp .eql 26 (.agg LX) (.agg LK)).run Try.prog W = .ok (.bool f) W) := Lib.hid (by
        intro W
        have := run_eqls_tu W x.ok HOK.out
        unfold tuC at this
        rw [hLX, HLK.out, hf] at this
        exact this)
      have HLX := Lib.hid hLX
      have HFF := Lib.hid hf
      clear hx hlt hLX hf hj
      go_upto_region 4 with (fail)
      refine wp_region_held_drew (S := fun W => Below Y.heap.size Y W) (by kernel_rfl) (HW.out.drew) (fun hHeld => ?_)
      refine tk 0 15 (.pointer (some ⟨g, 0, none⟩)) rfl hHeld ?_
      simp only [Act.put, sA, sZ, sS]
      refine tk 1 16 (.pointer (some ⟨g, 0, none⟩)) rfl hHeld ?_
      simp only [Act.put, sA, sZ, sS]
      refine tk 2 17 (.pointer (some ⟨g, 1, none⟩)) rfl hHeld ?_
      simp only [Act.put, sA, sZ, sS]
      refine tkY 3 18 (.slice (some ⟨b, off, none⟩) n c) rfl (Or.inl ⟨by rfl, fun W hW => by have hc := HQ.out W hW; go_simp⟩) hHeld ?_
      simp only [Act.put, sA, sZ, sS]
      refine tk 4 19 (.int .i64 (j : Int)) rfl hHeld ?_
      simp only [Act.put, sA, sZ, sS]
      refine tk 5 20 (.pointer (some ⟨b, off + j * 41, none⟩)) rfl hHeld ?_
      simp only [Act.put, sA, sZ, sS]
      refine tk 6 21 (.pointer (some ⟨b, off + j * 41, none⟩)) rfl hHeld ?_
      simp only [Act.put, sA, sZ, sS]
      refine tkY 7 22 (.agg LX) rfl (by rw [← HLX.out]; exact yieldsIf_load_mid (by rfl) 26 _ rfl b (off + j * 41) (by rfl) (tuL x.k) _ (RX.out) Try.underlying26 rfl (HZ.out x.k x.ok)) hHeld ?_
      simp only [Act.put, sA, sZ, sS]
      refine tkY 8 23 (.agg LK) rfl (by rw [← HLK.out]; exact yieldsIf_load_mid (by rfl) 26 _ rfl w.heap.size (0) (by rfl) (tuL k) _ (HKB.out) Try.underlying26 rfl (HZ.out k HOK.out)) hHeld ?_
      simp only [Act.put, sA, sZ, sS]
      refine tkY 9 24 (.bool f) rfl (yields_cmpS (by rfl) .eql 26 _ _ _ rfl LX LK (by rfl) (by rfl) guard_tu' f HNQ.out) hHeld ?_
      simp only [Act.put, sA, sZ, sS]
      refine wpAnyH_done (by kernel_rfl) ?_ _
      have HB9 := Lib.hid hHeld
      clear hHeld
      cases f
      · go_wp2_with fail
        go_roundw
        case rel => exact ⟨j + 1, HLT.out, (by have := HLT.out; go_num), Lib.hid (fun m y hm hy => by
          by_cases e : m = j
          · subst e
            rw [HXX.out] at hy
            cases hy
            exact HFF.out
          · exact HAL.out m y (by omega) hy), HB9⟩
        case measure =>
          have := HLT.out
          simp [RowKit.intOf]
          omega
      · have hv := placeK_at HXX.out HFF.out HAL.out
        rw [HR.out] at hv
        subst hv
        go_wp2_with fail
        go_ret
        exact ⟨rfl, HB.out.trans (HB9.out.mono HB.out.size)⟩
    · obtain rfl : n = j := by omega
      have h1 : ¬ (n : Int) < (n : Int) := by omega
      have hv : placeK l k = -1 := placeK_no (fun y hy => by
        obtain ⟨m, hm⟩ := List.getElem?_of_mem hy
        exact HAL.out m y (by rw [← HL.out]; exact (List.getElem?_eq_some_iff.1 hm).1) hm)
      rw [HR.out] at hv
      subst hv
      clear hlt hj
      go_wp2_with fail
      go_ret
      exact ⟨rfl, HB.out.trans (HW.out.mono HB.out.size)⟩
theorem erase_take {l : List Fw} {k at_ : Nat} {x : Fw} (hx : l[k]? = some x) : (l.take (k + 1)).eraseIdx at_ = if k = at_ then (l.take k).eraseIdx at_ else (l.take k).eraseIdx at_ ++ [x] := by
  have hk := (List.getElem?_eq_some_iff.1 hx).1
  have e : l.take (k + 1) = l.take k ++ [x] := by rw [List.take_add_one, hx]; rfl
  have el : (l.take k).length = k := by rw [List.length_take]; omega
  rw [e]
  split
  · rename_i h
    rw [List.eraseIdx_append_of_length_le (by omega), List.eraseIdx_of_length_le (l := l.take k) (by omega), ← h, el, Nat.sub_self, List.eraseIdx_cons_zero, List.append_nil]
  · rename_i h
    rcases Nat.lt_or_ge at_ k with h2 | h2
    · rw [List.eraseIdx_append_of_lt_length (by omega)]
    · rw [List.eraseIdx_append_of_length_le (by omega), List.eraseIdx_of_length_le (l := l.take k) (by omega), List.eraseIdx_of_length_le (l := [x]) (by rw [List.length_singleton]; omega)]
theorem erase_len (l : List Fw) (i : Nat) : (l.eraseIdx i).length ≤ l.length := (List.eraseIdx_sublist l i).length_le
set_option maxHeartbeats 8000000 in
theorem rcut_any {w : World} {g : Nat} {room : Int} {lv : Value} {l : List Fw} (h : RefT w g room lv l) (hl : l.length ≤ 1000000) (at_ : Nat) : Calls Try.prog 42 #[.pointer (some ⟨g, 0, none⟩), .int .i64 (at_ : Int)] w fun e w' => e = .returned (.tuple #[]) ∧ ∃ lv', RefT w' g room lv' (l.eraseIdx at_) ∧ w.grownBy w' (some g) ∧ ∀ b, lv'.ownBlock = some b → w.heap.size ≤ b := by
  obtain ⟨A, n, c, hlv, hn, hnc, hcm, hr, _⟩ := h.own.sl
  subst hlv
  rw [← hn] at hl
  have HBL := Lib.hid h.blk
  have HG := Lib.hid h.lt
  have HQ : Hid (∀ W, Below w.heap.size w W → W.cell? ⟨g, 1, none⟩ = some (.slice A n c)) := Lib.hid (fun W hW => (Blk_10.below h.blk h.lt hW).cell (i := 1) rfl)
  have HX := Lib.hid hr
  have HL := Lib.hid hr.len
  have HN := Lib.hid hl
  clear h hn hnc hcm hr hl
  go_enter Try.func42, Try.ntmps42
  go_wp2_with fail
  go_loopw [4, 5] (fun t i wr => ∃ k : Nat, k ≤ n ∧ i = .int .i64 (k : Int) ∧ Hid (OwnG eF wr w.heap.size t ((l.take k).eraseIdx at_)) ∧ Hid (Below w.heap.size w wr)) (fun _ i _ => n - (RowKit.intOf i).toNat)
  case atStart => exact ⟨0, Nat.zero_le _, rfl, Lib.hid (OwnG.nil_ eF _ _), Lib.hid (Below.refl _ _)⟩
  case round =>
    obtain ⟨k, hk, rfl, HO, HW⟩ := hrel
    have q1 := HQ.out wr HW.out
    by_cases hlt : k < n
    · have h1 : (k : Int) < (n : Int) := by omega
      have h0 : (0 : Int) ≤ (k : Int) := by omega
      obtain ⟨b, off, rfl, _⟩ := HX.out.addr (by omega)
      obtain ⟨x, hx⟩ : ∃ x, l[k]? = some x := ⟨_, List.getElem?_eq_getElem (by rw [HL.out]; exact hlt)⟩
      have RX := Lib.hid ((HX.out.below HW.out).range hx)
      have HU := Lib.hid (erase_take (at_ := at_) hx)
      obtain ⟨LX, hLX⟩ : ∃ L, (fwL x).toArray = L := ⟨_, rfl⟩
      have HLX := Lib.hid hLX
      have HLT := Lib.hid hlt
      have HLN : Hid (((l.take k).eraseIdx at_).length + 1 ≤ 100000000) := Lib.hid (by have := erase_len (l.take k) at_; rw [List.length_take] at this; have := HN.out; omega)
      have hk9 : k < 9223372036854775807 := by have := HN.out; omega
      clear hx hlt hLX hk
      by_cases hka : k = at_
      · have hne : ((k : Int) != (at_ : Int)) = false := by simp [hka]
        have hne2 : (k != at_) = false := by simp [hka]
        have HKA := Lib.hid hka
        clear hka
        go_wp2_with fail
        go_roundw
        case rel => exact ⟨k + 1, HLT.out, (by have := HLT.out; go_num), Lib.hid (by rw [HU.out, if_pos HKA.out]; exact HO.out), HW⟩
        case measure =>
          have := HLT.out
          simp [RowKit.intOf]
          omega
      · have hne : ((k : Int) != (at_ : Int)) = true := by rw [bne_iff_ne]; omega
        have hne2 : (k != at_) = true := by rw [bne_iff_ne]; exact hka
        have HKA := Lib.hid hka
        clear hka
        go_wp2_with (first | ((with_reducible show wpList _ _ _ (⟨some 25, _, _, _, _, _⟩ :: _) _ _); refine wpList_loadM (op := ⟨some 25, _, _, _, _, _⟩) 28 _ rfl (by rfl) (b) (off + k * 41) (by rfl) (fwL x) (RX.out) _ Try.underlying28 rfl (sizeFwL x) ?_) | ((with_reducible show wpList _ _ _ (⟨some 26, _, _, _, _, _⟩ :: _) _ _); refine wpList_build1 (o := ⟨some 26, _, _, _, _, _⟩) eF (by decide) x rfl 25 rfl LX HLX.out (by rw [← HLX.out]; rfl) ?_) | ((with_reducible show wpList _ _ _ (⟨some 27, _, _, _, _, _⟩ :: _) _ _); refine wpList_appendG (o := ⟨some 27, _, _, _, _, _⟩) eF rfl _ _ rfl w.heap.size _ ((l.take k).eraseIdx at_) (by rfl) (HO.out.alloc _) (wr.heap.size + 1) _ 1 1 [x] (by rfl) (RdG.laid eF wr [x] 1 rfl _ (by rw [← HLX.out]; simp [Enc.cells]; rfl)) (HLN.out) (by rw [World.size_alloc]; exact Nat.le_succ_of_le HW.out.size) ?_; intro v9 w9 ho9 hg9 _; have hb9 := ((Below.refl w.heap.size wr).alloc (HW.out.size) (.cells LX 28)).grown hg9 (by rw [World.size_alloc]; exact Nat.le_succ_of_le HW.out.size) (HO.out.lt)))
        have HO9 := Lib.hid ho9
        have HB9 := Lib.hid (HW.out.trans (hb9.mono (Nat.le_refl _)))
        clear ho9 hb9 hg9
        go_roundw
        case rel => exact ⟨k + 1, HLT.out, (by have := HLT.out; go_num), Lib.hid (by rw [HU.out, if_neg HKA.out]; exact HO9.out), HB9⟩
        case measure =>
          have := HLT.out
          simp [RowKit.intOf]
          omega
    · obtain rfl : k = n := by omega
      have h1 : ¬ (k : Int) < (k : Int) := by omega
      have HTK : Hid (l.take k = l) := Lib.hid (List.take_of_length_le (Nat.le_of_eq HL.out))
      rw [HTK.out] at HO
      obtain ⟨A9, n9, c9, rfl, e9, _, _, r9, _⟩ := HO.out.sl
      have HBK := Lib.hid (Blk_10.below HBL.out HG.out HW.out)
      have HFAR : Hid ((Value.slice A9 n9 c9).ownBlock ≠ some g) := Lib.hid (fun e => by have := HO.out.lt g e; have := HG.out; omega)
      clear hlt hk e9 r9
      go_wp2_with ((with_reducible show wpList _ _ _ (⟨none, _, _, _, _, _⟩ :: _) _ _); refine wpList_storeB1 (op := ⟨none, _, _, _, _, _⟩) rfl 42 (.tmp 31) (.tmp 29) rfl g 1 (by rfl) (.slice A9 n9 c9) (by rfl) 44 _ HBK.out (by simp) sliceSize rfl rfl ?_; intro w4 hb4 hg4; have K4 := Lib.hid hb4; have G4 := Lib.hid hg4; clear hb4 hg4)
      go_end0
      exact ⟨rfl, _, ⟨K4.out, (HO.out.kept G4.out (Or.inr HFAR.out)).base_le (Nat.zero_le _), HFAR.out⟩, gbThen (gbBel HW.out _) G4.out, HO.out.lt⟩
set_option maxHeartbeats 4000000 in
theorem rdrop_any {w : World} {g rm : Nat} {room : Int} {lv : Value} {l : List Fw} (h : RefT w g room lv l) (hl : l.length ≤ 1000000) (hrt : RightT rm l) {k : Tu} (hk : k.Ok) : Calls Try.prog 22 #[.pointer (some ⟨g, 0, none⟩), tuC k] w fun e w' => e = .returned (.bool (hasK l k).isSome) ∧ ∃ lv', RefT w' g room lv' (outK l k) ∧ w.grownBy w' (some g) ∧ ∀ b, lv'.ownBlock = some b → lv.ownBlock = some b ∨ w.heap.size ≤ b := by
  obtain ⟨Y, hY, hb, hbel, hys⟩ := box_tu1 w k
  obtain ⟨LK, hLK⟩ : ∃ C, (tuL k).toArray = C := ⟨_, rfl⟩
  have HY := Lib.hid (show w.alloc (.cells LK 26) = Y by rw [← hLK]; exact hY)
  have HB := Lib.hid hbel
  have e0 : tuC k = .agg LK := by unfold tuC; rw [hLK]
  rw [e0]
  have HLK := Lib.hid hLK
  have HT := Lib.hid (h.below hbel)
  have HF := Lib.hid (rfind21_any HT.out hk)
  rw [e0] at HF
  have HKB := Lib.hid (Blk_10.range hb)
  have HZ := Lib.hid (sizeTuL hk)
  have HN := Lib.hid hl
  have HRT := Lib.hid hrt
  have HNO := Lib.hid (place_none (l := l) (k := k))
  have HPS := Lib.hid (place_some (k := k) hrt.apart)
  have HOUT : Hid (hasK l k = none → outK l k = l) := Lib.hid (fun e => List.filter_eq_self.2 (fun z hz => by rw [tuQ_ne (hasK_none e z hz)]; rfl))
  clear h hl hrt hk hY hb hbel hys hLK e0
  obtain ⟨p, hp⟩ : ∃ p, placeK l k = p := ⟨_, rfl⟩
  rw [hp] at HF HNO HPS
  clear hp
  by_cases hp0 : p < 0
  · have e1 := HNO.out.1 hp0
    have HE := Lib.hid (HOUT.out e1)
    rw [e1, HE.out]
    clear e1
    go_enter Try.func22, Try.ntmps22
    go_upto_region 1 with (fail)
    rw [HY.out]
    go_wp2_with (first | ((with_reducible show wpList _ _ _ (⟨some 7, _, _, _, _, _⟩ :: _) _ _); refine wpList_loadM (op := ⟨some 7, _, _, _, _, _⟩) 26 _ rfl (by rfl) w.heap.size 0 (by rfl) (tuL k) HKB.out _ Try.underlying26 rfl HZ.out ?_; rw [HLK.out]) | ((with_reducible refine HF.out.mono ?_); rintro e w1 ⟨rfl, hb1⟩; have D1 := Lib.hid hb1; clear hb1))
    go_ret
    exact ⟨rfl, lv, HT.out.below D1.out, gbBel (HB.out.trans (D1.out.mono HB.out.size)) _, fun b hb => Or.inl hb⟩
  · obtain ⟨i, x, e1, e2, e3, e4⟩ := HPS.out hp0
    subst e1
    rw [e3, ← e4]
    have HC := Lib.hid (fun W => fun hW : Below Y.heap.size Y W => rcut_any (HT.out.below hW) HN.out i)
    clear e2 e3 e4
    go_enter Try.func22, Try.ntmps22
    go_upto_region 1 with (fail)
    rw [HY.out]
    go_wp2_with (first | ((with_reducible show wpList _ _ _ (⟨some 7, _, _, _, _, _⟩ :: _) _ _); refine wpList_loadM (op := ⟨some 7, _, _, _, _, _⟩) 26 _ rfl (by rfl) w.heap.size 0 (by rfl) (tuL k) HKB.out _ Try.underlying26 rfl HZ.out ?_; rw [HLK.out]) | ((with_reducible refine HF.out.mono ?_); rintro e w1 ⟨rfl, hb1⟩; have D1 := Lib.hid hb1; clear hb1) | ((with_reducible refine (HC.out w1 D1.out).mono ?_); rintro e w2 ⟨rfl, lv2, t2, g2, n2⟩; have T2 := Lib.hid t2; have G2 := Lib.hid g2; have N2 := Lib.hid n2; clear t2 g2 n2))
    go_ret
    exact ⟨rfl, lv2, T2.out, gbThen (gbBel (HB.out.trans (D1.out.mono HB.out.size)) _) G2.out, fun b hb => Or.inr (Nat.le_trans (Nat.le_trans HB.out.size D1.out.size) (N2.out b hb))⟩
end Go.Proofs.Ytfbiinipiklkaaa
namespace Go.Proofs.Ytfbiinipiklkaaa
set_option maxRecDepth 100000
open Go.RowKit Go.Lib

/-- Two owned slices lie in two blocks. -/
def Apart (a b : Value) : Prop := ∀ g, a.ownBlock = some g → b.ownBlock ≠ some g
theorem Apart.row {a b : Value} (h : Apart a b) : b.ownBlock = none ∨ b.ownBlock ≠ a.ownBlock := by
  cases hb : b.ownBlock with
  | none => exact .inl rfl
  | some g => exact .inr (fun e => h g e.symm hb)
theorem Apart.symm {a b : Value} (h : Apart a b) : Apart b a := fun g hb ha => h g ha hb
theorem apart_next {w : World} {base : Nat} {xs : List Fw} {a a' b : Value} (h : Apart a b) (ob : OwnG eF w base b xs) {n : Nat} (hn : w.heap.size ≤ n) (hv : a'.ownBlock = a.ownBlock ∨ a'.ownBlock = some n) : Apart a' b := by
  intro g hg hb
  rcases hv with e | e
  · exact h g (by rw [← e]; exact hg) hb
  · rw [e] at hg
    cases hg
    have := ob.ltS _ hb
    omega
def staleF (now : Int) (idle : List Int) (x : Fw) : Bool := staleB x.st x.sn now idle
theorem filter_take {l : List Fw} {k : Nat} {x : Fw} (q : Fw → Bool) (hx : l[k]? = some x) : (l.take (k + 1)).filter q = (l.take k).filter q ++ if q x = true then [x] else [] := by
  rw [List.take_add_one, hx]
  show (l.take k ++ [x]).filter q = _
  rw [List.filter_append]
  congr 1
  split
  · rename_i h
    rw [List.filter_cons_of_pos h, List.filter_nil]
  · rename_i h
    rw [List.filter_cons_of_neg h, List.filter_nil]
theorem filter_len (l : List Fw) (q : Fw → Bool) (k : Nat) : ((l.take k).filter q).length ≤ l.length := Nat.le_trans (List.length_filter_le ..) (by rw [List.length_take]; omega)
theorem idleSize {l : List Int} (h : l.length = 6) : (Try.prog.info? 45).map (·.size) = some (zL l).length := by
  rw [zL_len, h]
  kernel_rfl
set_option maxHeartbeats 8000000 in
theorem rsweep_any {w : World} {g : Nat} {room : Int} {lv : Value} {l : List Fw} (h : RefT w g room lv l) (hl : l.length ≤ 1000000) (now : Int) {idle : List Int} (h6 : idle.length = 6) : Calls Try.prog 25 #[.pointer (some ⟨g, 0, none⟩), .int .i64 now, zC idle] w fun e w' => ∃ v lv', e = .returned v ∧ OwnG eF w' w.heap.size v (l.filter (staleF now idle)) ∧ RefT w' g room lv' (l.filter fun x => !staleF now idle x) ∧ w.grownBy w' (some g) ∧ (∀ b, lv'.ownBlock = some b → w.heap.size ≤ b) ∧ Apart v lv' := by
  obtain ⟨A, n, c, hlv, hn, hnc, hcm, hr, _⟩ := h.own.sl
  subst hlv
  rw [← hn] at hl
  obtain ⟨LI, hLI⟩ : ∃ C, (zL idle).toArray = C := ⟨_, rfl⟩
  obtain ⟨Y, hY⟩ : ∃ Y, w.alloc (.cells LI 45) = Y := ⟨_, rfl⟩
  have hb : Blk_10 Y 45 w.heap.size (zL idle) := by rw [← hY, ← hLI]; exact Blk_10.new w _ _
  have hbel : Below w.heap.size w Y := by rw [← hY]; exact (Below.refl w.heap.size w).alloc (Nat.le_refl _) _
  have HY := Lib.hid hY
  have HB := Lib.hid hbel
  have e0 : zC idle = .agg LI := by unfold zC; rw [hLI]
  have HST : Hid (∀ (s seen : Int) (W : World), Calls Try.prog 47 #[.int .i64 s, .int .i64 seen, .int .i64 now, .agg LI] W fun e w' => e = .returned (.bool (staleB s seen now idle)) ∧ Below W.heap.size W w') := Lib.hid (fun s seen W => by
    rw [← e0]
    exact rstale_any s seen now idle h6 W)
  rw [e0]
  have HLI := Lib.hid hLI
  have HBL := Lib.hid (h.below hbel).blk
  have HG := Lib.hid (h.below hbel).lt
  have HG0 := Lib.hid h.lt
  have HQ : Hid (∀ W, Below Y.heap.size Y W → W.cell? ⟨g, 1, none⟩ = some (.slice A n c)) := Lib.hid (fun W hW => (Blk_10.below h.blk h.lt (hbel.trans (hW.mono hbel.size))).cell (i := 1) rfl)
  have HX := Lib.hid (hr.below hbel)
  have HYS := Lib.hid hbel.size
  have HL := Lib.hid hr.len
  have HN := Lib.hid hl
  have HIB : Hid (∀ W, Below Y.heap.size Y W → W.rangeAt w.heap.size 0 (zL idle)) := Lib.hid (fun W hW => Blk_10.range (Blk_10.below hb (Blk_10.lt hb) hW))
  have HZ := Lib.hid (idleSize h6)
  clear h hn hnc hcm hr hl hb hbel hY hLI e0
  obtain ⟨q, hq⟩ : ∃ q, staleF now idle = q := ⟨_, rfl⟩
  have HSQ : Hid (∀ x : Fw, staleB x.st x.sn now idle = q x) := Lib.hid (fun x => by rw [← hq]; rfl)
  rw [hq]
  clear hq
  go_enter Try.func25, Try.ntmps25
  go_upto_region 1 with (fail)
  rw [HY.out]
  go_wp2_with fail
  go_loopw [7, 8, 9] (fun t s i wr => ∃ k : Nat, k ≤ n ∧ i = .int .i64 (k : Int) ∧ Hid (OwnG eF wr Y.heap.size t ((l.take k).filter q)) ∧ Hid (OwnG eF wr Y.heap.size s ((l.take k).filter fun x => !q x)) ∧ Hid (Apart t s) ∧ Hid (Below Y.heap.size Y wr)) (fun _ _ i _ => n - (RowKit.intOf i).toNat)
  case atStart => exact ⟨0, Nat.zero_le _, rfl, Lib.hid (OwnG.nil_ eF _ _), Lib.hid (OwnG.nil_ eF _ _), Lib.hid (fun g e => by cases e), Lib.hid (Below.refl _ _)⟩
  case round =>
    obtain ⟨k, hk, rfl, HO, HP, HA, HW⟩ := hrel
    have q1 := HQ.out wr HW.out
    by_cases hlt : k < n
    · have h1 : (k : Int) < (n : Int) := by omega
      have h0 : (0 : Int) ≤ (k : Int) := by omega
      obtain ⟨b, off, rfl, _⟩ := HX.out.addr (by omega)
      obtain ⟨x, hx⟩ : ∃ x, l[k]? = some x := ⟨_, List.getElem?_eq_getElem (by rw [HL.out]; exact hlt)⟩
      have RX : Hid (∀ W, Below Y.heap.size Y W → W.rangeAt b (off + k * 41) (fwL x)) := Lib.hid (fun W hW => (HX.out.below (hW.mono HYS.out)).range hx)
      have RS : Hid (∀ W, Below Y.heap.size Y W → W.cell? ⟨b, off + k * 41 + 38, none⟩ = some (.int .i64 x.st)) := Lib.hid (fun W hW => (HX.out.below (hW.mono HYS.out)).cell hx 38 (fw_st x))
      have RN : Hid (∀ W, Below Y.heap.size Y W → W.cell? ⟨b, off + k * 41 + 39, none⟩ = some (.int .i64 x.sn)) := Lib.hid (fun W hW => (HX.out.below (hW.mono HYS.out)).cell hx 39 (fw_sn x))
      have HU := Lib.hid (filter_take q hx)
      have HU2 := Lib.hid (filter_take (fun x => !q x) hx)
      have HS := Lib.hid (HSQ.out x)
      obtain ⟨LX, hLX⟩ : ∃ L, (fwL x).toArray = L := ⟨_, rfl⟩
      have HLX := Lib.hid hLX
      have HLT := Lib.hid hlt
      have HLN : Hid (((l.take k).filter q).length + 1 ≤ 100000000) := Lib.hid (by have := filter_len l q k; have := HN.out; have := HL.out; omega)
      have HLN2 : Hid (((l.take k).filter fun x => !q x).length + 1 ≤ 100000000) := Lib.hid (by have := filter_len l (fun x => !q x) k; have := HN.out; have := HL.out; omega)
      have hk9 : k < 9223372036854775807 := by have := HN.out; omega
      generalize x.st = st at RS HS
      generalize x.sn = sn at RN HS
      obtain ⟨f, hf⟩ : ∃ f, q x = f := ⟨_, rfl⟩
      have HCS : Hid (∀ W : World, Calls Try.prog 47 #[.int .i64 st, .int .i64 sn, .int .i64 now, .agg LI] W fun e w' => e = .returned (.bool f) ∧ Below W.heap.size W w') := Lib.hid (fun W => by
        have := HST.out st sn W
        rw [HS.out, hf] at this
        exact this)
      rw [hf] at HU
      have HUN : Hid (List.filter (fun x => !q x) (List.take (k + 1) l) = List.filter (fun x => !q x) (List.take k l) ++ if (!f) = true then [x] else []) := Lib.hid (by rw [← hf]; exact HU2.out)
      clear hx hlt hLX hk hf HU2
      go_upto_region 6 with (fail)
      refine wp_region_held_drew (S := fun W => Below Y.heap.size Y W) (by kernel_rfl) (HW.out.drew) (fun hHeld => ?_)
      have HDR : Hid (Below wr.heap.size wr wr.drew) := Lib.hid (Below.refl wr.heap.size wr).drew
      refine tk 0 19 (.pointer (some ⟨g, 0, none⟩)) rfl hHeld ?_
      simp only [Act.put, sA, sZ, sS]
      refine tk 1 20 (.pointer (some ⟨g, 0, none⟩)) rfl hHeld ?_
      simp only [Act.put, sA, sZ, sS]
      refine tk 2 21 (.pointer (some ⟨g, 1, none⟩)) rfl hHeld ?_
      simp only [Act.put, sA, sZ, sS]
      refine tkY 3 22 (.slice (some ⟨b, off, none⟩) n c) rfl (Or.inl ⟨by rfl, fun W hW => by have hc := HQ.out W hW; go_simp⟩) hHeld ?_
      simp only [Act.put, sA, sZ, sS]
      refine tk 4 23 (.int .i64 (k : Int)) rfl hHeld ?_
      simp only [Act.put, sA, sZ, sS]
      refine tk 5 24 (.pointer (some ⟨b, off + k * 41, none⟩)) rfl hHeld ?_
      simp only [Act.put, sA, sZ, sS]
      refine tk 6 25 (.pointer (some ⟨b, off + k * 41 + 38, none⟩)) rfl hHeld ?_
      simp only [Act.put, sA, sZ, sS]
      refine tkY 7 26 (.int .i64 st) rfl (Or.inl ⟨by rfl, fun W hW => by have hc := RS.out W hW; go_simp⟩) hHeld ?_
      simp only [Act.put, sA, sZ, sS]
      refine tk 8 27 (.pointer (some ⟨g, 0, none⟩)) rfl hHeld ?_
      simp only [Act.put, sA, sZ, sS]
      refine tk 9 28 (.pointer (some ⟨g, 0, none⟩)) rfl hHeld ?_
      simp only [Act.put, sA, sZ, sS]
      refine tk 10 29 (.pointer (some ⟨g, 1, none⟩)) rfl hHeld ?_
      simp only [Act.put, sA, sZ, sS]
      refine tkY 11 30 (.slice (some ⟨b, off, none⟩) n c) rfl (Or.inl ⟨by rfl, fun W hW => by have hc := HQ.out W hW; go_simp⟩) hHeld ?_
      simp only [Act.put, sA, sZ, sS]
      refine tk 12 31 (.int .i64 (k : Int)) rfl hHeld ?_
      simp only [Act.put, sA, sZ, sS]
      refine tk 13 32 (.pointer (some ⟨b, off + k * 41, none⟩)) rfl hHeld ?_
      simp only [Act.put, sA, sZ, sS]
      refine tk 14 33 (.pointer (some ⟨b, off + k * 41 + 39, none⟩)) rfl hHeld ?_
      simp only [Act.put, sA, sZ, sS]
      refine tkY 15 34 (.int .i64 sn) rfl (Or.inl ⟨by rfl, fun W hW => by have hc := RN.out W hW; go_simp⟩) hHeld ?_
      simp only [Act.put, sA, sZ, sS]
      refine tk 16 35 (.int .i64 now) rfl hHeld ?_
      simp only [Act.put, sA, sZ, sS]
      refine tkY 17 36 (.agg LI) rfl (by rw [← HLI.out]; exact yieldsIf_load_mid (by rfl) 45 _ rfl w.heap.size (0) (by rfl) (zL idle) _ (HIB.out) Try.underlying45 rfl (HZ.out)) hHeld ?_
      simp only [Act.put, sA, sZ, sS]
      refine wpAnyH_ready (rs := [18]) (by kernel_rfl) (by simp) (AllReadyH.cons (o := ⟨some 37, _, _, _, _, _⟩) rfl (fun K hK => ?_) AllReadyH.nil)
      go_simp
      refine (HCS.out _).mono ?_
      rintro e wz ⟨rfl, hb⟩
      have HWZ := Lib.hid (hHeld.trans (hb.mono hHeld.size))
      have HBZ := Lib.hid (HDR.out.trans (hb.mono HDR.out.size))
      refine hK.out _ _ (HWZ.out) (fun hHeld => ?_)
      clear hK K hb
      refine wpAnyH_done (by kernel_rfl) ?_ _
      clear hHeld
      have q2 := HQ.out wz HWZ.out
      have HOZ := Lib.hid (HO.out.below HBZ.out)
      have HPZ := Lib.hid (HP.out.below HBZ.out)
      cases f
      · go_wp2_with (first | ((with_reducible show wpList _ _ _ (⟨some 55, _, _, _, _, _⟩ :: _) _ _); refine wpList_loadM (op := ⟨some 55, _, _, _, _, _⟩) 28 _ rfl (by rfl) (b) (off + k * 41) (by rfl) (fwL x) (RX.out wz HWZ.out) _ Try.underlying28 rfl (sizeFwL x) ?_) | ((with_reducible show wpList _ _ _ (⟨some 56, _, _, _, _, _⟩ :: _) _ _); refine wpList_build1 (o := ⟨some 56, _, _, _, _, _⟩) eF (by decide) x rfl 55 rfl LX HLX.out (by rw [← HLX.out]; rfl) ?_) | ((with_reducible show wpList _ _ _ (⟨some 57, _, _, _, _, _⟩ :: _) _ _); refine wpList_appendG (o := ⟨some 57, _, _, _, _, _⟩) eF rfl _ _ rfl Y.heap.size _ ((l.take k).filter fun x => !q x) (by rfl) (HPZ.out.alloc _) (wz.heap.size + 1) _ 1 1 [x] (by rfl) (RdG.laid eF wz [x] 1 rfl _ (by rw [← HLX.out]; simp [Enc.cells]; rfl)) (HLN2.out) (by rw [World.size_alloc]; exact Nat.le_succ_of_le HWZ.out.size) ?_; intro v9 w9 ho9 hg9 hv9; have HO9 := Lib.hid ho9; have HG9 := Lib.hid hg9; have HV9 := Lib.hid hv9; clear ho9 hg9 hv9))
        have HBN := Lib.hid (((Below.refl Y.heap.size wz).alloc (HWZ.out.size) (.cells LX 28)).grown HG9.out (by rw [World.size_alloc]; exact Nat.le_succ_of_le HWZ.out.size) (HPZ.out.lt))
        have HA9 := Lib.hid (apart_next HA.out.symm HOZ.out (by rw [World.size_alloc]; omega) HV9.out).symm
        go_roundw
        case rel => exact ⟨k + 1, HLT.out, (by have := HLT.out; go_num), Lib.hid (by rw [HU.out, if_neg Bool.false_ne_true, List.append_nil]; exact (HOZ.out.alloc _).kept HG9.out (Apart.row HA.out.symm)), Lib.hid (by rw [HUN.out]; exact HO9.out), HA9, Lib.hid (HWZ.out.trans HBN.out)⟩
        case measure =>
          have := HLT.out
          simp [RowKit.intOf]
          omega
      · go_wp2_with (first | ((with_reducible show wpList _ _ _ (⟨some 45, _, _, _, _, _⟩ :: _) _ _); refine wpList_loadM (op := ⟨some 45, _, _, _, _, _⟩) 28 _ rfl (by rfl) (b) (off + k * 41) (by rfl) (fwL x) (RX.out wz HWZ.out) _ Try.underlying28 rfl (sizeFwL x) ?_) | ((with_reducible show wpList _ _ _ (⟨some 46, _, _, _, _, _⟩ :: _) _ _); refine wpList_build1 (o := ⟨some 46, _, _, _, _, _⟩) eF (by decide) x rfl 45 rfl LX HLX.out (by rw [← HLX.out]; rfl) ?_) | ((with_reducible show wpList _ _ _ (⟨some 47, _, _, _, _, _⟩ :: _) _ _); refine wpList_appendG (o := ⟨some 47, _, _, _, _, _⟩) eF rfl _ _ rfl Y.heap.size _ ((l.take k).filter q) (by rfl) (HOZ.out.alloc _) (wz.heap.size + 1) _ 1 1 [x] (by rfl) (RdG.laid eF wz [x] 1 rfl _ (by rw [← HLX.out]; simp [Enc.cells]; rfl)) (HLN.out) (by rw [World.size_alloc]; exact Nat.le_succ_of_le HWZ.out.size) ?_; intro v9 w9 ho9 hg9 hv9; have HO9 := Lib.hid ho9; have HG9 := Lib.hid hg9; have HV9 := Lib.hid hv9; clear ho9 hg9 hv9))
        have HBN := Lib.hid (((Below.refl Y.heap.size wz).alloc (HWZ.out.size) (.cells LX 28)).grown HG9.out (by rw [World.size_alloc]; exact Nat.le_succ_of_le HWZ.out.size) (HOZ.out.lt))
        go_roundw
        case rel => exact ⟨k + 1, HLT.out, (by have := HLT.out; go_num), Lib.hid (by rw [HU.out, if_pos rfl]; exact HO9.out), Lib.hid (by rw [HUN.out, if_neg (by decide), List.append_nil]; exact (HPZ.out.alloc _).kept HG9.out (Apart.row HA.out)), Lib.hid (apart_next HA.out HPZ.out (by rw [World.size_alloc]; omega) HV9.out), Lib.hid (HWZ.out.trans HBN.out)⟩
        case measure =>
          have := HLT.out
          simp [RowKit.intOf]
          omega
    · obtain rfl : k = n := by omega
      have h1 : ¬ (k : Int) < (k : Int) := by omega
      have HTK : Hid (l.take k = l) := Lib.hid (List.take_of_length_le (Nat.le_of_eq HL.out))
      rw [HTK.out] at HO HP
      obtain ⟨A9, n9, c9, rfl, e9, _, _, r9, _⟩ := HP.out.sl
      have HBK := Lib.hid (Blk_10.below HBL.out HG.out HW.out)
      have HFAR : Hid ((Value.slice A9 n9 c9).ownBlock ≠ some g) := Lib.hid (fun e => by have := HP.out.lt g e; have := HG.out; omega)
      clear hlt hk e9 r9
      go_wp2_with ((with_reducible show wpList _ _ _ (⟨none, _, _, _, _, _⟩ :: _) _ _); refine wpList_storeB1 (op := ⟨none, _, _, _, _, _⟩) rfl 42 (.tmp 61) (.tmp 59) rfl g 1 (by rfl) (.slice A9 n9 c9) (by rfl) 44 _ HBK.out (by simp) sliceSize rfl rfl ?_; intro w4 hb4 hg4; have K4 := Lib.hid hb4; have G4 := Lib.hid hg4; clear hb4 hg4)
      go_ret
      exact ⟨_, rfl, (HO.out.kept G4.out (Or.inr (fun e => by have := HO.out.lt g e; have := HG.out; omega))).base_le HYS.out, _, ⟨K4.out, (HP.out.kept G4.out (Or.inr HFAR.out)).base_le (Nat.zero_le _), HFAR.out⟩, gbThen (gbBel (HB.out.trans (HW.out.mono HYS.out)) _) G4.out, fun b hb => Nat.le_trans HYS.out (HP.out.lt b hb), HA.out⟩
end Go.Proofs.Ytfbiinipiklkaaa
namespace Go.Proofs.Ytfbiinipiklkaaa
set_option maxRecDepth 100000
open Go.RowKit Go.Lib

theorem zer_fw : (fwL fw0).toArray = #[.bool false, .int .u8 0, .int .u8 0, .int .u8 0, .int .u8 0, .int .u8 0, .int .u8 0, .int .u8 0, .int .u8 0, .int .u8 0, .int .u8 0, .int .u8 0, .int .u8 0, .int .u8 0, .int .u8 0, .int .u8 0, .int .u8 0, .bool false, .int .u8 0, .int .u8 0, .int .u8 0, .int .u8 0, .int .u8 0, .int .u8 0, .int .u8 0, .int .u8 0, .int .u8 0, .int .u8 0, .int .u8 0, .int .u8 0, .int .u8 0, .int .u8 0, .int .u8 0, .int .u8 0, .int .i64 0, .int .i64 0, .int .i64 0, .string ⟨#[]⟩, .int .i64 0, .int .i64 0, .int .i64 0] := by rfl
/-- How a flow goes into the list, one by one. -/
def anyF (f : Fw) (l : List Fw) : Bool := l.any fun x => olderF f x
def laidF (f : Fw) (l : List Fw) : List Fw := if anyF f l = true then insF f l else l
theorem ins_any {f : Fw} {m : List Fw} : ∀ {l : List Fw}, anyF f l = true → insF f (l ++ m) = insF f l ++ m
  | [], h => by simp [anyF] at h
  | x :: l, h => by
    show insF f (x :: (l ++ m)) = insF f (x :: l) ++ m
    unfold insF
    split
    · rfl
    · rename_i hx
      rw [ins_any (by unfold anyF at h ⊢; rw [List.any_cons, Bool.eq_false_iff.2 hx, Bool.false_or] at h; exact h)]
      rfl
theorem ins_none {f : Fw} {m : List Fw} : ∀ {l : List Fw}, anyF f l = false → insF f (l ++ m) = l ++ insF f m
  | [], _ => rfl
  | x :: l, h => by
    unfold anyF at h
    rw [List.any_cons, Bool.or_eq_false_iff] at h
    show insF f (x :: (l ++ m)) = x :: (l ++ insF f m)
    rw [insF, if_neg (by rw [h.1]; exact Bool.false_ne_true), ins_none (by unfold anyF; exact h.2)]
theorem any_snoc (f x : Fw) (l : List Fw) : anyF f (l ++ [x]) = (anyF f l || olderF f x) := by
  unfold anyF
  rw [List.any_append, List.any_cons, List.any_nil, Bool.or_false]
theorem take_snoc {l : List Fw} {k : Nat} {x : Fw} (hx : l[k]? = some x) : l.take (k + 1) = l.take k ++ [x] := by rw [List.take_add_one, hx]; rfl
theorem laid_done {f x : Fw} {l : List Fw} (h : anyF f l = true) : laidF f (l ++ [x]) = laidF f l ++ [x] ∧ anyF f (l ++ [x]) = true := by
  have e : anyF f (l ++ [x]) = true := by rw [any_snoc, h, Bool.true_or]
  refine ⟨?_, e⟩
  unfold laidF
  rw [if_pos e, if_pos h, ins_any h]
theorem laid_now {f x : Fw} {l : List Fw} (h : anyF f l = false) (hx : olderF f x = true) : laidF f (l ++ [x]) = laidF f l ++ [f] ++ [x] ∧ anyF f (l ++ [x]) = true := by
  have e : anyF f (l ++ [x]) = true := by rw [any_snoc, hx, Bool.or_true]
  refine ⟨?_, e⟩
  unfold laidF
  rw [if_pos e, if_neg (by rw [h]; exact Bool.false_ne_true), ins_none h, insF, if_pos hx, List.append_assoc]
  rfl
theorem laid_not {f x : Fw} {l : List Fw} (h : anyF f l = false) (hx : olderF f x = false) : laidF f (l ++ [x]) = laidF f l ++ [x] ∧ anyF f (l ++ [x]) = false := by
  have e : anyF f (l ++ [x]) = false := by rw [any_snoc, hx, h, Bool.or_false]
  refine ⟨?_, e⟩
  unfold laidF
  rw [if_neg (by rw [e]; exact Bool.false_ne_true), if_neg (by rw [h]; exact Bool.false_ne_true)]
theorem laid_ins {f : Fw} {l : List Fw} (h : anyF f l = true) : laidF f l = insF f l := if_pos h
theorem laid_plain {f : Fw} {l : List Fw} (h : anyF f l = false) : laidF f l ++ [f] = insF f l := by
  have := ins_none (m := []) h
  rw [List.append_nil] at this
  rw [this]
  unfold laidF
  rw [if_neg (by rw [h]; exact Bool.false_ne_true)]
  rfl
theorem laid_len (f : Fw) (l : List Fw) : (laidF f l).length ≤ l.length + 1 := by
  unfold laidF
  split
  · rw [insF_len]
    exact Nat.le_refl _
  · exact Nat.le_succ _
/-- What Put answers. -/
def putV (rm : Nat) (l : List Fw) (f : Fw) : Value := .tuple #[fwC ((goneT rm l f).getD fw0), .bool (goneT rm l f).isSome, .int .i64 (if rightF f = true then 0 else 1)]
theorem put_bad {rm : Nat} {l : List Fw} {f : Fw} (h : rightF f = false) : putV rm l f = .tuple #[fwC fw0, .bool false, .int .i64 1] ∧ putT rm l f = l := by
  have h2 : ¬ rightF f = true := by rw [h]; exact Bool.false_ne_true
  unfold putV goneT putT
  rw [if_neg h2, if_neg h2, if_neg h2]
  exact ⟨rfl, rfl⟩
theorem put_has {rm : Nat} {l : List Fw} {f x : Fw} (h : rightF f = true) (hx : hasK l f.k = some x) : putV rm l f = .tuple #[fwC fw0, .bool false, .int .i64 0] ∧ putT rm l f = insF f (outK l f.k) := by
  have e : (hasK l f.k).isSome = true := by rw [hx]; rfl
  unfold putV goneT putT madeR
  rw [if_pos h, if_pos h, if_pos h, if_pos e, if_pos e]
  exact ⟨rfl, rfl⟩
theorem put_full {rm : Nat} {l : List Fw} {f x : Fw} (h : rightF f = true) (hx : hasK l f.k = none) (hl : rm ≤ l.length) (h0 : l[0]? = some x) : putV rm l f = .tuple #[fwC x, .bool true, .int .i64 0] ∧ putT rm l f = insF f (l.eraseIdx 0) := by
  have e : ¬ (hasK l f.k).isSome = true := by rw [hx]; exact Bool.false_ne_true
  have e2 : l.head? = some x := by rw [List.head?_eq_getElem?]; exact h0
  unfold putV goneT putT madeR
  rw [if_pos h, if_pos h, if_pos h, if_neg e, if_neg e, if_pos hl, if_pos hl, e2]
  refine ⟨rfl, ?_⟩
  rw [List.eraseIdx_zero]
theorem put_room {rm : Nat} {l : List Fw} {f : Fw} (h : rightF f = true) (hx : hasK l f.k = none) (hl : ¬ rm ≤ l.length) : putV rm l f = .tuple #[fwC fw0, .bool false, .int .i64 0] ∧ putT rm l f = insF f l := by
  have e : ¬ (hasK l f.k).isSome = true := by rw [hx]; exact Bool.false_ne_true
  unfold putV goneT putT madeR
  rw [if_pos h, if_pos h, if_pos h, if_neg e, if_neg e, if_neg hl, if_neg hl]
  exact ⟨rfl, rfl⟩
theorem results_fw3 {fn : Func} {p u v : Tmp} (hr : fn.results = #[.cell p 28, .tmp u, .tmp v]) (tmps : Array Value) (w : World) (g : Nat) (hp : tmps.getD p undef = .pointer (some ⟨g, 0, none⟩)) (x : Fw) (hb : Blk_10 w 28 g (fwL x))
    (a b : Value) (hu : tmps.getD u undef = a) (hv : tmps.getD v undef = b) : (results fn tmps).run Try.prog w = .ok (.tuple #[fwC x, a, b]) w := by
  have hz := run_loadVar_mid (P := Try.prog) w g 0 28 (fwL x) _ (Blk_10.range hb) Try.underlying28 rfl (sizeFwL x)
  have hc : (results fn tmps).run Try.prog w = ((asAddr (tmps.getD p undef)).run Try.prog w).andThen fun a w₁ => ((loadVar 28 a).run Try.prog w₁).andThen fun x w₂ => .ok (.tuple #[x, tmps.getD u undef, tmps.getD v undef]) w₂ := by
    simp only [results, hr]
    simp [Sem.run_bind, Result.andThen]
  rw [hc, hp, hu, hv]
  simp [Result.andThen, asAddr, hz, fwC]
theorem gbNew {a b c : World} {row : Option Nat} {m : Nat} (h1 : a.grownBy b row) (h2 : b.grownBy c (some m)) (hm : a.heap.size ≤ m) : a.grownBy c row :=
  ⟨h2.os.trans h1.os, h2.tape.trans h1.tape, h2.output.trans h1.output, Nat.le_trans h1.size h2.size, fun k hk hne => (h2.block k (Nat.lt_of_lt_of_le hk h1.size) (fun e => by cases e; omega)).trans (h1.block k hk hne)⟩
set_option maxHeartbeats 16000000 in
theorem rput21_any {w : World} {g rm : Nat} {lv : Value} {l : List Fw} (h : RefT w g (rm : Int) lv l) (hrt : RightT rm l) (h0r : 0 < rm) (hrm : rm ≤ 100000) (f : Fw) (hn : f.nm.length ≤ 1000000) : Calls Try.prog 20 #[.pointer (some ⟨g, 0, none⟩), fwC f] w fun e w' => e = .returned (putV rm l f) ∧ ∃ lv', RefT w' g (rm : Int) lv' (putT rm l f) ∧ w.grownBy w' (some g) ∧ ∀ b, lv'.ownBlock = some b → lv.ownBlock = some b ∨ w.heap.size ≤ b := by
  obtain ⟨Y1, hY1, hb1, hbel1, hys1⟩ := box_fw1 w f
  obtain ⟨Y, hY, hb2, hbel2, hys2⟩ := box_fw1 Y1 fw0
  obtain ⟨LF, hLF⟩ : ∃ C, (fwL f).toArray = C := ⟨_, rfl⟩
  obtain ⟨LK, hLK⟩ : ∃ C, (tuL f.k).toArray = C := ⟨_, rfl⟩
  have HZF := Lib.hid zer_fw
  have HY1 := Lib.hid (show w.alloc (.cells LF 28) = Y1 by rw [← hLF]; exact hY1)
  have HY := Lib.hid (show Y1.alloc (.cells #[.bool false, .int .u8 0, .int .u8 0, .int .u8 0, .int .u8 0, .int .u8 0, .int .u8 0, .int .u8 0, .int .u8 0, .int .u8 0, .int .u8 0, .int .u8 0, .int .u8 0, .int .u8 0, .int .u8 0, .int .u8 0, .int .u8 0, .bool false, .int .u8 0, .int .u8 0, .int .u8 0, .int .u8 0, .int .u8 0, .int .u8 0, .int .u8 0, .int .u8 0, .int .u8 0, .int .u8 0, .int .u8 0, .int .u8 0, .int .u8 0, .int .u8 0, .int .u8 0, .int .u8 0, .int .i64 0, .int .i64 0, .int .i64 0, .string ⟨#[]⟩, .int .i64 0, .int .i64 0, .int .i64 0] 28) = Y by rw [← zer_fw]; exact hY)
  have HLF := Lib.hid hLF
  have HLK := Lib.hid hLK
  have HB := Lib.hid (show Below w.heap.size w Y from hbel1.trans (hbel2.mono hbel1.size))
  rw [hys1] at hb2 hys2
  have HFB := Lib.hid (Blk_10.below hb1 (Blk_10.lt hb1) hbel2)
  have HRB := Lib.hid hb2
  have HFL := Lib.hid (show w.heap.size < Y.heap.size by omega)
  have HRL := Lib.hid (show w.heap.size + 1 < Y.heap.size by omega)
  have HT := Lib.hid (h.below HB.out)
  have HTW := Lib.hid h
  have HG := Lib.hid h.lt
  have HRT := Lib.hid hrt
  have HRM := Lib.hid (show 0 < rm ∧ rm ≤ 100000 from ⟨h0r, hrm⟩)
  have HRI := Lib.hid (fun W => rright21_any f hn W)
  have e0 : fwC f = .agg LF := by unfold fwC; rw [hLF]
  have ek : tuC f.k = .agg LK := by unfold tuC; rw [hLK]
  rw [e0] at HRI ⊢
  have HF : Hid (∀ (W : World), RefT W g (rm : Int) lv l → Calls Try.prog 27 #[.pointer (some ⟨g, 0, none⟩), .agg LK] W fun e w' => e = .returned (.int .i64 (placeK l f.k)) ∧ Below W.heap.size W w') := Lib.hid (fun W hW => by rw [← ek]; exact rfind21_any hW f.ok)
  have HFIT := Lib.hid (fun h : rightF f = true => right_fit h)
  have HZK := Lib.hid (sizeTuL f.ok)
  have HZL := Lib.hid (sizeFwL f)
  clear h hrt h0r hrm hn hY1 hb1 hbel1 hys1 hY hb2 hbel2 hys2 hLF hLK e0 ek
  obtain ⟨V, hV⟩ : ∃ v, putV rm l f = v := ⟨_, rfl⟩
  obtain ⟨L', hL'⟩ : ∃ v, putT rm l f = v := ⟨_, rfl⟩
  rw [hV, hL']
  have HV := Lib.hid hV
  have HL' := Lib.hid hL'
  clear hV hL'
  obtain ⟨rt, hr⟩ : ∃ r, rightF f = r := ⟨_, rfl⟩
  have HR := Lib.hid hr
  rw [hr] at HRI
  clear hr
  cases rt
  · have HE := Lib.hid (put_bad (rm := rm) (l := l) HR.out)
    rw [HV.out, HL'.out] at HE
    go_enter Try.func20, Try.ntmps20
    go_upto_region 1 with (fail)
    rw [HY1.out, HY.out]
    go_wp2_with (first | ((with_reducible show wpList _ _ _ (⟨some 13, _, _, _, _, _⟩ :: _) _ _); refine wpList_loadM (op := ⟨some 13, _, _, _, _, _⟩) 28 _ rfl (by rfl) (w.heap.size) (0) (by rfl) (fwL f) (Blk_10.range HFB.out) _ Try.underlying28 rfl (sizeFwL f) ?_; rw [HLF.out]) | ((with_reducible refine (HRI.out Y).mono ?_); rintro e w1 ⟨rfl, hb1⟩; have D1 := Lib.hid hb1; clear hb1) | ((with_reducible show wpList _ _ _ (⟨none, .store 28 (.tmp 4) _, _, _, _, _⟩ :: _) _ _); refine wpList_storeBA rfl 28 (.tmp 4) _ rfl (w.heap.size + 1) (by rfl) (fwL fw0) (by rw [← HZF.out]; rfl) (fwL fw0) (Blk_10.below HRB.out HRL.out D1.out) (by simp only [fwL_len]) (sizeFwL fw0) (fwL_one fw0) ?_; intro w2 hbs hgs; have Kw2 := Lib.hid hbs; have Gw2 := Lib.hid hgs; clear hbs hgs))
    refine bodyPost_ret (v := .tuple #[fwC fw0, .bool false, .int .i64 1]) (results_fw3 rfl _ _ (w.heap.size + 1) (by rfl) fw0 Kw2.out _ _ (by rfl) (by rfl)) rfl ?_
    have hbw := below_gb (HB.out.trans (D1.out.mono HB.out.size)) Gw2.out (Nat.le_succ _) (Nat.le_trans HB.out.size D1.out.size)
    exact ⟨by rw [HE.out.1], lv, by rw [HE.out.2]; exact HTW.out.below hbw, gbBel hbw _, fun b hb => Or.inl hb⟩
  · have HP := Lib.hid (place_none (l := l) (k := f.k))
    have HPS := Lib.hid (place_some (k := f.k) HRT.out.apart)
    obtain ⟨p, hp⟩ : ∃ p, placeK l f.k = p := ⟨_, rfl⟩
    rw [hp] at HF HP HPS
    clear hp
    have HLN := Lib.hid (Nat.le_trans HRT.out.fits HRM.out.2)
    by_cases hp0 : p < 0
    case neg =>
      obtain ⟨i, xo, e1, e2, e3, e4⟩ := HPS.out hp0
      subst e1
      have HE := Lib.hid (put_has (rm := rm) HR.out e3)
      rw [HV.out, HL'.out, ← e4] at HE
      have hi0 : (0 : Int) ≤ (i : Int) := by omega
      clear hp0 e2 e3 e4
      go_enter Try.func20, Try.ntmps20
      go_upto_region 1 with (fail)
      rw [HY1.out, HY.out]
      go_upto_region 12 with (first | ((with_reducible show wpList _ _ _ (⟨some 13, _, _, _, _, _⟩ :: _) _ _); refine wpList_loadM (op := ⟨some 13, _, _, _, _, _⟩) 28 _ rfl (by rfl) (w.heap.size) (0) (by rfl) (fwL f) (Blk_10.range HFB.out) _ Try.underlying28 rfl (sizeFwL f) ?_; rw [HLF.out]) | ((with_reducible refine (HRI.out Y).mono ?_); rintro e w1 ⟨rfl, hb1⟩; have D1 := Lib.hid hb1; clear hb1) | ((with_reducible show wpList _ _ _ (⟨none, .store 28 (.tmp 7) _, _, _, _, _⟩ :: _) _ _); refine wpList_storeNewG rfl 28 (.tmp 7) _ rfl (by rfl) (fwL fw0) (by rw [← HZF.out]; rfl) (by rfl) (sizeFwL fw0) (fwL_one fw0) ?_; intro w2 hbn hBn hzn; have K2 := Lib.hid hbn; have D2 := Lib.hid (D1.out.trans (hBn.mono D1.out.size)); have S2 := Lib.hid hzn; clear hbn hBn hzn) | ((with_reducible show wpList _ _ _ (⟨some 20, _, _, _, _, _⟩ :: _) _ _); refine wpList_loadM (op := ⟨some 20, _, _, _, _, _⟩) 26 _ rfl (by rfl) w.heap.size 0 (by rfl) (tuL f.k) (fw_key (Blk_10.range (Blk_10.below HFB.out HFL.out D2.out))) _ Try.underlying26 rfl HZK.out ?_; rw [HLK.out]) | ((with_reducible refine (HF.out w2 (HT.out.below D2.out)).mono ?_); rintro e w3 ⟨rfl, hb3⟩; have D23 := Lib.hid hb3; have D3 := Lib.hid (D2.out.trans (hb3.mono D2.out.size)); have K3 := Lib.hid (Blk_10.below K2.out (Blk_10.lt K2.out) hb3); have T3 := Lib.hid ((HT.out.below D2.out).below hb3); clear hb3) | ((with_reducible refine (rcut_any T3.out (Nat.le_trans HLN.out (by decide)) i).mono ?_); rintro e wt ⟨rfl, lvt, t4, g4, n4⟩; have T := Lib.hid t4; have GC := Lib.hid g4; clear t4 g4 n4))
      have FIT := Lib.hid (HFIT.out HR.out)
      have hneB : (some g : Option Nat) ≠ some w.heap.size := fun e => by cases e; exact absurd HG.out (Nat.lt_irrefl _)
      have hneR : (some g : Option Nat) ≠ some (w.heap.size + 1) := fun e => by cases e; have := HG.out; omega
      have hneG : (some g : Option Nat) ≠ some w1.heap.size := fun e => by cases e; have := HG.out; have := HB.out.size; have := D1.out.size; omega
      have FB := Lib.hid (Blk.gb (Blk_10.below HFB.out HFL.out D3.out) GC.out hneB)
      have RB := Lib.hid (Blk.gb (Blk_10.below HRB.out HRL.out D3.out) GC.out hneR)
      have GB := Lib.hid (Blk.gb K3.out GC.out hneG)
      have GNE : Hid (g ≠ w1.heap.size) := Lib.hid (fun e => hneG (by rw [← e]))
      have GW := Lib.hid (gbThen (gbBel (HB.out.trans (D3.out.mono HB.out.size)) (some g)) GC.out)
      have N1 : Hid ((l.eraseIdx i).length ≤ 100000) := Lib.hid (Nat.le_trans (erase_len l i) HLN.out)
      have RT : Hid (∀ x, x ∈ l.eraseIdx i → rightF x = true) := Lib.hid (fun x hx => HRT.out.right x (List.mem_of_mem_eraseIdx hx))
      clear hneB hneR hneG
      generalize l.eraseIdx i = l1 at T HE N1 RT
      obtain ⟨A1, n1, c1, hlv1, hn1, _, _, hr1, _⟩ := T.out.own.sl
      rw [hlv1] at T
      clear hlv1
      have HQ : Hid (∀ W, Below wt.heap.size wt W → W.cell? ⟨g, 1, none⟩ = some (.slice A1 n1 c1)) := Lib.hid (fun W hW => (Blk_10.below T.out.blk T.out.lt hW).cell (i := 1) rfl)
      have HX := Lib.hid hr1
      have HL := Lib.hid hr1.len
      have HN1 : Hid (n1 ≤ 100000) := Lib.hid (by rw [hn1]; exact N1.out)
      have HFR : Hid (∀ W, Below wt.heap.size wt W → W.rangeAt w.heap.size 0 (fwL f)) := Lib.hid (fun W hW => Blk_10.range (Blk_10.below FB.out (Blk_10.lt FB.out) hW))
      clear hr1 hn1
      go_wp2_with fail
      go_loopw [10, 11, 12] (fun t d i wr => ∃ k : Nat, k ≤ n1 ∧ i = .int .i64 (k : Int) ∧ d = .bool (anyF f (l1.take k)) ∧ Hid (OwnG eF wr wt.heap.size t (laidF f (l1.take k))) ∧ Hid (Below wt.heap.size wt wr)) (fun _ _ i _ => n1 - (RowKit.intOf i).toNat)
      case atStart => exact ⟨0, Nat.zero_le _, rfl, by rw [List.take_zero]; rfl, Lib.hid (OwnG.nil_ eF _ _), Lib.hid (Below.refl _ _)⟩
      case round =>
        obtain ⟨k, hk, rfl, rfl, HO, HW⟩ := hrel
        have q1 := HQ.out wr HW.out
        obtain ⟨D, hD⟩ : ∃ D, anyF f (l1.take k) = D := ⟨_, rfl⟩
        rw [hD]
        have HD := Lib.hid hD
        clear hD
        by_cases hlt : k < n1
        · have h1 : (k : Int) < (n1 : Int) := by omega
          have h0 : (0 : Int) ≤ (k : Int) := by omega
          obtain ⟨b, off, hA1, _⟩ := HX.out.addr (by omega)
          subst hA1
          obtain ⟨x, hx⟩ : ∃ x, l1[k]? = some x := ⟨_, List.getElem?_eq_getElem (by rw [HL.out]; exact hlt)⟩
          have RX : Hid (∀ W, Below wt.heap.size wt W → W.rangeAt b (off + k * 41) (fwL x)) := Lib.hid (fun W hW => (HX.out.below hW).range hx)
          have HTS := Lib.hid (take_snoc hx)
          have HFX : Hid (rightF x = true) := Lib.hid (RT.out x (List.mem_of_getElem? hx))
          obtain ⟨LX, hLX⟩ : ∃ L, (fwL x).toArray = L := ⟨_, rfl⟩
          have HLX := Lib.hid hLX
          have HLT := Lib.hid hlt
          have HLB : Hid ((laidF f (l1.take k)).length + 2 ≤ 100000000) := Lib.hid (by have := laid_len f (l1.take k); rw [List.length_take] at this; have := HN1.out; omega)
          have HLB1 : Hid ((laidF f (l1.take k)).length + 1 ≤ 100000000) := Lib.hid (by have := HLB.out; omega)
          have hk9 : k < 9223372036854775807 := by have := HN1.out; omega
          obtain ⟨s, hs⟩ : ∃ s, olderF f x = s := ⟨_, rfl⟩
          have HCO : Hid (∀ W : World, Calls Try.prog 16 #[.agg LF, .agg LX] W fun e w' => e = .returned (.bool s) ∧ Below W.heap.size W w') := Lib.hid (fun W => by
            have := rolder21_any FIT.out (right_fit HFX.out) W
            unfold fwC at this
            rw [HLF.out, hLX, hs] at this
            exact this)
          have HS := Lib.hid hs
          clear hx hlt hLX hk hs
          cases D
          · go_upto_region 17 with (fail)
            refine wp_region_held_drew (S := fun W => Below wt.heap.size wt W) (by kernel_rfl) (HW.out.drew) (fun hHeld => ?_)
            have HDR : Hid (Below wr.heap.size wr wr.drew) := Lib.hid (Below.refl wr.heap.size wr).drew
            refine tk 0 54 (.bool false) rfl hHeld ?_
            simp only [Act.put, sA, sZ, sS]
            refine tk 1 55 (.bool true) rfl hHeld ?_
            simp only [Act.put, sA, sZ, sS]
            refine tk 2 56 (.bool true) rfl hHeld ?_
            simp only [Act.put, sA, sZ, sS]
            refine tkY 3 57 (.agg LF) rfl (by rw [← HLF.out]; exact yieldsIf_load_mid (by rfl) 28 _ rfl w.heap.size (0) (by rfl) (fwL f) _ (HFR.out) Try.underlying28 rfl (HZL.out)) hHeld ?_
            simp only [Act.put, sA, sZ, sS]
            refine tk 4 58 (.pointer (some ⟨g, 0, none⟩)) rfl hHeld ?_
            simp only [Act.put, sA, sZ, sS]
            refine tk 5 59 (.pointer (some ⟨g, 0, none⟩)) rfl hHeld ?_
            simp only [Act.put, sA, sZ, sS]
            refine tk 6 60 (.pointer (some ⟨g, 1, none⟩)) rfl hHeld ?_
            simp only [Act.put, sA, sZ, sS]
            refine tkY 7 61 (.slice (some ⟨b, off, none⟩) n1 c1) rfl (Or.inl ⟨by rfl, fun W hW => by have hc := HQ.out W hW; go_simp⟩) hHeld ?_
            simp only [Act.put, sA, sZ, sS]
            refine tk 8 62 (.int .i64 (k : Int)) rfl hHeld ?_
            simp only [Act.put, sA, sZ, sS]
            refine tk 9 63 (.pointer (some ⟨b, off + k * 41, none⟩)) rfl hHeld ?_
            simp only [Act.put, sA, sZ, sS]
            refine tkY 10 64 (.agg LX) rfl (by rw [← HLX.out]; exact yieldsIf_load_mid (by rfl) 28 _ rfl b (off + k * 41) (by rfl) (fwL x) _ (RX.out) Try.underlying28 rfl (sizeFwL x)) hHeld ?_
            simp only [Act.put, sA, sZ, sS]
            refine wpAnyH_ready (rs := [11]) (by kernel_rfl) (by simp) (AllReadyH.cons (o := ⟨some 65, _, _, _, _, _⟩) rfl (fun K hK => ?_) AllReadyH.nil)
            go_simp
            refine (HCO.out _).mono ?_
            rintro e wz ⟨rfl, hb⟩
            have HWZ := Lib.hid (hHeld.trans (hb.mono hHeld.size))
            have HBZ := Lib.hid (HDR.out.trans (hb.mono HDR.out.size))
            refine hK.out _ _ (HWZ.out) (fun hHeld => ?_)
            clear hK K hb
            refine tk 12 66 (.bool s) rfl hHeld ?_
            simp only [Act.put, sA, sZ, sS]
            refine wpAnyH_done (by kernel_rfl) ?_ _
            clear hHeld
            have q2 := HQ.out wz HWZ.out
            have HOZ := Lib.hid (HO.out.below HBZ.out)
            cases s
            · have HU := Lib.hid (laid_not HD.out HS.out)
              go_wp2_with (first | ((with_reducible show wpList _ _ _ (⟨some 78, _, _, _, _, _⟩ :: _) _ _); refine wpList_loadM (op := ⟨some 78, _, _, _, _, _⟩) 28 _ rfl (by rfl) (b) (off + k * 41) (by rfl) (fwL x) (RX.out wz HWZ.out) _ Try.underlying28 rfl (sizeFwL x) ?_; rw [HLX.out]) | ((with_reducible show wpList _ _ _ (⟨some 79, _, _, _, _, _⟩ :: _) _ _); refine wpList_build1 (o := ⟨some 79, _, _, _, _, _⟩) eF (by decide) x rfl 78 rfl LX HLX.out (by rw [← HLX.out]; rfl) ?_) | ((with_reducible show wpList _ _ _ (⟨some 80, _, _, _, _, _⟩ :: _) _ _); refine wpList_appendG (o := ⟨some 80, _, _, _, _, _⟩) eF rfl _ _ rfl wt.heap.size _ (laidF f (l1.take k)) (by rfl) (HOZ.out.alloc _) (wz.heap.size + 1) _ 1 1 [x] (by rfl) (RdG.laid eF wz [x] 1 rfl _ (by rw [← HLX.out]; simp [Enc.cells]; rfl)) (HLB1.out) (by rw [World.size_alloc]; exact Nat.le_succ_of_le HWZ.out.size) ?_; intro v8 w8 ho hg _; have O8 := Lib.hid ho; have E8 := Lib.hid (HWZ.out.trans (((Below.refl wt.heap.size wz).alloc (HWZ.out.size) (.cells LX 28)).grown hg (by rw [World.size_alloc]; exact Nat.le_succ_of_le HWZ.out.size) (HOZ.out.lt))); clear ho hg))
              go_roundw
              case rel => exact ⟨k + 1, HLT.out, (by have := HLT.out; go_num), (by rw [HTS.out, HU.out.2]), Lib.hid (by rw [HTS.out, HU.out.1]; exact O8.out), E8⟩
              case measure =>
                have := HLT.out
                simp [RowKit.intOf]
                omega
            · have HU := Lib.hid (laid_now HD.out HS.out)
              go_upto_region 19 with (first | ((with_reducible show wpList _ _ _ (⟨some 68, _, _, _, _, _⟩ :: _) _ _); refine wpList_loadM (op := ⟨some 68, _, _, _, _, _⟩) 28 _ rfl (by rfl) (w.heap.size) (0) (by rfl) (fwL f) (HFR.out wz HWZ.out) _ Try.underlying28 rfl (sizeFwL f) ?_; rw [HLF.out]) | ((with_reducible show wpList _ _ _ (⟨some 69, _, _, _, _, _⟩ :: _) _ _); refine wpList_build1 (o := ⟨some 69, _, _, _, _, _⟩) eF (by decide) f rfl 68 rfl LF HLF.out (by rw [← HLF.out]; rfl) ?_) | ((with_reducible show wpList _ _ _ (⟨some 70, _, _, _, _, _⟩ :: _) _ _); refine wpList_appendG (o := ⟨some 70, _, _, _, _, _⟩) eF rfl _ _ rfl wt.heap.size _ (laidF f (l1.take k)) (by rfl) (HOZ.out.alloc _) (wz.heap.size + 1) _ 1 1 [f] (by rfl) (RdG.laid eF wz [f] 1 rfl _ (by rw [← HLF.out]; simp [Enc.cells]; rfl)) (HLB1.out) (by rw [World.size_alloc]; exact Nat.le_succ_of_le HWZ.out.size) ?_; intro v7 w7 ho hg _; have O7 := Lib.hid ho; have E7 := Lib.hid (HWZ.out.trans (((Below.refl wt.heap.size wz).alloc (HWZ.out.size) (.cells LF 28)).grown hg (by rw [World.size_alloc]; exact Nat.le_succ_of_le HWZ.out.size) (HOZ.out.lt))); clear ho hg))
              have q3 := HQ.out w7 E7.out
              go_wp2_with (first | ((with_reducible show wpList _ _ _ (⟨some 78, _, _, _, _, _⟩ :: _) _ _); refine wpList_loadM (op := ⟨some 78, _, _, _, _, _⟩) 28 _ rfl (by rfl) (b) (off + k * 41) (by rfl) (fwL x) (RX.out w7 E7.out) _ Try.underlying28 rfl (sizeFwL x) ?_; rw [HLX.out]) | ((with_reducible show wpList _ _ _ (⟨some 79, _, _, _, _, _⟩ :: _) _ _); refine wpList_build1 (o := ⟨some 79, _, _, _, _, _⟩) eF (by decide) x rfl 78 rfl LX HLX.out (by rw [← HLX.out]; rfl) ?_) | ((with_reducible show wpList _ _ _ (⟨some 80, _, _, _, _, _⟩ :: _) _ _); refine wpList_appendG (o := ⟨some 80, _, _, _, _, _⟩) eF rfl _ _ rfl wt.heap.size _ (laidF f (l1.take k) ++ [f]) (by rfl) (O7.out.alloc _) (w7.heap.size + 1) _ 1 1 [x] (by rfl) (RdG.laid eF w7 [x] 1 rfl _ (by rw [← HLX.out]; simp [Enc.cells]; rfl)) (by rw [List.length_append, List.length_singleton]; exact HLB.out) (by rw [World.size_alloc]; exact Nat.le_succ_of_le E7.out.size) ?_; intro v8 w8 ho hg _; have O8 := Lib.hid ho; have E8 := Lib.hid (E7.out.trans (((Below.refl wt.heap.size w7).alloc (E7.out.size) (.cells LX 28)).grown hg (by rw [World.size_alloc]; exact Nat.le_succ_of_le E7.out.size) (O7.out.lt))); clear ho hg))
              go_roundw
              case rel => exact ⟨k + 1, HLT.out, (by have := HLT.out; go_num), (by rw [HTS.out, HU.out.2]), Lib.hid (by rw [HTS.out, HU.out.1]; exact O8.out), E8⟩
              case measure =>
                have := HLT.out
                simp [RowKit.intOf]
                omega
          · have HU := Lib.hid (laid_done (x := x) HD.out)
            go_upto_region 17 with (fail)
            refine wp_region_held_drew (S := fun W => Below wt.heap.size wt W) (by kernel_rfl) (HW.out.drew) (fun hHeld => ?_)
            have HBZ : Hid (Below wr.heap.size wr wr.drew) := Lib.hid (Below.refl wr.heap.size wr).drew
            refine tk 0 54 (.bool true) rfl hHeld ?_
            simp only [Act.put, sA, sZ, sS]
            refine tk 1 55 (.bool false) rfl hHeld ?_
            simp only [Act.put, sA, sZ, sS]
            refine tk 2 56 (.bool false) rfl hHeld ?_
            simp only [Act.put, sA, sZ, sS]
            refine tkN 3 57 rfl hHeld ?_
            simp only [Act.put, sA, sZ, sS]
            refine tkN 4 58 rfl hHeld ?_
            simp only [Act.put, sA, sZ, sS]
            refine tkN 5 59 rfl hHeld ?_
            simp only [Act.put, sA, sZ, sS]
            refine tkN 6 60 rfl hHeld ?_
            simp only [Act.put, sA, sZ, sS]
            refine tkN 7 61 rfl hHeld ?_
            simp only [Act.put, sA, sZ, sS]
            refine tkN 8 62 rfl hHeld ?_
            simp only [Act.put, sA, sZ, sS]
            refine tkN 9 63 rfl hHeld ?_
            simp only [Act.put, sA, sZ, sS]
            refine tkN 10 64 rfl hHeld ?_
            simp only [Act.put, sA, sZ, sS]
            refine tkN 11 65 rfl hHeld ?_
            simp only [Act.put, sA, sZ, sS]
            refine tk 12 66 (.bool false) rfl hHeld ?_
            simp only [Act.put, sA, sZ, sS]
            refine wpAnyH_done (by kernel_rfl) ?_ _
            have HWZ := Lib.hid hHeld
            clear hHeld
            have HOZ := Lib.hid (HO.out.below HBZ.out)
            obtain ⟨wz, hwz⟩ : ∃ z, wr.drew = z := ⟨_, rfl⟩
            rw [hwz] at HWZ HBZ HOZ ⊢
            clear hwz
            have q2 := HQ.out wz HWZ.out
            go_wp2_with (first | ((with_reducible show wpList _ _ _ (⟨some 78, _, _, _, _, _⟩ :: _) _ _); refine wpList_loadM (op := ⟨some 78, _, _, _, _, _⟩) 28 _ rfl (by rfl) (b) (off + k * 41) (by rfl) (fwL x) (RX.out wz HWZ.out) _ Try.underlying28 rfl (sizeFwL x) ?_; rw [HLX.out]) | ((with_reducible show wpList _ _ _ (⟨some 79, _, _, _, _, _⟩ :: _) _ _); refine wpList_build1 (o := ⟨some 79, _, _, _, _, _⟩) eF (by decide) x rfl 78 rfl LX HLX.out (by rw [← HLX.out]; rfl) ?_) | ((with_reducible show wpList _ _ _ (⟨some 80, _, _, _, _, _⟩ :: _) _ _); refine wpList_appendG (o := ⟨some 80, _, _, _, _, _⟩) eF rfl _ _ rfl wt.heap.size _ (laidF f (l1.take k)) (by rfl) (HOZ.out.alloc _) (wz.heap.size + 1) _ 1 1 [x] (by rfl) (RdG.laid eF wz [x] 1 rfl _ (by rw [← HLX.out]; simp [Enc.cells]; rfl)) (HLB1.out) (by rw [World.size_alloc]; exact Nat.le_succ_of_le HWZ.out.size) ?_; intro v8 w8 ho hg _; have O8 := Lib.hid ho; have E8 := Lib.hid (HWZ.out.trans (((Below.refl wt.heap.size wz).alloc (HWZ.out.size) (.cells LX 28)).grown hg (by rw [World.size_alloc]; exact Nat.le_succ_of_le HWZ.out.size) (HOZ.out.lt))); clear ho hg))
            go_roundw
            case rel => exact ⟨k + 1, HLT.out, (by have := HLT.out; go_num), (by rw [HTS.out, HU.out.2]), Lib.hid (by rw [HTS.out, HU.out.1]; exact O8.out), E8⟩
            case measure =>
              have := HLT.out
              simp [RowKit.intOf]
              omega
        · obtain rfl : k = n1 := by omega
          have h1 : ¬ (k : Int) < (k : Int) := by omega
          have HTK : Hid (l1.take k = l1) := Lib.hid (List.take_of_length_le (Nat.le_of_eq HL.out))
          rw [HTK.out] at HO HD
          have HLB : Hid ((laidF f l1).length + 1 ≤ 100000000) := Lib.hid (by have := laid_len f l1; have := HL.out; have := HN1.out; omega)
          clear hlt hk
          cases D
          · go_upto_region 23 with (first | ((with_reducible show wpList _ _ _ (⟨some 84, _, _, _, _, _⟩ :: _) _ _); refine wpList_loadM (op := ⟨some 84, _, _, _, _, _⟩) 28 _ rfl (by rfl) (w.heap.size) (0) (by rfl) (fwL f) (HFR.out wr HW.out) _ Try.underlying28 rfl (sizeFwL f) ?_; rw [HLF.out]) | ((with_reducible show wpList _ _ _ (⟨some 85, _, _, _, _, _⟩ :: _) _ _); refine wpList_build1 (o := ⟨some 85, _, _, _, _, _⟩) eF (by decide) f rfl 84 rfl LF HLF.out (by rw [← HLF.out]; rfl) ?_) | ((with_reducible show wpList _ _ _ (⟨some 86, _, _, _, _, _⟩ :: _) _ _); refine wpList_appendG (o := ⟨some 86, _, _, _, _, _⟩) eF rfl _ _ rfl wt.heap.size _ (laidF f l1) (by rfl) (HO.out.alloc _) (wr.heap.size + 1) _ 1 1 [f] (by rfl) (RdG.laid eF wr [f] 1 rfl _ (by rw [← HLF.out]; simp [Enc.cells]; rfl)) (HLB.out) (by rw [World.size_alloc]; exact Nat.le_succ_of_le HW.out.size) ?_; intro v8 w8 ho hg _; have O8 := Lib.hid ho; have E8 := Lib.hid (HW.out.trans (((Below.refl wt.heap.size wr).alloc (HW.out.size) (.cells LF 28)).grown hg (by rw [World.size_alloc]; exact Nat.le_succ_of_le HW.out.size) (HO.out.lt))); clear ho hg))
            obtain ⟨A9, n9, c9, hlv9, e9, _, _, r9, _⟩ := O8.out.sl
            have HO9 := Lib.hid O8.out
            rw [hlv9] at HO9
            first | rw [hlv9] | subst hlv9
            clear e9 r9
            try clear hlv9
            have HBK := Lib.hid (Blk_10.below T.out.blk T.out.lt E8.out)
            have HFAR : Hid ((Value.slice A9 n9 c9).ownBlock ≠ some g) := Lib.hid (fun e => by have := HO9.out.lt g e; have := T.out.lt; omega)
            go_wp2_with (first | ((with_reducible show wpList _ _ _ (⟨none, .store 42 _ _, _, _, _, _⟩ :: _) _ _); refine wpList_storeB1 (op := ⟨none, _, _, _, _, _⟩) rfl 42 (.tmp 90) (.tmp 88) rfl g 1 (by rfl) (.slice A9 n9 c9) (by rfl) 44 _ HBK.out (by simp) sliceSize rfl rfl ?_; intro w4 hb4 hg4; have KT := Lib.hid hb4; have G4 := Lib.hid hg4; clear hb4 hg4) | ((with_reducible show wpList _ _ _ (⟨some 91, _, _, _, _, _⟩ :: _) _ _); refine wpList_loadM (op := ⟨some 91, _, _, _, _, _⟩) 28 _ rfl (by rfl) (w1.heap.size) (0) (by rfl) (fwL fw0) (Blk_10.range (Blk.gb (Blk_10.below GB.out (Blk_10.lt GB.out) E8.out) G4.out (fun e => by cases e; exact GNE.out rfl))) _ Try.underlying28 rfl (sizeFwL fw0) ?_) | ((with_reducible show wpList _ _ _ (⟨none, .store 28 (.tmp 4) _, _, _, _, _⟩ :: _) _ _); refine wpList_storeBA rfl 28 (.tmp 4) _ rfl (w.heap.size + 1) (by rfl) (fwL fw0) (by rfl) (fwL fw0) (Blk.gb (Blk_10.below RB.out (Blk_10.lt RB.out) E8.out) G4.out (fun e => by cases e; have := HG.out; omega)) (by simp only [fwL_len]) (sizeFwL fw0) (fwL_one fw0) ?_; intro w6 hbs hgs; have Kw6 := Lib.hid hbs; have Gw6 := Lib.hid hgs; clear hbs hgs))
            refine bodyPost_ret (v := .tuple #[fwC fw0, .bool false, .int .i64 0]) (results_fw3 rfl _ _ (w.heap.size + 1) (by rfl) fw0 Kw6.out _ _ (by rfl) (by rfl)) rfl ?_
            have hgf : w.grownBy w6 (some g) := gbNew (gbThen (gbThen GW.out (gbBel E8.out _)) G4.out) Gw6.out (Nat.le_succ _)
            have hne : (some (w.heap.size + 1) : Option Nat) ≠ some g := fun e => by cases e; have := HG.out; omega
            have hown := (HO9.out.kept G4.out (Or.inr HFAR.out)).kept Gw6.out (Or.inr (fun e => by have := HO9.out.lt _ e; have := Blk_10.lt RB.out; omega))
            refine ⟨by rw [HE.out.1], _, ⟨Blk.gb KT.out Gw6.out hne, hown.base_le (Nat.zero_le _) |> (by rw [HE.out.2, ← laid_plain HD.out]; exact ·), HFAR.out⟩, hgf, fun b hb => Or.inr (Nat.le_trans GW.out.size (HO9.out.lt b hb))⟩
          · go_upto_region 23 with (fail)
            obtain ⟨A9, n9, c9, hlv9, e9, _, _, r9, _⟩ := HO.out.sl
            have HO9 := Lib.hid HO.out
            rw [hlv9] at HO9
            first | rw [hlv9] | subst hlv9
            clear e9 r9
            try clear hlv9
            have HBK := Lib.hid (Blk_10.below T.out.blk T.out.lt HW.out)
            have HFAR : Hid ((Value.slice A9 n9 c9).ownBlock ≠ some g) := Lib.hid (fun e => by have := HO9.out.lt g e; have := T.out.lt; omega)
            go_wp2_with (first | ((with_reducible show wpList _ _ _ (⟨none, .store 42 _ _, _, _, _, _⟩ :: _) _ _); refine wpList_storeB1 (op := ⟨none, _, _, _, _, _⟩) rfl 42 (.tmp 90) (.tmp 88) rfl g 1 (by rfl) (.slice A9 n9 c9) (by rfl) 44 _ HBK.out (by simp) sliceSize rfl rfl ?_; intro w4 hb4 hg4; have KT := Lib.hid hb4; have G4 := Lib.hid hg4; clear hb4 hg4) | ((with_reducible show wpList _ _ _ (⟨some 91, _, _, _, _, _⟩ :: _) _ _); refine wpList_loadM (op := ⟨some 91, _, _, _, _, _⟩) 28 _ rfl (by rfl) (w1.heap.size) (0) (by rfl) (fwL fw0) (Blk_10.range (Blk.gb (Blk_10.below GB.out (Blk_10.lt GB.out) HW.out) G4.out (fun e => by cases e; exact GNE.out rfl))) _ Try.underlying28 rfl (sizeFwL fw0) ?_) | ((with_reducible show wpList _ _ _ (⟨none, .store 28 (.tmp 4) _, _, _, _, _⟩ :: _) _ _); refine wpList_storeBA rfl 28 (.tmp 4) _ rfl (w.heap.size + 1) (by rfl) (fwL fw0) (by rfl) (fwL fw0) (Blk.gb (Blk_10.below RB.out (Blk_10.lt RB.out) HW.out) G4.out (fun e => by cases e; have := HG.out; omega)) (by simp only [fwL_len]) (sizeFwL fw0) (fwL_one fw0) ?_; intro w6 hbs hgs; have Kw6 := Lib.hid hbs; have Gw6 := Lib.hid hgs; clear hbs hgs))
            refine bodyPost_ret (v := .tuple #[fwC fw0, .bool false, .int .i64 0]) (results_fw3 rfl _ _ (w.heap.size + 1) (by rfl) fw0 Kw6.out _ _ (by rfl) (by rfl)) rfl ?_
            have hgf : w.grownBy w6 (some g) := gbNew (gbThen (gbThen GW.out (gbBel HW.out _)) G4.out) Gw6.out (Nat.le_succ _)
            have hne : (some (w.heap.size + 1) : Option Nat) ≠ some g := fun e => by cases e; have := HG.out; omega
            have hown := (HO9.out.kept G4.out (Or.inr HFAR.out)).kept Gw6.out (Or.inr (fun e => by have := HO9.out.lt _ e; have := Blk_10.lt RB.out; omega))
            refine ⟨by rw [HE.out.1], _, ⟨Blk.gb KT.out Gw6.out hne, hown.base_le (Nat.zero_le _) |> (by rw [HE.out.2, ← laid_ins HD.out]; exact ·), HFAR.out⟩, hgf, fun b hb => Or.inr (Nat.le_trans GW.out.size (HO9.out.lt b hb))⟩
    case pos =>
      have e1 := HP.out.1 hp0
      obtain ⟨A, n, c, hlv, hn, _, _, hr, h9⟩ := HTW.out.own.sl
      subst hlv
      have HN := Lib.hid hn
      have HX := Lib.hid hr
      have HK1 := Lib.hid e1
      have H9 := Lib.hid h9
      have FIT := Lib.hid (HFIT.out HR.out)
      have hp1 : ¬ (0 : Int) ≤ p := by omega
      clear e1 hn hr h9 hp0
      by_cases hfull : rm ≤ n
      · obtain ⟨x, hx⟩ : ∃ x, l[0]? = some x := ⟨_, List.getElem?_eq_getElem (by rw [← HN.out]; exact Nat.lt_of_lt_of_le HRM.out.1 hfull)⟩
        have HE := Lib.hid (put_full (rm := rm) HR.out HK1.out (by rw [← HN.out]; exact hfull) hx)
        rw [HV.out, HL'.out] at HE
        obtain ⟨b, hA, _, hbw⟩ := H9.out (Nat.lt_of_lt_of_le HRM.out.1 hfull)
        subst hA
        have HBW := Lib.hid hbw
        have HXX := Lib.hid hx
        have hge : (rm : Int) ≤ (n : Int) := by omega
        have hn0 : 0 < n := Nat.lt_of_lt_of_le HRM.out.1 hfull
        have hn1 : (0 : Int) < (n : Int) := by omega
        clear hbw hx hfull H9
        have HC0 : Hid (∀ W, RefT W g (rm : Int) (.slice (some ⟨b, 0, none⟩) n c) l → Calls Try.prog 42 #[.pointer (some ⟨g, 0, none⟩), .int .i64 0] W fun e w' => e = .returned (.tuple #[]) ∧ ∃ lv', RefT w' g (rm : Int) lv' (l.eraseIdx 0) ∧ W.grownBy w' (some g) ∧ ∀ b, lv'.ownBlock = some b → W.heap.size ≤ b) := Lib.hid (fun W hW => rcut_any hW (Nat.le_trans HLN.out (by decide)) 0)
        go_enter Try.func20, Try.ntmps20
        go_upto_region 1 with (fail)
        rw [HY1.out, HY.out]
        go_upto_region 8 with (first | ((with_reducible show wpList _ _ _ (⟨some 13, _, _, _, _, _⟩ :: _) _ _); refine wpList_loadM (op := ⟨some 13, _, _, _, _, _⟩) 28 _ rfl (by rfl) (w.heap.size) (0) (by rfl) (fwL f) (Blk_10.range HFB.out) _ Try.underlying28 rfl (sizeFwL f) ?_; rw [HLF.out]) | ((with_reducible refine (HRI.out Y).mono ?_); rintro e w1 ⟨rfl, hb1⟩; have D1 := Lib.hid hb1; clear hb1) | ((with_reducible show wpList _ _ _ (⟨none, .store 28 (.tmp 7) _, _, _, _, _⟩ :: _) _ _); refine wpList_storeNewG rfl 28 (.tmp 7) _ rfl (by rfl) (fwL fw0) (by rw [← HZF.out]; rfl) (by rfl) (sizeFwL fw0) (fwL_one fw0) ?_; intro w2 hbn hBn hzn; have K2 := Lib.hid hbn; have D2 := Lib.hid (D1.out.trans (hBn.mono D1.out.size)); have S2 := Lib.hid hzn; clear hbn hBn hzn) | ((with_reducible show wpList _ _ _ (⟨some 20, _, _, _, _, _⟩ :: _) _ _); refine wpList_loadM (op := ⟨some 20, _, _, _, _, _⟩) 26 _ rfl (by rfl) w.heap.size 0 (by rfl) (tuL f.k) (fw_key (Blk_10.range (Blk_10.below HFB.out HFL.out D2.out))) _ Try.underlying26 rfl HZK.out ?_; rw [HLK.out]) | ((with_reducible refine (HF.out w2 (HT.out.below D2.out)).mono ?_); rintro e w3 ⟨rfl, hb3⟩; have D23 := Lib.hid hb3; have D3 := Lib.hid (D2.out.trans (hb3.mono D2.out.size)); have K3 := Lib.hid (Blk_10.below K2.out (Blk_10.lt K2.out) hb3); have T3 := Lib.hid ((HT.out.below D2.out).below hb3); clear hb3))
        have q1 : w3.cell? ⟨g, 1, none⟩ = some (.slice (some ⟨b, 0, none⟩) n c) := Blk_10.cell T3.out.blk (i := 1) rfl
        have q0 : w3.cell? ⟨g, 0, none⟩ = some (.int .i64 (rm : Int)) := Blk_10.cell T3.out.blk (i := 0) rfl
        go_quiet (fail)
        have HDQ : Hid (Below w3.heap.size w3 (w3.drewN nq)) := Lib.hid (belDraw (Below.refl _ _) nq)
        obtain ⟨wq, hwq⟩ : ∃ z, w3.drewN nq = z := ⟨_, rfl⟩
        rw [hwq] at HDQ ⊢
        clear hwq q0 q1
        have TQ := Lib.hid (T3.out.below HDQ.out)
        have KQ := Lib.hid (Blk_10.below K3.out (Blk_10.lt K3.out) HDQ.out)
        have DQ := Lib.hid (D3.out.trans (HDQ.out.mono D3.out.size))
        have q1 : wq.cell? ⟨g, 1, none⟩ = some (.slice (some ⟨b, 0, none⟩) n c) := Blk_10.cell TQ.out.blk (i := 1) rfl
        have HRX : Hid (wq.rangeAt b 0 (fwL x)) := Lib.hid (by
          have := RdG.range (E := eF) (HX.out.below (HB.out.trans (DQ.out.mono HB.out.size))) HXX.out
          rw [Nat.zero_mul, Nat.add_zero] at this
          exact this)
        go_upto_region 10 with (first | ((with_reducible show wpList _ _ _ (⟨some 42, _, _, _, _, _⟩ :: _) _ _); refine wpList_loadM (op := ⟨some 42, _, _, _, _, _⟩) 28 _ rfl (by rfl) (b) (0) (by rfl) (fwL x) (HRX.out) _ Try.underlying28 rfl (sizeFwL x) ?_) | ((with_reducible show wpList _ _ _ (⟨none, .store 28 (.tmp 7) _, _, _, _, _⟩ :: _) _ _); refine wpList_storeBA rfl 28 (.tmp 7) _ rfl (w1.heap.size) (by rfl) (fwL x) (by rfl) (fwL fw0) (KQ.out) (by simp only [fwL_len]) (sizeFwL x) (fwL_one x) ?_; intro w4 hbs hgs; have Kw4 := Lib.hid hbs; have Gw4 := Lib.hid hgs; clear hbs hgs))
        have hneB : (some g : Option Nat) ≠ some w.heap.size := fun e => by cases e; exact absurd HG.out (Nat.lt_irrefl _)
        have hneR : (some g : Option Nat) ≠ some (w.heap.size + 1) := fun e => by cases e; have := HG.out; omega
        have hneG : (some g : Option Nat) ≠ some w1.heap.size := fun e => by cases e; have := HG.out; have := HB.out.size; have := D1.out.size; omega
        have hbG : (Value.slice (some ⟨b, 0, none⟩) n c).ownBlock ≠ some w1.heap.size := fun e => by have := HTW.out.own.ltS _ e; have := HB.out.size; have := D1.out.size; omega
        have T4 : Hid (RefT w4 g (rm : Int) (.slice (some ⟨b, 0, none⟩) n c) l) := Lib.hid ⟨Blk.gb TQ.out.blk Gw4.out (fun e => hneG e.symm), TQ.out.own.kept Gw4.out (Or.inr hbG), TQ.out.ne⟩
        go_upto_region 12 with ((with_reducible refine (HC0.out w4 T4.out).mono ?_); rintro e wt ⟨rfl, lvt, t4, g4, n4⟩; have T := Lib.hid t4; have GC := Lib.hid g4; clear t4 g4 n4)
        have hGB : (some w1.heap.size : Option Nat) ≠ some w.heap.size := fun e => by have e2 := Option.some.inj e; have := HFL.out; have := D1.out.size; omega
        have hGR : (some w1.heap.size : Option Nat) ≠ some (w.heap.size + 1) := fun e => by have e2 := Option.some.inj e; have := HRL.out; have := D1.out.size; omega
        have FB := Lib.hid (Blk.gb (Blk.gb (Blk_10.below HFB.out HFL.out DQ.out) Gw4.out hGB) GC.out hneB)
        have RB := Lib.hid (Blk.gb (Blk.gb (Blk_10.below HRB.out HRL.out DQ.out) Gw4.out hGR) GC.out hneR)
        have GB := Lib.hid (Blk.gb Kw4.out GC.out hneG)
        have GNE : Hid (g ≠ w1.heap.size) := Lib.hid (fun e => hneG (by rw [← e]))
        have GW := Lib.hid (gbThen (gbNew (gbBel (HB.out.trans (DQ.out.mono HB.out.size)) (some g)) Gw4.out (Nat.le_trans HB.out.size D1.out.size)) GC.out)
        have N1 : Hid ((l.eraseIdx 0).length ≤ 100000) := Lib.hid (Nat.le_trans (erase_len l 0) HLN.out)
        have RT : Hid (∀ x, x ∈ l.eraseIdx 0 → rightF x = true) := Lib.hid (fun x hx => HRT.out.right x (List.mem_of_mem_eraseIdx hx))
        clear hneB hneR hneG hbG hGB hGR q1 hge hn0 hn1
        generalize l.eraseIdx 0 = l1 at T HE N1 RT
        have HXO := HXX
        clear HXX HX HRX
        obtain ⟨x0, hx0⟩ : ∃ y, x = y := ⟨_, rfl⟩
        rw [hx0] at HE GB
        clear hx0 Kw4
        obtain ⟨A1, n1, c1, hlv1, hn1, _, _, hr1, _⟩ := T.out.own.sl
        rw [hlv1] at T
        clear hlv1
        have HQ : Hid (∀ W, Below wt.heap.size wt W → W.cell? ⟨g, 1, none⟩ = some (.slice A1 n1 c1)) := Lib.hid (fun W hW => (Blk_10.below T.out.blk T.out.lt hW).cell (i := 1) rfl)
        have HX := Lib.hid hr1
        have HL := Lib.hid hr1.len
        have HN1 : Hid (n1 ≤ 100000) := Lib.hid (by rw [hn1]; exact N1.out)
        have HFR : Hid (∀ W, Below wt.heap.size wt W → W.rangeAt w.heap.size 0 (fwL f)) := Lib.hid (fun W hW => Blk_10.range (Blk_10.below FB.out (Blk_10.lt FB.out) hW))
        clear hr1 hn1
        go_wp2_with fail
        go_loopw [10, 11, 12] (fun t d i wr => ∃ k : Nat, k ≤ n1 ∧ i = .int .i64 (k : Int) ∧ d = .bool (anyF f (l1.take k)) ∧ Hid (OwnG eF wr wt.heap.size t (laidF f (l1.take k))) ∧ Hid (Below wt.heap.size wt wr)) (fun _ _ i _ => n1 - (RowKit.intOf i).toNat)
        case atStart => exact ⟨0, Nat.zero_le _, rfl, by rw [List.take_zero]; rfl, Lib.hid (OwnG.nil_ eF _ _), Lib.hid (Below.refl _ _)⟩
        case round =>
          obtain ⟨k, hk, rfl, rfl, HO, HW⟩ := hrel
          have q1 := HQ.out wr HW.out
          obtain ⟨D, hD⟩ : ∃ D, anyF f (l1.take k) = D := ⟨_, rfl⟩
          rw [hD]
          have HD := Lib.hid hD
          clear hD
          by_cases hlt : k < n1
          · have h1 : (k : Int) < (n1 : Int) := by omega
            have h0 : (0 : Int) ≤ (k : Int) := by omega
            obtain ⟨b, off, hA1, _⟩ := HX.out.addr (by omega)
            subst hA1
            obtain ⟨x, hx⟩ : ∃ x, l1[k]? = some x := ⟨_, List.getElem?_eq_getElem (by rw [HL.out]; exact hlt)⟩
            have RX : Hid (∀ W, Below wt.heap.size wt W → W.rangeAt b (off + k * 41) (fwL x)) := Lib.hid (fun W hW => (HX.out.below hW).range hx)
            have HTS := Lib.hid (take_snoc hx)
            have HFX : Hid (rightF x = true) := Lib.hid (RT.out x (List.mem_of_getElem? hx))
            obtain ⟨LX, hLX⟩ : ∃ L, (fwL x).toArray = L := ⟨_, rfl⟩
            have HLX := Lib.hid hLX
            have HLT := Lib.hid hlt
            have HLB : Hid ((laidF f (l1.take k)).length + 2 ≤ 100000000) := Lib.hid (by have := laid_len f (l1.take k); rw [List.length_take] at this; have := HN1.out; omega)
            have HLB1 : Hid ((laidF f (l1.take k)).length + 1 ≤ 100000000) := Lib.hid (by have := HLB.out; omega)
            have hk9 : k < 9223372036854775807 := by have := HN1.out; omega
            obtain ⟨s, hs⟩ : ∃ s, olderF f x = s := ⟨_, rfl⟩
            have HCO : Hid (∀ W : World, Calls Try.prog 16 #[.agg LF, .agg LX] W fun e w' => e = .returned (.bool s) ∧ Below W.heap.size W w') := Lib.hid (fun W => by
              have := rolder21_any FIT.out (right_fit HFX.out) W
              unfold fwC at this
              rw [HLF.out, hLX, hs] at this
              exact this)
            have HS := Lib.hid hs
            clear hx hlt hLX hk hs
            cases D
            · go_upto_region 17 with (fail)
              refine wp_region_held_drew (S := fun W => Below wt.heap.size wt W) (by kernel_rfl) (HW.out.drew) (fun hHeld => ?_)
              have HDR : Hid (Below wr.heap.size wr wr.drew) := Lib.hid (Below.refl wr.heap.size wr).drew
              refine tk 0 54 (.bool false) rfl hHeld ?_
              simp only [Act.put, sA, sZ, sS]
              refine tk 1 55 (.bool true) rfl hHeld ?_
              simp only [Act.put, sA, sZ, sS]
              refine tk 2 56 (.bool true) rfl hHeld ?_
              simp only [Act.put, sA, sZ, sS]
              refine tkY 3 57 (.agg LF) rfl (by rw [← HLF.out]; exact yieldsIf_load_mid (by rfl) 28 _ rfl w.heap.size (0) (by rfl) (fwL f) _ (HFR.out) Try.underlying28 rfl (HZL.out)) hHeld ?_
              simp only [Act.put, sA, sZ, sS]
              refine tk 4 58 (.pointer (some ⟨g, 0, none⟩)) rfl hHeld ?_
              simp only [Act.put, sA, sZ, sS]
              refine tk 5 59 (.pointer (some ⟨g, 0, none⟩)) rfl hHeld ?_
              simp only [Act.put, sA, sZ, sS]
              refine tk 6 60 (.pointer (some ⟨g, 1, none⟩)) rfl hHeld ?_
              simp only [Act.put, sA, sZ, sS]
              refine tkY 7 61 (.slice (some ⟨b, off, none⟩) n1 c1) rfl (Or.inl ⟨by rfl, fun W hW => by have hc := HQ.out W hW; go_simp⟩) hHeld ?_
              simp only [Act.put, sA, sZ, sS]
              refine tk 8 62 (.int .i64 (k : Int)) rfl hHeld ?_
              simp only [Act.put, sA, sZ, sS]
              refine tk 9 63 (.pointer (some ⟨b, off + k * 41, none⟩)) rfl hHeld ?_
              simp only [Act.put, sA, sZ, sS]
              refine tkY 10 64 (.agg LX) rfl (by rw [← HLX.out]; exact yieldsIf_load_mid (by rfl) 28 _ rfl b (off + k * 41) (by rfl) (fwL x) _ (RX.out) Try.underlying28 rfl (sizeFwL x)) hHeld ?_
              simp only [Act.put, sA, sZ, sS]
              refine wpAnyH_ready (rs := [11]) (by kernel_rfl) (by simp) (AllReadyH.cons (o := ⟨some 65, _, _, _, _, _⟩) rfl (fun K hK => ?_) AllReadyH.nil)
              go_simp
              refine (HCO.out _).mono ?_
              rintro e wz ⟨rfl, hb⟩
              have HWZ := Lib.hid (hHeld.trans (hb.mono hHeld.size))
              have HBZ := Lib.hid (HDR.out.trans (hb.mono HDR.out.size))
              refine hK.out _ _ (HWZ.out) (fun hHeld => ?_)
              clear hK K hb
              refine tk 12 66 (.bool s) rfl hHeld ?_
              simp only [Act.put, sA, sZ, sS]
              refine wpAnyH_done (by kernel_rfl) ?_ _
              clear hHeld
              have q2 := HQ.out wz HWZ.out
              have HOZ := Lib.hid (HO.out.below HBZ.out)
              cases s
              · have HU := Lib.hid (laid_not HD.out HS.out)
                go_wp2_with (first | ((with_reducible show wpList _ _ _ (⟨some 78, _, _, _, _, _⟩ :: _) _ _); refine wpList_loadM (op := ⟨some 78, _, _, _, _, _⟩) 28 _ rfl (by rfl) (b) (off + k * 41) (by rfl) (fwL x) (RX.out wz HWZ.out) _ Try.underlying28 rfl (sizeFwL x) ?_; rw [HLX.out]) | ((with_reducible show wpList _ _ _ (⟨some 79, _, _, _, _, _⟩ :: _) _ _); refine wpList_build1 (o := ⟨some 79, _, _, _, _, _⟩) eF (by decide) x rfl 78 rfl LX HLX.out (by rw [← HLX.out]; rfl) ?_) | ((with_reducible show wpList _ _ _ (⟨some 80, _, _, _, _, _⟩ :: _) _ _); refine wpList_appendG (o := ⟨some 80, _, _, _, _, _⟩) eF rfl _ _ rfl wt.heap.size _ (laidF f (l1.take k)) (by rfl) (HOZ.out.alloc _) (wz.heap.size + 1) _ 1 1 [x] (by rfl) (RdG.laid eF wz [x] 1 rfl _ (by rw [← HLX.out]; simp [Enc.cells]; rfl)) (HLB1.out) (by rw [World.size_alloc]; exact Nat.le_succ_of_le HWZ.out.size) ?_; intro v8 w8 ho hg _; have O8 := Lib.hid ho; have E8 := Lib.hid (HWZ.out.trans (((Below.refl wt.heap.size wz).alloc (HWZ.out.size) (.cells LX 28)).grown hg (by rw [World.size_alloc]; exact Nat.le_succ_of_le HWZ.out.size) (HOZ.out.lt))); clear ho hg))
                go_roundw
                case rel => exact ⟨k + 1, HLT.out, (by have := HLT.out; go_num), (by rw [HTS.out, HU.out.2]), Lib.hid (by rw [HTS.out, HU.out.1]; exact O8.out), E8⟩
                case measure =>
                  have := HLT.out
                  simp [RowKit.intOf]
                  omega
              · have HU := Lib.hid (laid_now HD.out HS.out)
                go_upto_region 19 with (first | ((with_reducible show wpList _ _ _ (⟨some 68, _, _, _, _, _⟩ :: _) _ _); refine wpList_loadM (op := ⟨some 68, _, _, _, _, _⟩) 28 _ rfl (by rfl) (w.heap.size) (0) (by rfl) (fwL f) (HFR.out wz HWZ.out) _ Try.underlying28 rfl (sizeFwL f) ?_; rw [HLF.out]) | ((with_reducible show wpList _ _ _ (⟨some 69, _, _, _, _, _⟩ :: _) _ _); refine wpList_build1 (o := ⟨some 69, _, _, _, _, _⟩) eF (by decide) f rfl 68 rfl LF HLF.out (by rw [← HLF.out]; rfl) ?_) | ((with_reducible show wpList _ _ _ (⟨some 70, _, _, _, _, _⟩ :: _) _ _); refine wpList_appendG (o := ⟨some 70, _, _, _, _, _⟩) eF rfl _ _ rfl wt.heap.size _ (laidF f (l1.take k)) (by rfl) (HOZ.out.alloc _) (wz.heap.size + 1) _ 1 1 [f] (by rfl) (RdG.laid eF wz [f] 1 rfl _ (by rw [← HLF.out]; simp [Enc.cells]; rfl)) (HLB1.out) (by rw [World.size_alloc]; exact Nat.le_succ_of_le HWZ.out.size) ?_; intro v7 w7 ho hg _; have O7 := Lib.hid ho; have E7 := Lib.hid (HWZ.out.trans (((Below.refl wt.heap.size wz).alloc (HWZ.out.size) (.cells LF 28)).grown hg (by rw [World.size_alloc]; exact Nat.le_succ_of_le HWZ.out.size) (HOZ.out.lt))); clear ho hg))
                have q3 := HQ.out w7 E7.out
                go_wp2_with (first | ((with_reducible show wpList _ _ _ (⟨some 78, _, _, _, _, _⟩ :: _) _ _); refine wpList_loadM (op := ⟨some 78, _, _, _, _, _⟩) 28 _ rfl (by rfl) (b) (off + k * 41) (by rfl) (fwL x) (RX.out w7 E7.out) _ Try.underlying28 rfl (sizeFwL x) ?_; rw [HLX.out]) | ((with_reducible show wpList _ _ _ (⟨some 79, _, _, _, _, _⟩ :: _) _ _); refine wpList_build1 (o := ⟨some 79, _, _, _, _, _⟩) eF (by decide) x rfl 78 rfl LX HLX.out (by rw [← HLX.out]; rfl) ?_) | ((with_reducible show wpList _ _ _ (⟨some 80, _, _, _, _, _⟩ :: _) _ _); refine wpList_appendG (o := ⟨some 80, _, _, _, _, _⟩) eF rfl _ _ rfl wt.heap.size _ (laidF f (l1.take k) ++ [f]) (by rfl) (O7.out.alloc _) (w7.heap.size + 1) _ 1 1 [x] (by rfl) (RdG.laid eF w7 [x] 1 rfl _ (by rw [← HLX.out]; simp [Enc.cells]; rfl)) (by rw [List.length_append, List.length_singleton]; exact HLB.out) (by rw [World.size_alloc]; exact Nat.le_succ_of_le E7.out.size) ?_; intro v8 w8 ho hg _; have O8 := Lib.hid ho; have E8 := Lib.hid (E7.out.trans (((Below.refl wt.heap.size w7).alloc (E7.out.size) (.cells LX 28)).grown hg (by rw [World.size_alloc]; exact Nat.le_succ_of_le E7.out.size) (O7.out.lt))); clear ho hg))
                go_roundw
                case rel => exact ⟨k + 1, HLT.out, (by have := HLT.out; go_num), (by rw [HTS.out, HU.out.2]), Lib.hid (by rw [HTS.out, HU.out.1]; exact O8.out), E8⟩
                case measure =>
                  have := HLT.out
                  simp [RowKit.intOf]
                  omega
            · have HU := Lib.hid (laid_done (x := x) HD.out)
              go_upto_region 17 with (fail)
              refine wp_region_held_drew (S := fun W => Below wt.heap.size wt W) (by kernel_rfl) (HW.out.drew) (fun hHeld => ?_)
              have HBZ : Hid (Below wr.heap.size wr wr.drew) := Lib.hid (Below.refl wr.heap.size wr).drew
              refine tk 0 54 (.bool true) rfl hHeld ?_
              simp only [Act.put, sA, sZ, sS]
              refine tk 1 55 (.bool false) rfl hHeld ?_
              simp only [Act.put, sA, sZ, sS]
              refine tk 2 56 (.bool false) rfl hHeld ?_
              simp only [Act.put, sA, sZ, sS]
              refine tkN 3 57 rfl hHeld ?_
              simp only [Act.put, sA, sZ, sS]
              refine tkN 4 58 rfl hHeld ?_
              simp only [Act.put, sA, sZ, sS]
              refine tkN 5 59 rfl hHeld ?_
              simp only [Act.put, sA, sZ, sS]
              refine tkN 6 60 rfl hHeld ?_
              simp only [Act.put, sA, sZ, sS]
              refine tkN 7 61 rfl hHeld ?_
              simp only [Act.put, sA, sZ, sS]
              refine tkN 8 62 rfl hHeld ?_
              simp only [Act.put, sA, sZ, sS]
              refine tkN 9 63 rfl hHeld ?_
              simp only [Act.put, sA, sZ, sS]
              refine tkN 10 64 rfl hHeld ?_
              simp only [Act.put, sA, sZ, sS]
              refine tkN 11 65 rfl hHeld ?_
              simp only [Act.put, sA, sZ, sS]
              refine tk 12 66 (.bool false) rfl hHeld ?_
              simp only [Act.put, sA, sZ, sS]
              refine wpAnyH_done (by kernel_rfl) ?_ _
              have HWZ := Lib.hid hHeld
              clear hHeld
              have HOZ := Lib.hid (HO.out.below HBZ.out)
              obtain ⟨wz, hwz⟩ : ∃ z, wr.drew = z := ⟨_, rfl⟩
              rw [hwz] at HWZ HBZ HOZ ⊢
              clear hwz
              have q2 := HQ.out wz HWZ.out
              go_wp2_with (first | ((with_reducible show wpList _ _ _ (⟨some 78, _, _, _, _, _⟩ :: _) _ _); refine wpList_loadM (op := ⟨some 78, _, _, _, _, _⟩) 28 _ rfl (by rfl) (b) (off + k * 41) (by rfl) (fwL x) (RX.out wz HWZ.out) _ Try.underlying28 rfl (sizeFwL x) ?_; rw [HLX.out]) | ((with_reducible show wpList _ _ _ (⟨some 79, _, _, _, _, _⟩ :: _) _ _); refine wpList_build1 (o := ⟨some 79, _, _, _, _, _⟩) eF (by decide) x rfl 78 rfl LX HLX.out (by rw [← HLX.out]; rfl) ?_) | ((with_reducible show wpList _ _ _ (⟨some 80, _, _, _, _, _⟩ :: _) _ _); refine wpList_appendG (o := ⟨some 80, _, _, _, _, _⟩) eF rfl _ _ rfl wt.heap.size _ (laidF f (l1.take k)) (by rfl) (HOZ.out.alloc _) (wz.heap.size + 1) _ 1 1 [x] (by rfl) (RdG.laid eF wz [x] 1 rfl _ (by rw [← HLX.out]; simp [Enc.cells]; rfl)) (HLB1.out) (by rw [World.size_alloc]; exact Nat.le_succ_of_le HWZ.out.size) ?_; intro v8 w8 ho hg _; have O8 := Lib.hid ho; have E8 := Lib.hid (HWZ.out.trans (((Below.refl wt.heap.size wz).alloc (HWZ.out.size) (.cells LX 28)).grown hg (by rw [World.size_alloc]; exact Nat.le_succ_of_le HWZ.out.size) (HOZ.out.lt))); clear ho hg))
              go_roundw
              case rel => exact ⟨k + 1, HLT.out, (by have := HLT.out; go_num), (by rw [HTS.out, HU.out.2]), Lib.hid (by rw [HTS.out, HU.out.1]; exact O8.out), E8⟩
              case measure =>
                have := HLT.out
                simp [RowKit.intOf]
                omega
          · obtain rfl : k = n1 := by omega
            have h1 : ¬ (k : Int) < (k : Int) := by omega
            have HTK : Hid (l1.take k = l1) := Lib.hid (List.take_of_length_le (Nat.le_of_eq HL.out))
            rw [HTK.out] at HO HD
            have HLB : Hid ((laidF f l1).length + 1 ≤ 100000000) := Lib.hid (by have := laid_len f l1; have := HL.out; have := HN1.out; omega)
            clear hlt hk
            cases D
            · go_upto_region 23 with (first | ((with_reducible show wpList _ _ _ (⟨some 84, _, _, _, _, _⟩ :: _) _ _); refine wpList_loadM (op := ⟨some 84, _, _, _, _, _⟩) 28 _ rfl (by rfl) (w.heap.size) (0) (by rfl) (fwL f) (HFR.out wr HW.out) _ Try.underlying28 rfl (sizeFwL f) ?_; rw [HLF.out]) | ((with_reducible show wpList _ _ _ (⟨some 85, _, _, _, _, _⟩ :: _) _ _); refine wpList_build1 (o := ⟨some 85, _, _, _, _, _⟩) eF (by decide) f rfl 84 rfl LF HLF.out (by rw [← HLF.out]; rfl) ?_) | ((with_reducible show wpList _ _ _ (⟨some 86, _, _, _, _, _⟩ :: _) _ _); refine wpList_appendG (o := ⟨some 86, _, _, _, _, _⟩) eF rfl _ _ rfl wt.heap.size _ (laidF f l1) (by rfl) (HO.out.alloc _) (wr.heap.size + 1) _ 1 1 [f] (by rfl) (RdG.laid eF wr [f] 1 rfl _ (by rw [← HLF.out]; simp [Enc.cells]; rfl)) (HLB.out) (by rw [World.size_alloc]; exact Nat.le_succ_of_le HW.out.size) ?_; intro v8 w8 ho hg _; have O8 := Lib.hid ho; have E8 := Lib.hid (HW.out.trans (((Below.refl wt.heap.size wr).alloc (HW.out.size) (.cells LF 28)).grown hg (by rw [World.size_alloc]; exact Nat.le_succ_of_le HW.out.size) (HO.out.lt))); clear ho hg))
              obtain ⟨A9, n9, c9, hlv9, e9, _, _, r9, _⟩ := O8.out.sl
              have HO9 := Lib.hid O8.out
              rw [hlv9] at HO9
              first | rw [hlv9] | subst hlv9
              clear e9 r9
              try clear hlv9
              have HBK := Lib.hid (Blk_10.below T.out.blk T.out.lt E8.out)
              have HFAR : Hid ((Value.slice A9 n9 c9).ownBlock ≠ some g) := Lib.hid (fun e => by have := HO9.out.lt g e; have := T.out.lt; omega)
              go_wp2_with (first | ((with_reducible show wpList _ _ _ (⟨none, .store 42 _ _, _, _, _, _⟩ :: _) _ _); refine wpList_storeB1 (op := ⟨none, _, _, _, _, _⟩) rfl 42 (.tmp 90) (.tmp 88) rfl g 1 (by rfl) (.slice A9 n9 c9) (by rfl) 44 _ HBK.out (by simp) sliceSize rfl rfl ?_; intro w4 hb4 hg4; have KT := Lib.hid hb4; have G4 := Lib.hid hg4; clear hb4 hg4) | ((with_reducible show wpList _ _ _ (⟨some 91, _, _, _, _, _⟩ :: _) _ _); refine wpList_loadM (op := ⟨some 91, _, _, _, _, _⟩) 28 _ rfl (by rfl) (w1.heap.size) (0) (by rfl) (fwL x0) (Blk_10.range (Blk.gb (Blk_10.below GB.out (Blk_10.lt GB.out) E8.out) G4.out (fun e => by cases e; exact GNE.out rfl))) _ Try.underlying28 rfl (sizeFwL x0) ?_) | ((with_reducible show wpList _ _ _ (⟨none, .store 28 (.tmp 4) _, _, _, _, _⟩ :: _) _ _); refine wpList_storeBA rfl 28 (.tmp 4) _ rfl (w.heap.size + 1) (by rfl) (fwL x0) (by rfl) (fwL fw0) (Blk.gb (Blk_10.below RB.out (Blk_10.lt RB.out) E8.out) G4.out (fun e => by cases e; have := HG.out; omega)) (by simp only [fwL_len]) (sizeFwL x0) (fwL_one x0) ?_; intro w6 hbs hgs; have Kw6 := Lib.hid hbs; have Gw6 := Lib.hid hgs; clear hbs hgs))
              refine bodyPost_ret (v := .tuple #[fwC x0, .bool true, .int .i64 0]) (results_fw3 rfl _ _ (w.heap.size + 1) (by rfl) x0 Kw6.out _ _ (by rfl) (by rfl)) rfl ?_
              have hgf : w.grownBy w6 (some g) := gbNew (gbThen (gbThen GW.out (gbBel E8.out _)) G4.out) Gw6.out (Nat.le_succ _)
              have hne : (some (w.heap.size + 1) : Option Nat) ≠ some g := fun e => by cases e; have := HG.out; omega
              have hown := (HO9.out.kept G4.out (Or.inr HFAR.out)).kept Gw6.out (Or.inr (fun e => by have := HO9.out.lt _ e; have := Blk_10.lt RB.out; omega))
              refine ⟨by rw [HE.out.1], _, ⟨Blk.gb KT.out Gw6.out hne, hown.base_le (Nat.zero_le _) |> (by rw [HE.out.2, ← laid_plain HD.out]; exact ·), HFAR.out⟩, hgf, fun b hb => Or.inr (Nat.le_trans GW.out.size (HO9.out.lt b hb))⟩
            · go_upto_region 23 with (fail)
              obtain ⟨A9, n9, c9, hlv9, e9, _, _, r9, _⟩ := HO.out.sl
              have HO9 := Lib.hid HO.out
              rw [hlv9] at HO9
              first | rw [hlv9] | subst hlv9
              clear e9 r9
              try clear hlv9
              have HBK := Lib.hid (Blk_10.below T.out.blk T.out.lt HW.out)
              have HFAR : Hid ((Value.slice A9 n9 c9).ownBlock ≠ some g) := Lib.hid (fun e => by have := HO9.out.lt g e; have := T.out.lt; omega)
              go_wp2_with (first | ((with_reducible show wpList _ _ _ (⟨none, .store 42 _ _, _, _, _, _⟩ :: _) _ _); refine wpList_storeB1 (op := ⟨none, _, _, _, _, _⟩) rfl 42 (.tmp 90) (.tmp 88) rfl g 1 (by rfl) (.slice A9 n9 c9) (by rfl) 44 _ HBK.out (by simp) sliceSize rfl rfl ?_; intro w4 hb4 hg4; have KT := Lib.hid hb4; have G4 := Lib.hid hg4; clear hb4 hg4) | ((with_reducible show wpList _ _ _ (⟨some 91, _, _, _, _, _⟩ :: _) _ _); refine wpList_loadM (op := ⟨some 91, _, _, _, _, _⟩) 28 _ rfl (by rfl) (w1.heap.size) (0) (by rfl) (fwL x0) (Blk_10.range (Blk.gb (Blk_10.below GB.out (Blk_10.lt GB.out) HW.out) G4.out (fun e => by cases e; exact GNE.out rfl))) _ Try.underlying28 rfl (sizeFwL x0) ?_) | ((with_reducible show wpList _ _ _ (⟨none, .store 28 (.tmp 4) _, _, _, _, _⟩ :: _) _ _); refine wpList_storeBA rfl 28 (.tmp 4) _ rfl (w.heap.size + 1) (by rfl) (fwL x0) (by rfl) (fwL fw0) (Blk.gb (Blk_10.below RB.out (Blk_10.lt RB.out) HW.out) G4.out (fun e => by cases e; have := HG.out; omega)) (by simp only [fwL_len]) (sizeFwL x0) (fwL_one x0) ?_; intro w6 hbs hgs; have Kw6 := Lib.hid hbs; have Gw6 := Lib.hid hgs; clear hbs hgs))
              refine bodyPost_ret (v := .tuple #[fwC x0, .bool true, .int .i64 0]) (results_fw3 rfl _ _ (w.heap.size + 1) (by rfl) x0 Kw6.out _ _ (by rfl) (by rfl)) rfl ?_
              have hgf : w.grownBy w6 (some g) := gbNew (gbThen (gbThen GW.out (gbBel HW.out _)) G4.out) Gw6.out (Nat.le_succ _)
              have hne : (some (w.heap.size + 1) : Option Nat) ≠ some g := fun e => by cases e; have := HG.out; omega
              have hown := (HO9.out.kept G4.out (Or.inr HFAR.out)).kept Gw6.out (Or.inr (fun e => by have := HO9.out.lt _ e; have := Blk_10.lt RB.out; omega))
              refine ⟨by rw [HE.out.1], _, ⟨Blk.gb KT.out Gw6.out hne, hown.base_le (Nat.zero_le _) |> (by rw [HE.out.2, ← laid_ins HD.out]; exact ·), HFAR.out⟩, hgf, fun b hb => Or.inr (Nat.le_trans GW.out.size (HO9.out.lt b hb))⟩
      · have HE := Lib.hid (put_room (rm := rm) HR.out HK1.out (by rw [← HN.out]; exact hfull))
        rw [HV.out, HL'.out] at HE
        have hge : ¬ (rm : Int) ≤ (n : Int) := by omega
        have hgd : decide (rm ≤ n) = false := decide_eq_false hfull
        clear hfull H9
        go_enter Try.func20, Try.ntmps20
        go_upto_region 1 with (fail)
        rw [HY1.out, HY.out]
        go_upto_region 8 with (first | ((with_reducible show wpList _ _ _ (⟨some 13, _, _, _, _, _⟩ :: _) _ _); refine wpList_loadM (op := ⟨some 13, _, _, _, _, _⟩) 28 _ rfl (by rfl) (w.heap.size) (0) (by rfl) (fwL f) (Blk_10.range HFB.out) _ Try.underlying28 rfl (sizeFwL f) ?_; rw [HLF.out]) | ((with_reducible refine (HRI.out Y).mono ?_); rintro e w1 ⟨rfl, hb1⟩; have D1 := Lib.hid hb1; clear hb1) | ((with_reducible show wpList _ _ _ (⟨none, .store 28 (.tmp 7) _, _, _, _, _⟩ :: _) _ _); refine wpList_storeNewG rfl 28 (.tmp 7) _ rfl (by rfl) (fwL fw0) (by rw [← HZF.out]; rfl) (by rfl) (sizeFwL fw0) (fwL_one fw0) ?_; intro w2 hbn hBn hzn; have K2 := Lib.hid hbn; have D2 := Lib.hid (D1.out.trans (hBn.mono D1.out.size)); have S2 := Lib.hid hzn; clear hbn hBn hzn) | ((with_reducible show wpList _ _ _ (⟨some 20, _, _, _, _, _⟩ :: _) _ _); refine wpList_loadM (op := ⟨some 20, _, _, _, _, _⟩) 26 _ rfl (by rfl) w.heap.size 0 (by rfl) (tuL f.k) (fw_key (Blk_10.range (Blk_10.below HFB.out HFL.out D2.out))) _ Try.underlying26 rfl HZK.out ?_; rw [HLK.out]) | ((with_reducible refine (HF.out w2 (HT.out.below D2.out)).mono ?_); rintro e w3 ⟨rfl, hb3⟩; have D23 := Lib.hid hb3; have D3 := Lib.hid (D2.out.trans (hb3.mono D2.out.size)); have K3 := Lib.hid (Blk_10.below K2.out (Blk_10.lt K2.out) hb3); have T3 := Lib.hid ((HT.out.below D2.out).below hb3); clear hb3))
        have q1 : w3.cell? ⟨g, 1, none⟩ = some (.slice A n c) := Blk_10.cell T3.out.blk (i := 1) rfl
        have q0 : w3.cell? ⟨g, 0, none⟩ = some (.int .i64 (rm : Int)) := Blk_10.cell T3.out.blk (i := 0) rfl
        go_quiet (fail)
        have HDQ : Hid (Below w3.heap.size w3 (w3.drewN nq)) := Lib.hid (belDraw (Below.refl _ _) nq)
        obtain ⟨wt, hwt⟩ : ∃ z, w3.drewN nq = z := ⟨_, rfl⟩
        rw [hwt] at HDQ ⊢
        clear hwt q0 q1
        go_upto_region 12 with (fail)
        have hneB : (some g : Option Nat) ≠ some w.heap.size := fun e => by cases e; exact absurd HG.out (Nat.lt_irrefl _)
        have hneR : (some g : Option Nat) ≠ some (w.heap.size + 1) := fun e => by cases e; have := HG.out; omega
        have hneG : (some g : Option Nat) ≠ some w1.heap.size := fun e => by cases e; have := HG.out; have := HB.out.size; have := D1.out.size; omega
        have DQ := Lib.hid (D3.out.trans (HDQ.out.mono D3.out.size))
        have T := Lib.hid (T3.out.below HDQ.out)
        have FB := Lib.hid (Blk_10.below HFB.out HFL.out DQ.out)
        have RB := Lib.hid (Blk_10.below HRB.out HRL.out DQ.out)
        have GB := Lib.hid (Blk_10.below K3.out (Blk_10.lt K3.out) HDQ.out)
        have GNE : Hid (g ≠ w1.heap.size) := Lib.hid (fun e => hneG (by rw [← e]))
        have GW := Lib.hid (gbBel (HB.out.trans (DQ.out.mono HB.out.size)) (some g))
        have N1 := HLN
        have RT := Lib.hid HRT.out.right
        clear hneB hneR hneG HX HN HK1
        obtain ⟨l1, hl1⟩ : ∃ m, l = m := ⟨_, rfl⟩
        rw [hl1] at T HE N1 RT
        clear hl1
        obtain ⟨A1, n1, c1, hlv1, hn1, _, _, hr1, _⟩ := T.out.own.sl
        rw [hlv1] at T
        clear hlv1
        have HQ : Hid (∀ W, Below wt.heap.size wt W → W.cell? ⟨g, 1, none⟩ = some (.slice A1 n1 c1)) := Lib.hid (fun W hW => (Blk_10.below T.out.blk T.out.lt hW).cell (i := 1) rfl)
        have HX := Lib.hid hr1
        have HL := Lib.hid hr1.len
        have HN1 : Hid (n1 ≤ 100000) := Lib.hid (by rw [hn1]; exact N1.out)
        have HFR : Hid (∀ W, Below wt.heap.size wt W → W.rangeAt w.heap.size 0 (fwL f)) := Lib.hid (fun W hW => Blk_10.range (Blk_10.below FB.out (Blk_10.lt FB.out) hW))
        clear hr1 hn1
        go_wp2_with fail
        go_loopw [10, 11, 12] (fun t d i wr => ∃ k : Nat, k ≤ n1 ∧ i = .int .i64 (k : Int) ∧ d = .bool (anyF f (l1.take k)) ∧ Hid (OwnG eF wr wt.heap.size t (laidF f (l1.take k))) ∧ Hid (Below wt.heap.size wt wr)) (fun _ _ i _ => n1 - (RowKit.intOf i).toNat)
        case atStart => exact ⟨0, Nat.zero_le _, rfl, by rw [List.take_zero]; rfl, Lib.hid (OwnG.nil_ eF _ _), Lib.hid (Below.refl _ _)⟩
        case round =>
          obtain ⟨k, hk, rfl, rfl, HO, HW⟩ := hrel
          have q1 := HQ.out wr HW.out
          obtain ⟨D, hD⟩ : ∃ D, anyF f (l1.take k) = D := ⟨_, rfl⟩
          rw [hD]
          have HD := Lib.hid hD
          clear hD
          by_cases hlt : k < n1
          · have h1 : (k : Int) < (n1 : Int) := by omega
            have h0 : (0 : Int) ≤ (k : Int) := by omega
            obtain ⟨b, off, hA1, _⟩ := HX.out.addr (by omega)
            subst hA1
            obtain ⟨x, hx⟩ : ∃ x, l1[k]? = some x := ⟨_, List.getElem?_eq_getElem (by rw [HL.out]; exact hlt)⟩
            have RX : Hid (∀ W, Below wt.heap.size wt W → W.rangeAt b (off + k * 41) (fwL x)) := Lib.hid (fun W hW => (HX.out.below hW).range hx)
            have HTS := Lib.hid (take_snoc hx)
            have HFX : Hid (rightF x = true) := Lib.hid (RT.out x (List.mem_of_getElem? hx))
            obtain ⟨LX, hLX⟩ : ∃ L, (fwL x).toArray = L := ⟨_, rfl⟩
            have HLX := Lib.hid hLX
            have HLT := Lib.hid hlt
            have HLB : Hid ((laidF f (l1.take k)).length + 2 ≤ 100000000) := Lib.hid (by have := laid_len f (l1.take k); rw [List.length_take] at this; have := HN1.out; omega)
            have HLB1 : Hid ((laidF f (l1.take k)).length + 1 ≤ 100000000) := Lib.hid (by have := HLB.out; omega)
            have hk9 : k < 9223372036854775807 := by have := HN1.out; omega
            obtain ⟨s, hs⟩ : ∃ s, olderF f x = s := ⟨_, rfl⟩
            have HCO : Hid (∀ W : World, Calls Try.prog 16 #[.agg LF, .agg LX] W fun e w' => e = .returned (.bool s) ∧ Below W.heap.size W w') := Lib.hid (fun W => by
              have := rolder21_any FIT.out (right_fit HFX.out) W
              unfold fwC at this
              rw [HLF.out, hLX, hs] at this
              exact this)
            have HS := Lib.hid hs
            clear hx hlt hLX hk hs
            cases D
            · go_upto_region 17 with (fail)
              refine wp_region_held_drew (S := fun W => Below wt.heap.size wt W) (by kernel_rfl) (HW.out.drew) (fun hHeld => ?_)
              have HDR : Hid (Below wr.heap.size wr wr.drew) := Lib.hid (Below.refl wr.heap.size wr).drew
              refine tk 0 54 (.bool false) rfl hHeld ?_
              simp only [Act.put, sA, sZ, sS]
              refine tk 1 55 (.bool true) rfl hHeld ?_
              simp only [Act.put, sA, sZ, sS]
              refine tk 2 56 (.bool true) rfl hHeld ?_
              simp only [Act.put, sA, sZ, sS]
              refine tkY 3 57 (.agg LF) rfl (by rw [← HLF.out]; exact yieldsIf_load_mid (by rfl) 28 _ rfl w.heap.size (0) (by rfl) (fwL f) _ (HFR.out) Try.underlying28 rfl (HZL.out)) hHeld ?_
              simp only [Act.put, sA, sZ, sS]
              refine tk 4 58 (.pointer (some ⟨g, 0, none⟩)) rfl hHeld ?_
              simp only [Act.put, sA, sZ, sS]
              refine tk 5 59 (.pointer (some ⟨g, 0, none⟩)) rfl hHeld ?_
              simp only [Act.put, sA, sZ, sS]
              refine tk 6 60 (.pointer (some ⟨g, 1, none⟩)) rfl hHeld ?_
              simp only [Act.put, sA, sZ, sS]
              refine tkY 7 61 (.slice (some ⟨b, off, none⟩) n1 c1) rfl (Or.inl ⟨by rfl, fun W hW => by have hc := HQ.out W hW; go_simp⟩) hHeld ?_
              simp only [Act.put, sA, sZ, sS]
              refine tk 8 62 (.int .i64 (k : Int)) rfl hHeld ?_
              simp only [Act.put, sA, sZ, sS]
              refine tk 9 63 (.pointer (some ⟨b, off + k * 41, none⟩)) rfl hHeld ?_
              simp only [Act.put, sA, sZ, sS]
              refine tkY 10 64 (.agg LX) rfl (by rw [← HLX.out]; exact yieldsIf_load_mid (by rfl) 28 _ rfl b (off + k * 41) (by rfl) (fwL x) _ (RX.out) Try.underlying28 rfl (sizeFwL x)) hHeld ?_
              simp only [Act.put, sA, sZ, sS]
              refine wpAnyH_ready (rs := [11]) (by kernel_rfl) (by simp) (AllReadyH.cons (o := ⟨some 65, _, _, _, _, _⟩) rfl (fun K hK => ?_) AllReadyH.nil)
              go_simp
              refine (HCO.out _).mono ?_
              rintro e wz ⟨rfl, hb⟩
              have HWZ := Lib.hid (hHeld.trans (hb.mono hHeld.size))
              have HBZ := Lib.hid (HDR.out.trans (hb.mono HDR.out.size))
              refine hK.out _ _ (HWZ.out) (fun hHeld => ?_)
              clear hK K hb
              refine tk 12 66 (.bool s) rfl hHeld ?_
              simp only [Act.put, sA, sZ, sS]
              refine wpAnyH_done (by kernel_rfl) ?_ _
              clear hHeld
              have q2 := HQ.out wz HWZ.out
              have HOZ := Lib.hid (HO.out.below HBZ.out)
              cases s
              · have HU := Lib.hid (laid_not HD.out HS.out)
                go_wp2_with (first | ((with_reducible show wpList _ _ _ (⟨some 78, _, _, _, _, _⟩ :: _) _ _); refine wpList_loadM (op := ⟨some 78, _, _, _, _, _⟩) 28 _ rfl (by rfl) (b) (off + k * 41) (by rfl) (fwL x) (RX.out wz HWZ.out) _ Try.underlying28 rfl (sizeFwL x) ?_; rw [HLX.out]) | ((with_reducible show wpList _ _ _ (⟨some 79, _, _, _, _, _⟩ :: _) _ _); refine wpList_build1 (o := ⟨some 79, _, _, _, _, _⟩) eF (by decide) x rfl 78 rfl LX HLX.out (by rw [← HLX.out]; rfl) ?_) | ((with_reducible show wpList _ _ _ (⟨some 80, _, _, _, _, _⟩ :: _) _ _); refine wpList_appendG (o := ⟨some 80, _, _, _, _, _⟩) eF rfl _ _ rfl wt.heap.size _ (laidF f (l1.take k)) (by rfl) (HOZ.out.alloc _) (wz.heap.size + 1) _ 1 1 [x] (by rfl) (RdG.laid eF wz [x] 1 rfl _ (by rw [← HLX.out]; simp [Enc.cells]; rfl)) (HLB1.out) (by rw [World.size_alloc]; exact Nat.le_succ_of_le HWZ.out.size) ?_; intro v8 w8 ho hg _; have O8 := Lib.hid ho; have E8 := Lib.hid (HWZ.out.trans (((Below.refl wt.heap.size wz).alloc (HWZ.out.size) (.cells LX 28)).grown hg (by rw [World.size_alloc]; exact Nat.le_succ_of_le HWZ.out.size) (HOZ.out.lt))); clear ho hg))
                go_roundw
                case rel => exact ⟨k + 1, HLT.out, (by have := HLT.out; go_num), (by rw [HTS.out, HU.out.2]), Lib.hid (by rw [HTS.out, HU.out.1]; exact O8.out), E8⟩
                case measure =>
                  have := HLT.out
                  simp [RowKit.intOf]
                  omega
              · have HU := Lib.hid (laid_now HD.out HS.out)
                go_upto_region 19 with (first | ((with_reducible show wpList _ _ _ (⟨some 68, _, _, _, _, _⟩ :: _) _ _); refine wpList_loadM (op := ⟨some 68, _, _, _, _, _⟩) 28 _ rfl (by rfl) (w.heap.size) (0) (by rfl) (fwL f) (HFR.out wz HWZ.out) _ Try.underlying28 rfl (sizeFwL f) ?_; rw [HLF.out]) | ((with_reducible show wpList _ _ _ (⟨some 69, _, _, _, _, _⟩ :: _) _ _); refine wpList_build1 (o := ⟨some 69, _, _, _, _, _⟩) eF (by decide) f rfl 68 rfl LF HLF.out (by rw [← HLF.out]; rfl) ?_) | ((with_reducible show wpList _ _ _ (⟨some 70, _, _, _, _, _⟩ :: _) _ _); refine wpList_appendG (o := ⟨some 70, _, _, _, _, _⟩) eF rfl _ _ rfl wt.heap.size _ (laidF f (l1.take k)) (by rfl) (HOZ.out.alloc _) (wz.heap.size + 1) _ 1 1 [f] (by rfl) (RdG.laid eF wz [f] 1 rfl _ (by rw [← HLF.out]; simp [Enc.cells]; rfl)) (HLB1.out) (by rw [World.size_alloc]; exact Nat.le_succ_of_le HWZ.out.size) ?_; intro v7 w7 ho hg _; have O7 := Lib.hid ho; have E7 := Lib.hid (HWZ.out.trans (((Below.refl wt.heap.size wz).alloc (HWZ.out.size) (.cells LF 28)).grown hg (by rw [World.size_alloc]; exact Nat.le_succ_of_le HWZ.out.size) (HOZ.out.lt))); clear ho hg))
                have q3 := HQ.out w7 E7.out
                go_wp2_with (first | ((with_reducible show wpList _ _ _ (⟨some 78, _, _, _, _, _⟩ :: _) _ _); refine wpList_loadM (op := ⟨some 78, _, _, _, _, _⟩) 28 _ rfl (by rfl) (b) (off + k * 41) (by rfl) (fwL x) (RX.out w7 E7.out) _ Try.underlying28 rfl (sizeFwL x) ?_; rw [HLX.out]) | ((with_reducible show wpList _ _ _ (⟨some 79, _, _, _, _, _⟩ :: _) _ _); refine wpList_build1 (o := ⟨some 79, _, _, _, _, _⟩) eF (by decide) x rfl 78 rfl LX HLX.out (by rw [← HLX.out]; rfl) ?_) | ((with_reducible show wpList _ _ _ (⟨some 80, _, _, _, _, _⟩ :: _) _ _); refine wpList_appendG (o := ⟨some 80, _, _, _, _, _⟩) eF rfl _ _ rfl wt.heap.size _ (laidF f (l1.take k) ++ [f]) (by rfl) (O7.out.alloc _) (w7.heap.size + 1) _ 1 1 [x] (by rfl) (RdG.laid eF w7 [x] 1 rfl _ (by rw [← HLX.out]; simp [Enc.cells]; rfl)) (by rw [List.length_append, List.length_singleton]; exact HLB.out) (by rw [World.size_alloc]; exact Nat.le_succ_of_le E7.out.size) ?_; intro v8 w8 ho hg _; have O8 := Lib.hid ho; have E8 := Lib.hid (E7.out.trans (((Below.refl wt.heap.size w7).alloc (E7.out.size) (.cells LX 28)).grown hg (by rw [World.size_alloc]; exact Nat.le_succ_of_le E7.out.size) (O7.out.lt))); clear ho hg))
                go_roundw
                case rel => exact ⟨k + 1, HLT.out, (by have := HLT.out; go_num), (by rw [HTS.out, HU.out.2]), Lib.hid (by rw [HTS.out, HU.out.1]; exact O8.out), E8⟩
                case measure =>
                  have := HLT.out
                  simp [RowKit.intOf]
                  omega
            · have HU := Lib.hid (laid_done (x := x) HD.out)
              go_upto_region 17 with (fail)
              refine wp_region_held_drew (S := fun W => Below wt.heap.size wt W) (by kernel_rfl) (HW.out.drew) (fun hHeld => ?_)
              have HBZ : Hid (Below wr.heap.size wr wr.drew) := Lib.hid (Below.refl wr.heap.size wr).drew
              refine tk 0 54 (.bool true) rfl hHeld ?_
              simp only [Act.put, sA, sZ, sS]
              refine tk 1 55 (.bool false) rfl hHeld ?_
              simp only [Act.put, sA, sZ, sS]
              refine tk 2 56 (.bool false) rfl hHeld ?_
              simp only [Act.put, sA, sZ, sS]
              refine tkN 3 57 rfl hHeld ?_
              simp only [Act.put, sA, sZ, sS]
              refine tkN 4 58 rfl hHeld ?_
              simp only [Act.put, sA, sZ, sS]
              refine tkN 5 59 rfl hHeld ?_
              simp only [Act.put, sA, sZ, sS]
              refine tkN 6 60 rfl hHeld ?_
              simp only [Act.put, sA, sZ, sS]
              refine tkN 7 61 rfl hHeld ?_
              simp only [Act.put, sA, sZ, sS]
              refine tkN 8 62 rfl hHeld ?_
              simp only [Act.put, sA, sZ, sS]
              refine tkN 9 63 rfl hHeld ?_
              simp only [Act.put, sA, sZ, sS]
              refine tkN 10 64 rfl hHeld ?_
              simp only [Act.put, sA, sZ, sS]
              refine tkN 11 65 rfl hHeld ?_
              simp only [Act.put, sA, sZ, sS]
              refine tk 12 66 (.bool false) rfl hHeld ?_
              simp only [Act.put, sA, sZ, sS]
              refine wpAnyH_done (by kernel_rfl) ?_ _
              have HWZ := Lib.hid hHeld
              clear hHeld
              have HOZ := Lib.hid (HO.out.below HBZ.out)
              obtain ⟨wz, hwz⟩ : ∃ z, wr.drew = z := ⟨_, rfl⟩
              rw [hwz] at HWZ HBZ HOZ ⊢
              clear hwz
              have q2 := HQ.out wz HWZ.out
              go_wp2_with (first | ((with_reducible show wpList _ _ _ (⟨some 78, _, _, _, _, _⟩ :: _) _ _); refine wpList_loadM (op := ⟨some 78, _, _, _, _, _⟩) 28 _ rfl (by rfl) (b) (off + k * 41) (by rfl) (fwL x) (RX.out wz HWZ.out) _ Try.underlying28 rfl (sizeFwL x) ?_; rw [HLX.out]) | ((with_reducible show wpList _ _ _ (⟨some 79, _, _, _, _, _⟩ :: _) _ _); refine wpList_build1 (o := ⟨some 79, _, _, _, _, _⟩) eF (by decide) x rfl 78 rfl LX HLX.out (by rw [← HLX.out]; rfl) ?_) | ((with_reducible show wpList _ _ _ (⟨some 80, _, _, _, _, _⟩ :: _) _ _); refine wpList_appendG (o := ⟨some 80, _, _, _, _, _⟩) eF rfl _ _ rfl wt.heap.size _ (laidF f (l1.take k)) (by rfl) (HOZ.out.alloc _) (wz.heap.size + 1) _ 1 1 [x] (by rfl) (RdG.laid eF wz [x] 1 rfl _ (by rw [← HLX.out]; simp [Enc.cells]; rfl)) (HLB1.out) (by rw [World.size_alloc]; exact Nat.le_succ_of_le HWZ.out.size) ?_; intro v8 w8 ho hg _; have O8 := Lib.hid ho; have E8 := Lib.hid (HWZ.out.trans (((Below.refl wt.heap.size wz).alloc (HWZ.out.size) (.cells LX 28)).grown hg (by rw [World.size_alloc]; exact Nat.le_succ_of_le HWZ.out.size) (HOZ.out.lt))); clear ho hg))
              go_roundw
              case rel => exact ⟨k + 1, HLT.out, (by have := HLT.out; go_num), (by rw [HTS.out, HU.out.2]), Lib.hid (by rw [HTS.out, HU.out.1]; exact O8.out), E8⟩
              case measure =>
                have := HLT.out
                simp [RowKit.intOf]
                omega
          · obtain rfl : k = n1 := by omega
            have h1 : ¬ (k : Int) < (k : Int) := by omega
            have HTK : Hid (l1.take k = l1) := Lib.hid (List.take_of_length_le (Nat.le_of_eq HL.out))
            rw [HTK.out] at HO HD
            have HLB : Hid ((laidF f l1).length + 1 ≤ 100000000) := Lib.hid (by have := laid_len f l1; have := HL.out; have := HN1.out; omega)
            clear hlt hk
            cases D
            · go_upto_region 23 with (first | ((with_reducible show wpList _ _ _ (⟨some 84, _, _, _, _, _⟩ :: _) _ _); refine wpList_loadM (op := ⟨some 84, _, _, _, _, _⟩) 28 _ rfl (by rfl) (w.heap.size) (0) (by rfl) (fwL f) (HFR.out wr HW.out) _ Try.underlying28 rfl (sizeFwL f) ?_; rw [HLF.out]) | ((with_reducible show wpList _ _ _ (⟨some 85, _, _, _, _, _⟩ :: _) _ _); refine wpList_build1 (o := ⟨some 85, _, _, _, _, _⟩) eF (by decide) f rfl 84 rfl LF HLF.out (by rw [← HLF.out]; rfl) ?_) | ((with_reducible show wpList _ _ _ (⟨some 86, _, _, _, _, _⟩ :: _) _ _); refine wpList_appendG (o := ⟨some 86, _, _, _, _, _⟩) eF rfl _ _ rfl wt.heap.size _ (laidF f l1) (by rfl) (HO.out.alloc _) (wr.heap.size + 1) _ 1 1 [f] (by rfl) (RdG.laid eF wr [f] 1 rfl _ (by rw [← HLF.out]; simp [Enc.cells]; rfl)) (HLB.out) (by rw [World.size_alloc]; exact Nat.le_succ_of_le HW.out.size) ?_; intro v8 w8 ho hg _; have O8 := Lib.hid ho; have E8 := Lib.hid (HW.out.trans (((Below.refl wt.heap.size wr).alloc (HW.out.size) (.cells LF 28)).grown hg (by rw [World.size_alloc]; exact Nat.le_succ_of_le HW.out.size) (HO.out.lt))); clear ho hg))
              obtain ⟨A9, n9, c9, hlv9, e9, _, _, r9, _⟩ := O8.out.sl
              have HO9 := Lib.hid O8.out
              rw [hlv9] at HO9
              first | rw [hlv9] | subst hlv9
              clear e9 r9
              try clear hlv9
              have HBK := Lib.hid (Blk_10.below T.out.blk T.out.lt E8.out)
              have HFAR : Hid ((Value.slice A9 n9 c9).ownBlock ≠ some g) := Lib.hid (fun e => by have := HO9.out.lt g e; have := T.out.lt; omega)
              go_wp2_with (first | ((with_reducible show wpList _ _ _ (⟨none, .store 42 _ _, _, _, _, _⟩ :: _) _ _); refine wpList_storeB1 (op := ⟨none, _, _, _, _, _⟩) rfl 42 (.tmp 90) (.tmp 88) rfl g 1 (by rfl) (.slice A9 n9 c9) (by rfl) 44 _ HBK.out (by simp) sliceSize rfl rfl ?_; intro w4 hb4 hg4; have KT := Lib.hid hb4; have G4 := Lib.hid hg4; clear hb4 hg4) | ((with_reducible show wpList _ _ _ (⟨some 91, _, _, _, _, _⟩ :: _) _ _); refine wpList_loadM (op := ⟨some 91, _, _, _, _, _⟩) 28 _ rfl (by rfl) (w1.heap.size) (0) (by rfl) (fwL fw0) (Blk_10.range (Blk.gb (Blk_10.below GB.out (Blk_10.lt GB.out) E8.out) G4.out (fun e => by cases e; exact GNE.out rfl))) _ Try.underlying28 rfl (sizeFwL fw0) ?_) | ((with_reducible show wpList _ _ _ (⟨none, .store 28 (.tmp 4) _, _, _, _, _⟩ :: _) _ _); refine wpList_storeBA rfl 28 (.tmp 4) _ rfl (w.heap.size + 1) (by rfl) (fwL fw0) (by rfl) (fwL fw0) (Blk.gb (Blk_10.below RB.out (Blk_10.lt RB.out) E8.out) G4.out (fun e => by cases e; have := HG.out; omega)) (by simp only [fwL_len]) (sizeFwL fw0) (fwL_one fw0) ?_; intro w6 hbs hgs; have Kw6 := Lib.hid hbs; have Gw6 := Lib.hid hgs; clear hbs hgs))
              refine bodyPost_ret (v := .tuple #[fwC fw0, .bool false, .int .i64 0]) (results_fw3 rfl _ _ (w.heap.size + 1) (by rfl) fw0 Kw6.out _ _ (by rfl) (by rfl)) rfl ?_
              have hgf : w.grownBy w6 (some g) := gbNew (gbThen (gbThen GW.out (gbBel E8.out _)) G4.out) Gw6.out (Nat.le_succ _)
              have hne : (some (w.heap.size + 1) : Option Nat) ≠ some g := fun e => by cases e; have := HG.out; omega
              have hown := (HO9.out.kept G4.out (Or.inr HFAR.out)).kept Gw6.out (Or.inr (fun e => by have := HO9.out.lt _ e; have := Blk_10.lt RB.out; omega))
              refine ⟨by rw [HE.out.1], _, ⟨Blk.gb KT.out Gw6.out hne, hown.base_le (Nat.zero_le _) |> (by rw [HE.out.2, ← laid_plain HD.out]; exact ·), HFAR.out⟩, hgf, fun b hb => Or.inr (Nat.le_trans GW.out.size (HO9.out.lt b hb))⟩
            · go_upto_region 23 with (fail)
              obtain ⟨A9, n9, c9, hlv9, e9, _, _, r9, _⟩ := HO.out.sl
              have HO9 := Lib.hid HO.out
              rw [hlv9] at HO9
              first | rw [hlv9] | subst hlv9
              clear e9 r9
              try clear hlv9
              have HBK := Lib.hid (Blk_10.below T.out.blk T.out.lt HW.out)
              have HFAR : Hid ((Value.slice A9 n9 c9).ownBlock ≠ some g) := Lib.hid (fun e => by have := HO9.out.lt g e; have := T.out.lt; omega)
              go_wp2_with (first | ((with_reducible show wpList _ _ _ (⟨none, .store 42 _ _, _, _, _, _⟩ :: _) _ _); refine wpList_storeB1 (op := ⟨none, _, _, _, _, _⟩) rfl 42 (.tmp 90) (.tmp 88) rfl g 1 (by rfl) (.slice A9 n9 c9) (by rfl) 44 _ HBK.out (by simp) sliceSize rfl rfl ?_; intro w4 hb4 hg4; have KT := Lib.hid hb4; have G4 := Lib.hid hg4; clear hb4 hg4) | ((with_reducible show wpList _ _ _ (⟨some 91, _, _, _, _, _⟩ :: _) _ _); refine wpList_loadM (op := ⟨some 91, _, _, _, _, _⟩) 28 _ rfl (by rfl) (w1.heap.size) (0) (by rfl) (fwL fw0) (Blk_10.range (Blk.gb (Blk_10.below GB.out (Blk_10.lt GB.out) HW.out) G4.out (fun e => by cases e; exact GNE.out rfl))) _ Try.underlying28 rfl (sizeFwL fw0) ?_) | ((with_reducible show wpList _ _ _ (⟨none, .store 28 (.tmp 4) _, _, _, _, _⟩ :: _) _ _); refine wpList_storeBA rfl 28 (.tmp 4) _ rfl (w.heap.size + 1) (by rfl) (fwL fw0) (by rfl) (fwL fw0) (Blk.gb (Blk_10.below RB.out (Blk_10.lt RB.out) HW.out) G4.out (fun e => by cases e; have := HG.out; omega)) (by simp only [fwL_len]) (sizeFwL fw0) (fwL_one fw0) ?_; intro w6 hbs hgs; have Kw6 := Lib.hid hbs; have Gw6 := Lib.hid hgs; clear hbs hgs))
              refine bodyPost_ret (v := .tuple #[fwC fw0, .bool false, .int .i64 0]) (results_fw3 rfl _ _ (w.heap.size + 1) (by rfl) fw0 Kw6.out _ _ (by rfl) (by rfl)) rfl ?_
              have hgf : w.grownBy w6 (some g) := gbNew (gbThen (gbThen GW.out (gbBel HW.out _)) G4.out) Gw6.out (Nat.le_succ _)
              have hne : (some (w.heap.size + 1) : Option Nat) ≠ some g := fun e => by cases e; have := HG.out; omega
              have hown := (HO9.out.kept G4.out (Or.inr HFAR.out)).kept Gw6.out (Or.inr (fun e => by have := HO9.out.lt _ e; have := Blk_10.lt RB.out; omega))
              refine ⟨by rw [HE.out.1], _, ⟨Blk.gb KT.out Gw6.out hne, hown.base_le (Nat.zero_le _) |> (by rw [HE.out.2, ← laid_ins HD.out]; exact ·), HFAR.out⟩, hgf, fun b hb => Or.inr (Nat.le_trans GW.out.size (HO9.out.lt b hb))⟩
end Go.Proofs.Ytfbiinipiklkaaa
