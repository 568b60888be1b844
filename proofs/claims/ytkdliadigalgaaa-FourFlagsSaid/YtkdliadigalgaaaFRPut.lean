/-
  The document's Put.
-/
import Derived.Test.YtkdliadigalgaaaFPut
import Derived.Test.YtkdliadigalgaaaFRef
namespace Go.Proofs.Ytkdliadigalgaaa
open Go.RowKit Go.Lib

theorem Own8.frozen {w : World} {base g n c : Nat} {xs : List UInt8} (h : Own8 w base (.slice (some ⟨g, 0, none⟩) n c) xs) (j : Nat) : w.frozen? ⟨g, j, none⟩ = false := by
  rcases h.2 with ⟨e, _⟩ | ⟨g', cap', cur, e, _, hg, _⟩
  · cases e
  · cases e
    exact frozen_of_row w g j cur _ hg
/-- The cells of block g, from its head on, are just the bytes cur, and may be written. -/
def Held (w : World) (g : Nat) (cur : List UInt8) : Prop := ∀ j y, cur[j]? = some y → w.cell? ⟨g, j, none⟩ = some (v8 y) ∧ w.frozen? ⟨g, j, none⟩ = false
theorem Held.set {w : World} {g : Nat} {cur : List UInt8} (h : Held w g cur) {k : Nat} {x : UInt8} (hx : cur[k]? = some x) (y : UInt8) : Held (w.setCell ⟨g, k, none⟩ (.int .u8 (y.toNat : Int))) g (cur.set k y) := by
  intro j z hz
  rw [World.frozen?_setCell]
  have hk : k < cur.length := (List.getElem?_eq_some_iff.1 hx).1
  rw [List.getElem?_set] at hz
  by_cases e : k = j
  · subst e
    simp [hk] at hz
    subst hz
    exact ⟨World.cell?_setCell_same _ _ _ (h k x hx).1, (h k x hx).2⟩
  · rw [if_neg e] at hz
    rw [World.cell?_setCell_other _ _ _ _ (by intro e'; cases e'; exact e rfl)]
    exact h j z hz
theorem Held.rd {w : World} {g : Nat} {cur : List UInt8} (h : Held w g cur) {B n : Nat} (hg : g < B) (hn : cur.length = n) : Rd w B (some ⟨g, 0, none⟩) n cur :=
  ⟨hn, fun _ => ⟨g, 0, rfl, hg, fun j x hx => by rw [Nat.zero_add]; exact (h j x hx).1⟩⟩

theorem own_form {w : World} {base : Nat} {v : Value} {xs : List UInt8} {n : Nat} (h : Own8 w base v xs) (hn : xs.length = n) (h0 : 0 < n) :
    ∃ g c, v = .slice (some ⟨g, 0, none⟩) n c ∧ n ≤ c ∧ c ≤ maxLen ∧ base ≤ g ∧ g < w.heap.size ∧ Held w g xs := by
  subst hn
  obtain ⟨A2, c2, rfl, hmc2, hcm2, hr2, hgg⟩ := h.rd
  obtain ⟨g, rfl, hbg⟩ := hgg h0
  obtain ⟨b, off, e, hglt⟩ := hr2.addr h0
  cases e
  refine ⟨g, c2, rfl, hmc2, hcm2, hbg, hglt, fun j y hy => ?_⟩
  obtain ⟨b, off, e, _, hc⟩ := hr2.2 h0
  cases e
  have := hc j y hy
  rw [Nat.zero_add] at this
  exact ⟨this, h.frozen j⟩

theorem Held.below {w w' : World} {g B : Nat} {cur : List UInt8} (h : Held w g cur) (hB : g < B) (hb : Below B w w') : Held w' g cur := fun j y hy => by
  obtain ⟨h1, h2⟩ := h j y hy
  refine ⟨(hb.cell (p := ⟨g, j, none⟩) hB).trans h1, ?_⟩
  have := hb.block g hB
  unfold World.frozen? at h2 ⊢
  simpa [this] using h2
theorem Held.lt {w : World} {g : Nat} {cur : List UInt8} (h : Held w g cur) (h0 : 0 < cur.length) : g < w.heap.size := by
  obtain ⟨h1, _⟩ := h 0 _ (List.getElem?_eq_getElem h0)
  exact World.block_lt_of_cell? w _ h1
/-- A byte stored into a block whose head is known: a law for the walk; the world behind it is a letter. -/
theorem wpList_storeH {w : World} {ops : Array Oper} {rest : List Oper} {op : Oper} {a : Act} {Q : Exit → Act → World → Prop} (hgd : op.guard = none) (x y : Operand) (ho : op.op = .store 5 x y)
    (g i : Nat) (hx : a.eval x = .pointer (some ⟨g, i, none⟩)) (b : UInt8) (n : Int) (hn : n = (b.toNat : Int)) (hy : a.eval y = .int .u8 n) (xs : List UInt8) (hheld : Held w g xs) (hi : i < xs.length)
    (h : ∀ w', Held w' g (xs.set i b) → Below g w w' → wpList Try.prog ops Q rest (a.put op.dst undef) w') : wpList Try.prog ops Q (op :: rest) a w := by
  subst hn
  refine wpList_plain hgd fun K hK => ?_
  obtain ⟨hc, hf⟩ := hheld i _ (List.getElem?_eq_getElem hi)
  have hk := h _ (hheld.set (List.getElem?_eq_getElem hi) b) ((Below.refl g w).setCell (p := ⟨g, i, none⟩) (Nat.le_refl _) _)
  unfold v8 at hc
  unfold Oper.wp execOp
  simp only [ho, hx, hy]
  clear h
  go_simp
  exact hK _ _ hk
theorem hdr_parts (O T I W L P c : Nat) (s d : List UInt8) : (hdr O T I W L P c [] [] ++ s) ++ d = hdr O T I W L P c s d := by simp [hdr]
theorem v8_of (n : Nat) (h : n < 256) : v8 (UInt8.ofNat n) = .int .u8 (n : Int) := by
  unfold v8
  rw [UInt8.toNat_ofNat', Nat.mod_eq_of_lt h]
theorem hdr_cells {O T I L P : Nat} (tl : T < 65536) (ol : O < 256) (il : I < 65536) (ll : L < 256) (pl : P < 256) : ((hdr O T I 0 L P 0 [] []).map v8).toArray = #[.int .u8 69, .int .u8 (O : Int), .int .u8 ((T : Int) / 256), .int .u8 ((T : Int) % 256), .int .u8 ((I : Int) / 256), .int .u8 ((I : Int) % 256), .int .u8 0, .int .u8 0, .int .u8 (L : Int), .int .u8 (P : Int), .int .u8 0, .int .u8 0] := by
  show ([69, UInt8.ofNat O, UInt8.ofNat (T / 256), UInt8.ofNat (T % 256), UInt8.ofNat (I / 256), UInt8.ofNat (I % 256), 0, 0, UInt8.ofNat L, UInt8.ofNat P, 0, 0].map v8).toArray = _
  simp only [List.map_cons, List.map_nil]
  rw [v8_of O ol, v8_of (T / 256) (by omega), v8_of (T % 256) (by omega), v8_of (I / 256) (by omega), v8_of (I % 256) (by omega), v8_of L ll, v8_of P pl]
  rfl

set_option maxRecDepth 100000 in
set_option maxHeartbeats 4000000 in
theorem rput_any {f : Fr} (hok : f.Ok) (hr : rightB f = true) (w : World) :
    Calls Try.prog 15 #[frC f] w fun e w' => ∃ A c, e = .returned (.slice A 20 c) ∧ Rd w' w'.heap.size A 20 (putF f) ∧ Below w.heap.size w w' := by
  obtain ⟨T, O, I, L, P, s, d, hf, s4, d4, tl, ol, il, ll, pl, hput⟩ := put_hdr hok hr
  have HS4 := Lib.hid s4
  have HD4 := Lib.hid d4
  have HPUT := Lib.hid hput
  have hsrc : ∀ W, Blk W 28 w.heap.size (frL f) → ∀ j v, (s.map v8)[j]? = some v → W.cell? ⟨w.heap.size, 9 + j, none⟩ = some v := fun W hW j v hv => by
    refine hW.srcB j v ?_
    rw [hf]
    show ((s ++ z12).map v8)[j]? = some v
    rw [List.map_append, List.getElem?_append_left (List.getElem?_eq_some_iff.1 hv).1]; exact hv
  have hdst : ∀ W, Blk W 28 w.heap.size (frL f) → ∀ j v, (d.map v8)[j]? = some v → W.cell? ⟨w.heap.size, 26 + j, none⟩ = some v := fun W hW j v hv => by
    refine hW.dstB hok j v ?_
    rw [hf]
    show ((d ++ z12).map v8)[j]? = some v
    rw [List.map_append, List.getElem?_append_left (List.getElem?_eq_some_iff.1 hv).1]; exact hv
  have HSRC := Lib.hid hsrc
  have HDST := Lib.hid hdst
  obtain ⟨ke, hke⟩ : ∃ ke, f.keep = ke := ⟨_, rfl⟩
  have HFL := Lib.hid (show flagW f = if ke then 16384 else 0 by unfold flagW; rw [hke])
  rw [hke] at hf
  have hcells : frL f = [.int .i64 20, .int .i64 (T : Int), .int .i64 (O : Int), .int .i64 (I : Int), .bool false, .bool ke, .int .i64 (L : Int), .int .i64 (P : Int)] ++ (adL f.s ++ adL f.d) := by
    unfold frL frN
    rw [hf]
  have hb1 := Blk.new w 28 (frL f)
  have k1 := hb1.cell (i := 1) (v := .int .i64 (T : Int)) (by rw [hcells]; rfl)
  have k2 := hb1.cell (i := 2) (v := .int .i64 (O : Int)) (by rw [hcells]; rfl)
  have k3 := hb1.cell (i := 3) (v := .int .i64 (I : Int)) (by rw [hcells]; rfl)
  have k6 := hb1.cell (i := 6) (v := .int .i64 (L : Int)) (by rw [hcells]; rfl)
  have k7 := hb1.cell (i := 7) (v := .int .i64 (P : Int)) (by rw [hcells]; rfl)
  have hrow : Row8 ((w.alloc (.cells (frL f).toArray 28)).alloc (.cells ((hdr O T I 0 L P 0 [] []).map v8).toArray 5)) (w.heap.size + 1) (hdr O T I 0 L P 0 [] []) := by
    have := heap_alloc_new (w.alloc (.cells (frL f).toArray 28)) (.cells ((hdr O T I 0 L P 0 [] []).map v8).toArray 5)
    simpa [Row8] using this
  have hq1 := hb1.alloc (.cells ((hdr O T I 0 L P 0 [] []).map v8).toArray 5)
  have hB1 := ((Below.refl w.heap.size w).alloc (Nat.le_refl _) (.cells (frL f).toArray 28)).alloc (by simp) (.cells ((hdr O T I 0 L P 0 [] []).map v8).toArray 5)
  have k5 := hq1.cell (i := 5) (v := .bool ke) (by rw [hcells]; rfl)
  obtain ⟨w1, hw1⟩ : ∃ w1, (w.alloc (.cells (frL f).toArray 28)).alloc (.cells ((hdr O T I 0 L P 0 [] []).map v8).toArray 5) = w1 := ⟨_, rfl⟩
  rw [hw1] at hrow hq1 hB1
  rw [hdr_cells tl ol il ll pl] at hw1 k5
  have HW1 := Lib.hid hw1
  have HR1 := Lib.hid hrow
  have HQ1 := Lib.hid hq1
  have HB1 := Lib.hid hB1
  have u1 : IntKind.u8.wrap (O : Int) = (O : Int) := by rw [IntKind.wrap_u8]; omega
  have u2 : IntKind.u8.wrap ((T : Int) / 256) = (T : Int) / 256 := by rw [IntKind.wrap_u8]; omega
  have u3 : IntKind.u8.wrap ((T : Int) % 256) = (T : Int) % 256 := by rw [IntKind.wrap_u8]; omega
  have u4 : IntKind.u8.wrap ((I : Int) / 256) = (I : Int) / 256 := by rw [IntKind.wrap_u8]; omega
  have u5 : IntKind.u8.wrap ((I : Int) % 256) = (I : Int) % 256 := by rw [IntKind.wrap_u8]; omega
  have u6 : IntKind.u8.wrap (L : Int) = (L : Int) := by rw [IntKind.wrap_u8]; omega
  have u7 : IntKind.u8.wrap (P : Int) = (P : Int) := by rw [IntKind.wrap_u8]; omega
  have HC64 := Lib.hid (show (64 : Int) = ((64 : UInt8).toNat : Int) from rfl)
  unfold frC
  obtain ⟨C, hC⟩ : ∃ C, (frL f).toArray = C := ⟨_, rfl⟩
  rw [hC] at k1 k2 k3 k5 k6 k7 HW1 ⊢
  clear hC hb1 hq1 hB1 hw1 hrow hr hok s4 d4 hput hsrc hdst hke hcells hf
  cases ke with
  | true =>
    have HFL2 : Hid (flagW f = 16384) := Lib.hid (by rw [HFL.out]; rfl)
    go_enter Try.func15, Try.ntmps15
    go_wp2_with ((with_reducible show wpList _ _ _ _ _ _); rw [HW1.out]; refine wpList_store8 rfl (.tmp 36) _ rfl (w.heap.size + 1) 6 (by rfl) (64 : UInt8) 64 HC64.out (by rfl) _ HR1.out (show 6 < 12 by decide) ?_; intro w2 hR2 hB2)
    have hR2' : Row8 w2 (w.heap.size + 1) (hdr O T I 16384 L P 0 [] []) := hR2
    have HQ := Lib.hid (HQ1.out.below (Nat.lt_succ_self _) hB2)
    have HBL := Lib.hid (HB1.out.trans (hB2.mono (Nat.le_succ _)))
    have HO : Hid (Own8 w2 (w.heap.size + 1) (.slice (some ⟨w.heap.size + 1, 0, none⟩) 12 12) (hdr O T I 16384 L P 0 [] [])) := Lib.hid (hR2'.own (n := 12) (Nat.le_refl _) (show 12 ≤ 12 by decide) (by simp [hdr, maxLen]))
    clear hR2 hR2' hB2 k1 k2 k3 k5 k6 k7
    go_loopw [3, 4] (fun vv i wr => ∃ (k : Nat), k ≤ 4 ∧ i = .int .i64 (k : Int) ∧ Own8 wr (w.heap.size + 1) vv (hdr O T I 16384 L P 0 [] [] ++ s.take k) ∧ Blk wr 28 w.heap.size (frL f) ∧ Below w.heap.size w wr) (fun _ i _ => 4 - (intOf i).toNat)
    case atStart => exact ⟨0, by omega, rfl, by rw [List.take_zero, List.append_nil]; exact HO.out, HQ.out, HBL.out⟩
    case round =>
      obtain ⟨k, hk, rfl, hown, hq, hB⟩ := hrel
      have hsz := hB.size
      have hsl := hown.sl
      by_cases hlt : k < 4
      · have hlt' : (k : Int) < 4 := by omega
        obtain ⟨x, hx⟩ : ∃ x, s[k]? = some x := ⟨_, List.getElem?_eq_getElem (by rw [HS4.out]; exact hlt)⟩
        have hc : wr.cell? ⟨w.heap.size, 9 + k, none⟩ = some (.int .u8 (x.toNat : Int)) := HSRC.out wr hq k _ (by rw [List.getElem?_map, hx]; rfl)
        have ht : (hdr O T I 16384 L P 0 [] [] ++ s.take k) ++ [x] = hdr O T I 16384 L P 0 [] [] ++ s.take (k + 1) := by
          obtain ⟨h1, h2⟩ := List.getElem?_eq_some_iff.1 hx
          rw [← List.take_append_getElem h1, h2, List.append_assoc]
        have hln : (hdr O T I 16384 L P 0 [] [] ++ s.take k).length ≤ 100 := by rw [List.length_append, List.length_take]; show 12 + _ ≤ 100; omega
        have HT := Lib.hid ht
        have HLN := Lib.hid hln
        have HQ := Lib.hid hq
        have hlr : w.heap.size + 1 ≤ wr.heap.size := Nat.succ_le_of_lt hq.lt
        clear ht hln hx hq hsl
        go_wp2_with (at_builtin; refine wpList_append8 rfl _ _ rfl (w.heap.size + 1) _ (hdr O T I 16384 L P 0 [] [] ++ s.take k) (by rfl) (hown.alloc _) _ _ _ _ [x] (by rfl) (Rd.one wr x) (by have := HLN.out; omega) (by simp; omega) ?_; intro v' wz hown' hgrow _)
        have hb1 := (hB.alloc hsz (.cells #[.int .u8 (x.toNat : Int)] 5)).grown hgrow (by simp; omega) (fun g hg => by have := hown.lt g hg; omega)
        have hq1 := (HQ.out.alloc (.cells #[.int .u8 (x.toNat : Int)] 5)).grown hgrow (fun e => by have := hown.lt _ e; omega)
        rw [HT.out] at hown'
        go_wp2_with fail
        go_roundw
        case rel => exact ⟨k + 1, by omega, by go_num, hown', hq1, hb1⟩
        case measure => simp [intOf]; omega
      · have hlt' : ¬ (k : Int) < 4 := by omega
        rw [List.take_of_length_le (by rw [HS4.out]; omega)] at hown
        have HO2 := Lib.hid hown
        have HQ2 := Lib.hid hq
        have HB2 := Lib.hid hB
        clear hown hq hB hsl hsz hlt
        go_wp2_with fail
        go_loopw [3, 5] (fun vv i wr => ∃ (k : Nat), k ≤ 4 ∧ i = .int .i64 (k : Int) ∧ Own8 wr (w.heap.size + 1) vv ((hdr O T I 16384 L P 0 [] [] ++ s) ++ d.take k) ∧ Blk wr 28 w.heap.size (frL f) ∧ Below w.heap.size w wr) (fun _ i _ => 4 - (intOf i).toNat)
        case atStart => exact ⟨0, by omega, rfl, by rw [List.take_zero, List.append_nil]; exact HO2.out, HQ2.out, HB2.out⟩
        case round =>
          clear HO2 HQ2 HB2
          obtain ⟨k, hk, rfl, hown, hq, hB⟩ := hrel
          have hsz := hB.size
          by_cases hlt : k < 4
          · have hlt' : (k : Int) < 4 := by omega
            obtain ⟨x, hx⟩ : ∃ x, d[k]? = some x := ⟨_, List.getElem?_eq_getElem (by rw [HD4.out]; exact hlt)⟩
            have hc : wr.cell? ⟨w.heap.size, 26 + k, none⟩ = some (.int .u8 (x.toNat : Int)) := HDST.out wr hq k _ (by rw [List.getElem?_map, hx]; rfl)
            have ht : ((hdr O T I 16384 L P 0 [] [] ++ s) ++ d.take k) ++ [x] = (hdr O T I 16384 L P 0 [] [] ++ s) ++ d.take (k + 1) := by
              obtain ⟨h1, h2⟩ := List.getElem?_eq_some_iff.1 hx
              rw [← List.take_append_getElem h1, h2, List.append_assoc]
            have hln : ((hdr O T I 16384 L P 0 [] [] ++ s) ++ d.take k).length ≤ 100 := by rw [List.length_append, List.length_append, List.length_take, HS4.out]; show 12 + 4 + _ ≤ 100; omega
            have HT := Lib.hid ht
            have HLN := Lib.hid hln
            have HQ := Lib.hid hq
            have hlr : w.heap.size + 1 ≤ wr.heap.size := Nat.succ_le_of_lt hq.lt
            clear ht hln hx hq
            go_wp2_with (at_builtin; refine wpList_append8 rfl _ _ rfl (w.heap.size + 1) _ ((hdr O T I 16384 L P 0 [] [] ++ s) ++ d.take k) (by rfl) (hown.alloc _) _ _ _ _ [x] (by rfl) (Rd.one wr x) (by have := HLN.out; omega) (by simp; omega) ?_; intro v' wz hown' hgrow _)
            have hb1 := (hB.alloc hsz (.cells #[.int .u8 (x.toNat : Int)] 5)).grown hgrow (by simp; omega) (fun g hg => by have := hown.lt g hg; omega)
            have hq1 := (HQ.out.alloc (.cells #[.int .u8 (x.toNat : Int)] 5)).grown hgrow (fun e => by have := hown.lt _ e; omega)
            rw [HT.out] at hown'
            go_wp2_with fail
            go_roundw
            case rel => exact ⟨k + 1, by omega, by go_num, hown', hq1, hb1⟩
            case measure => simp [intOf]; omega
          · obtain rfl : k = 4 := by omega
            rw [List.take_of_length_le (by rw [HD4.out]; omega), hdr_parts] at hown
            have hlen : (hdr O T I 16384 L P 0 s d).length = 20 := hdr_len _ _ _ _ _ _ _ _ _ HS4.out HD4.out
            have hck := ckOf_le (hdr O T I 16384 L P 0 s d)
            obtain ⟨g, cp, hv, hcp, hcm, hbg, hgl, hheld⟩ := own_form hown hlen (by omega)
            have hrd := hheld.rd hgl hlen
            have HS := Lib.hid (rsum_any (some ⟨g, 0, none⟩) 20 cp _ (by omega) wr hrd (Nat.le_refl _))
            have HFIN := Lib.hid (HPUT.out 16384)
            obtain ⟨c, hcc⟩ : ∃ c, ckOf (hdr O T I 16384 L P 0 s d) = c := ⟨_, rfl⟩
            rw [hcc] at HS HFIN hck
            have HH := Lib.hid hheld
            have HLEN := Lib.hid hlen
            have HB3 := Lib.hid hB
            have q1 : IntKind.u8.wrap ((c : Int) / 256) = (c : Int) / 256 := by rw [IntKind.wrap_u8]; omega
            have q2 : IntKind.u8.wrap ((c : Int) % 256) = (c : Int) % 256 := by rw [IntKind.wrap_u8]; omega
            have HU1 := Lib.hid (show (c : Int) / 256 = ((UInt8.ofNat (c / 256)).toNat : Int) by rw [u8nat (by omega)]; omega)
            have HU2 := Lib.hid (show (c : Int) % 256 = ((UInt8.ofNat (c % 256)).toNat : Int) by rw [u8nat (by omega)]; omega)
            subst hv
            have HGB := Lib.hid hbg
            clear hown hq hB hsz hlt hcc hrd hheld hlen
            go_wp2_with fail
            refine HS.out.mono ?_
            rintro e ws ⟨rfl, hbs⟩
            have HHs := Lib.hid (HH.out.below hgl hbs)
            have HBs := Lib.hid (HB3.out.trans (hbs.mono HB3.out.size))
            clear hbs
            go_wp2_with (first
              | ((with_reducible show wpList _ _ _ _ _ _); refine wpList_storeH rfl (.tmp 67) (.tmp 66) rfl g 10 (by rfl) (UInt8.ofNat (c / 256)) ((c : Int) / 256) HU1.out (by rfl) _ HHs.out (by rw [HLEN.out]; decide) ?_; intro wt hHt hBt; have HHt := Lib.hid hHt; have HBt := Lib.hid hBt; clear hHt hBt)
              | ((with_reducible show wpList _ _ _ _ _ _); refine wpList_storeH rfl (.tmp 72) (.tmp 71) rfl g 11 (by rfl) (UInt8.ofNat (c % 256)) ((c : Int) % 256) HU2.out (by rfl) _ HHt.out (by rw [List.length_set, HLEN.out]; decide) ?_; intro wu hHu hBu; have HHu := Lib.hid hHu; have HBu := Lib.hid hBu; clear hHu hBu))
            have hlc : (hdr O T I 16384 L P c s d).length = 20 := hdr_len _ _ _ _ _ _ _ _ _ HS4.out HD4.out
            have hBB : Below g ws wu := HBt.out.trans HBu.out
            have hfin : Held wu g (hdr O T I 16384 L P c s d) := HHu.out
            have hgs : g < wu.heap.size := by have h1 := hBB.size; have h2 := HHs.out.lt (by rw [HLEN.out]; omega); omega
            go_ret
            exact ⟨_, _, rfl, by unfold putF; rw [HFL2.out, HFIN.out]; exact hfin.rd hgs hlc, HBs.out.trans (hBB.mono (by have := HGB.out; omega))⟩
  | false =>
    have HFL2 : Hid (flagW f = 0) := Lib.hid (by rw [HFL.out]; rfl)
    go_enter Try.func15, Try.ntmps15
    go_wp2_with fail
    rw [HW1.out]
    have HQ := HQ1
    have HBL := HB1
    have HO : Hid (Own8 w1 (w.heap.size + 1) (.slice (some ⟨w.heap.size + 1, 0, none⟩) 12 12) (hdr O T I 0 L P 0 [] [])) := Lib.hid (HR1.out.own (n := 12) (Nat.le_refl _) (show 12 ≤ 12 by decide) (by simp [hdr, maxLen]))
    clear k1 k2 k3 k5 k6 k7
    go_loopw [3, 4] (fun vv i wr => ∃ (k : Nat), k ≤ 4 ∧ i = .int .i64 (k : Int) ∧ Own8 wr (w.heap.size + 1) vv (hdr O T I 0 L P 0 [] [] ++ s.take k) ∧ Blk wr 28 w.heap.size (frL f) ∧ Below w.heap.size w wr) (fun _ i _ => 4 - (intOf i).toNat)
    case atStart => exact ⟨0, by omega, rfl, by rw [List.take_zero, List.append_nil]; exact HO.out, HQ.out, HBL.out⟩
    case round =>
      obtain ⟨k, hk, rfl, hown, hq, hB⟩ := hrel
      have hsz := hB.size
      have hsl := hown.sl
      by_cases hlt : k < 4
      · have hlt' : (k : Int) < 4 := by omega
        obtain ⟨x, hx⟩ : ∃ x, s[k]? = some x := ⟨_, List.getElem?_eq_getElem (by rw [HS4.out]; exact hlt)⟩
        have hc : wr.cell? ⟨w.heap.size, 9 + k, none⟩ = some (.int .u8 (x.toNat : Int)) := HSRC.out wr hq k _ (by rw [List.getElem?_map, hx]; rfl)
        have ht : (hdr O T I 0 L P 0 [] [] ++ s.take k) ++ [x] = hdr O T I 0 L P 0 [] [] ++ s.take (k + 1) := by
          obtain ⟨h1, h2⟩ := List.getElem?_eq_some_iff.1 hx
          rw [← List.take_append_getElem h1, h2, List.append_assoc]
        have hln : (hdr O T I 0 L P 0 [] [] ++ s.take k).length ≤ 100 := by rw [List.length_append, List.length_take]; show 12 + _ ≤ 100; omega
        have HT := Lib.hid ht
        have HLN := Lib.hid hln
        have HQ := Lib.hid hq
        have hlr : w.heap.size + 1 ≤ wr.heap.size := Nat.succ_le_of_lt hq.lt
        clear ht hln hx hq hsl
        go_wp2_with (at_builtin; refine wpList_append8 rfl _ _ rfl (w.heap.size + 1) _ (hdr O T I 0 L P 0 [] [] ++ s.take k) (by rfl) (hown.alloc _) _ _ _ _ [x] (by rfl) (Rd.one wr x) (by have := HLN.out; omega) (by simp; omega) ?_; intro v' wz hown' hgrow _)
        have hb1 := (hB.alloc hsz (.cells #[.int .u8 (x.toNat : Int)] 5)).grown hgrow (by simp; omega) (fun g hg => by have := hown.lt g hg; omega)
        have hq1 := (HQ.out.alloc (.cells #[.int .u8 (x.toNat : Int)] 5)).grown hgrow (fun e => by have := hown.lt _ e; omega)
        rw [HT.out] at hown'
        go_wp2_with fail
        go_roundw
        case rel => exact ⟨k + 1, by omega, by go_num, hown', hq1, hb1⟩
        case measure => simp [intOf]; omega
      · have hlt' : ¬ (k : Int) < 4 := by omega
        rw [List.take_of_length_le (by rw [HS4.out]; omega)] at hown
        have HO2 := Lib.hid hown
        have HQ2 := Lib.hid hq
        have HB2 := Lib.hid hB
        clear hown hq hB hsl hsz hlt
        go_wp2_with fail
        go_loopw [3, 5] (fun vv i wr => ∃ (k : Nat), k ≤ 4 ∧ i = .int .i64 (k : Int) ∧ Own8 wr (w.heap.size + 1) vv ((hdr O T I 0 L P 0 [] [] ++ s) ++ d.take k) ∧ Blk wr 28 w.heap.size (frL f) ∧ Below w.heap.size w wr) (fun _ i _ => 4 - (intOf i).toNat)
        case atStart => exact ⟨0, by omega, rfl, by rw [List.take_zero, List.append_nil]; exact HO2.out, HQ2.out, HB2.out⟩
        case round =>
          clear HO2 HQ2 HB2
          obtain ⟨k, hk, rfl, hown, hq, hB⟩ := hrel
          have hsz := hB.size
          by_cases hlt : k < 4
          · have hlt' : (k : Int) < 4 := by omega
            obtain ⟨x, hx⟩ : ∃ x, d[k]? = some x := ⟨_, List.getElem?_eq_getElem (by rw [HD4.out]; exact hlt)⟩
            have hc : wr.cell? ⟨w.heap.size, 26 + k, none⟩ = some (.int .u8 (x.toNat : Int)) := HDST.out wr hq k _ (by rw [List.getElem?_map, hx]; rfl)
            have ht : ((hdr O T I 0 L P 0 [] [] ++ s) ++ d.take k) ++ [x] = (hdr O T I 0 L P 0 [] [] ++ s) ++ d.take (k + 1) := by
              obtain ⟨h1, h2⟩ := List.getElem?_eq_some_iff.1 hx
              rw [← List.take_append_getElem h1, h2, List.append_assoc]
            have hln : ((hdr O T I 0 L P 0 [] [] ++ s) ++ d.take k).length ≤ 100 := by rw [List.length_append, List.length_append, List.length_take, HS4.out]; show 12 + 4 + _ ≤ 100; omega
            have HT := Lib.hid ht
            have HLN := Lib.hid hln
            have HQ := Lib.hid hq
            have hlr : w.heap.size + 1 ≤ wr.heap.size := Nat.succ_le_of_lt hq.lt
            clear ht hln hx hq
            go_wp2_with (at_builtin; refine wpList_append8 rfl _ _ rfl (w.heap.size + 1) _ ((hdr O T I 0 L P 0 [] [] ++ s) ++ d.take k) (by rfl) (hown.alloc _) _ _ _ _ [x] (by rfl) (Rd.one wr x) (by have := HLN.out; omega) (by simp; omega) ?_; intro v' wz hown' hgrow _)
            have hb1 := (hB.alloc hsz (.cells #[.int .u8 (x.toNat : Int)] 5)).grown hgrow (by simp; omega) (fun g hg => by have := hown.lt g hg; omega)
            have hq1 := (HQ.out.alloc (.cells #[.int .u8 (x.toNat : Int)] 5)).grown hgrow (fun e => by have := hown.lt _ e; omega)
            rw [HT.out] at hown'
            go_wp2_with fail
            go_roundw
            case rel => exact ⟨k + 1, by omega, by go_num, hown', hq1, hb1⟩
            case measure => simp [intOf]; omega
          · obtain rfl : k = 4 := by omega
            rw [List.take_of_length_le (by rw [HD4.out]; omega), hdr_parts] at hown
            have hlen : (hdr O T I 0 L P 0 s d).length = 20 := hdr_len _ _ _ _ _ _ _ _ _ HS4.out HD4.out
            have hck := ckOf_le (hdr O T I 0 L P 0 s d)
            obtain ⟨g, cp, hv, hcp, hcm, hbg, hgl, hheld⟩ := own_form hown hlen (by omega)
            have hrd := hheld.rd hgl hlen
            have HS := Lib.hid (rsum_any (some ⟨g, 0, none⟩) 20 cp _ (by omega) wr hrd (Nat.le_refl _))
            have HFIN := Lib.hid (HPUT.out 0)
            obtain ⟨c, hcc⟩ : ∃ c, ckOf (hdr O T I 0 L P 0 s d) = c := ⟨_, rfl⟩
            rw [hcc] at HS HFIN hck
            have HH := Lib.hid hheld
            have HLEN := Lib.hid hlen
            have HB3 := Lib.hid hB
            have q1 : IntKind.u8.wrap ((c : Int) / 256) = (c : Int) / 256 := by rw [IntKind.wrap_u8]; omega
            have q2 : IntKind.u8.wrap ((c : Int) % 256) = (c : Int) % 256 := by rw [IntKind.wrap_u8]; omega
            have HU1 := Lib.hid (show (c : Int) / 256 = ((UInt8.ofNat (c / 256)).toNat : Int) by rw [u8nat (by omega)]; omega)
            have HU2 := Lib.hid (show (c : Int) % 256 = ((UInt8.ofNat (c % 256)).toNat : Int) by rw [u8nat (by omega)]; omega)
            subst hv
            have HGB := Lib.hid hbg
            clear hown hq hB hsz hlt hcc hrd hheld hlen
            go_wp2_with fail
            refine HS.out.mono ?_
            rintro e ws ⟨rfl, hbs⟩
            have HHs := Lib.hid (HH.out.below hgl hbs)
            have HBs := Lib.hid (HB3.out.trans (hbs.mono HB3.out.size))
            clear hbs
            go_wp2_with (first
              | ((with_reducible show wpList _ _ _ _ _ _); refine wpList_storeH rfl (.tmp 67) (.tmp 66) rfl g 10 (by rfl) (UInt8.ofNat (c / 256)) ((c : Int) / 256) HU1.out (by rfl) _ HHs.out (by rw [HLEN.out]; decide) ?_; intro wt hHt hBt; have HHt := Lib.hid hHt; have HBt := Lib.hid hBt; clear hHt hBt)
              | ((with_reducible show wpList _ _ _ _ _ _); refine wpList_storeH rfl (.tmp 72) (.tmp 71) rfl g 11 (by rfl) (UInt8.ofNat (c % 256)) ((c : Int) % 256) HU2.out (by rfl) _ HHt.out (by rw [List.length_set, HLEN.out]; decide) ?_; intro wu hHu hBu; have HHu := Lib.hid hHu; have HBu := Lib.hid hBu; clear hHu hBu))
            have hlc : (hdr O T I 0 L P c s d).length = 20 := hdr_len _ _ _ _ _ _ _ _ _ HS4.out HD4.out
            have hBB : Below g ws wu := HBt.out.trans HBu.out
            have hfin : Held wu g (hdr O T I 0 L P c s d) := HHu.out
            have hgs : g < wu.heap.size := by have h1 := hBB.size; have h2 := HHs.out.lt (by rw [HLEN.out]; omega); omega
            go_ret
            exact ⟨_, _, rfl, by unfold putF; rw [HFL2.out, HFIN.out]; exact hfin.rd hgs hlc, HBs.out.trans (hBB.mono (by have := HGB.out; omega))⟩
end Go.Proofs.Ytkdliadigalgaaa
