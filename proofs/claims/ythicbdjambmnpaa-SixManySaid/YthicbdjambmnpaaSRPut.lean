/-
  The document's Put.
-/
import Derived.Test.YthicbdjambmnpaaSPut
namespace Go.Proofs.Ythicbdjambmnpaa
open Go.RowKit Go.Lib

theorem Own8.frozen {w : World} {base g n c : Nat} {xs : List UInt8} (h : Own8 w base (.slice (some ⟨g, 0, none⟩) n c) xs) (j : Nat) : w.frozen? ⟨g, j, none⟩ = false := by
  rcases h.2 with ⟨e, _⟩ | ⟨g', cap', cur, e, _, hg, _⟩
  · cases e
  · cases e
    exact frozen_of_row w g j cur _ hg
/-- The cells of block g, from its head on, are just the bytes cur, and may be written. -/
def Held (w : World) (g : Nat) (cur : List UInt8) : Prop := ∀ j y, cur[j]? = some y → w.cell? ⟨g, j, none⟩ = some (v8 y) ∧ w.frozen? ⟨g, j, none⟩ = false
theorem Held.set {w : World} {g : Nat} {cur : List UInt8} (h : Held w g cur) {k : Nat} {x : UInt8} (hx : cur[k]? = some x) (y : UInt8) : Held (w.setCell ⟨g, k, none⟩ (.int .u8 (y.toNat : Int))) g (cur.set k y) := by
  intro j z hz
  rw [World.frozen?_setCell]
  have hk : k < cur.length := (List.getElem?_eq_some_iff.1 hx).1
  rw [List.getElem?_set] at hz
  by_cases e : k = j
  · subst e
    simp [hk] at hz
    subst hz
    exact ⟨World.cell?_setCell_same _ _ _ (h k x hx).1, (h k x hx).2⟩
  · rw [if_neg e] at hz
    rw [World.cell?_setCell_other _ _ _ _ (by intro e'; cases e'; exact e rfl)]
    exact h j z hz
theorem Held.rd {w : World} {g : Nat} {cur : List UInt8} (h : Held w g cur) {B n : Nat} (hg : g < B) (hn : cur.length = n) : Rd w B (some ⟨g, 0, none⟩) n cur :=
  ⟨hn, fun _ => ⟨g, 0, rfl, hg, fun j x hx => by rw [Nat.zero_add]; exact (h j x hx).1⟩⟩

theorem own_form {w : World} {base : Nat} {v : Value} {xs : List UInt8} {n : Nat} (h : Own8 w base v xs) (hn : xs.length = n) (h0 : 0 < n) :
    ∃ g c, v = .slice (some ⟨g, 0, none⟩) n c ∧ n ≤ c ∧ c ≤ maxLen ∧ base ≤ g ∧ g < w.heap.size ∧ Held w g xs := by
  subst hn
  obtain ⟨A2, c2, rfl, hmc2, hcm2, hr2, hgg⟩ := h.rd
  obtain ⟨g, rfl, hbg⟩ := hgg h0
  obtain ⟨b, off, e, hglt⟩ := hr2.addr h0
  cases e
  refine ⟨g, c2, rfl, hmc2, hcm2, hbg, hglt, fun j y hy => ?_⟩
  obtain ⟨b, off, e, _, hc⟩ := hr2.2 h0
  cases e
  have := hc j y hy
  rw [Nat.zero_add] at this
  exact ⟨this, h.frozen j⟩

theorem Held.below {w w' : World} {g B : Nat} {cur : List UInt8} (h : Held w g cur) (hB : g < B) (hb : Below B w w') : Held w' g cur := fun j y hy => by
  obtain ⟨h1, h2⟩ := h j y hy
  refine ⟨(hb.cell (p := ⟨g, j, none⟩) hB).trans h1, ?_⟩
  have := hb.block g hB
  unfold World.frozen? at h2 ⊢
  simpa [this] using h2
theorem Held.lt {w : World} {g : Nat} {cur : List UInt8} (h : Held w g cur) (h0 : 0 < cur.length) : g < w.heap.size := by
  obtain ⟨h1, _⟩ := h 0 _ (List.getElem?_eq_getElem h0)
  exact World.block_lt_of_cell? w _ h1
/-- A byte stored into a block whose head is known: a law for the walk; the world behind it is a letter. -/
theorem wpList_storeH {w : World} {ops : Array Oper} {rest : List Oper} {op : Oper} {a : Act} {Q : Exit → Act → World → Prop} (hgd : op.guard = none) (x y : Operand) (ho : op.op = .store 5 x y)
    (g i : Nat) (hx : a.eval x = .pointer (some ⟨g, i, none⟩)) (b : UInt8) (n : Int) (hn : n = (b.toNat : Int)) (hy : a.eval y = .int .u8 n) (xs : List UInt8) (hheld : Held w g xs) (hi : i < xs.length)
    (h : ∀ w', Held w' g (xs.set i b) → Below g w w' → wpList Try.prog ops Q rest (a.put op.dst undef) w') : wpList Try.prog ops Q (op :: rest) a w := by
  subst hn
  refine wpList_plain hgd fun K hK => ?_
  obtain ⟨hc, hf⟩ := hheld i _ (List.getElem?_eq_getElem hi)
  have hk := h _ (hheld.set (List.getElem?_eq_getElem hi) b) ((Below.refl g w).setCell (p := ⟨g, i, none⟩) (Nat.le_refl _) _)
  unfold v8 at hc
  unfold Oper.wp execOp
  simp only [ho, hx, hy]
  clear h
  go_simp
  exact hK _ _ hk
theorem v8_of (n : Nat) (h : n < 256) : v8 (UInt8.ofNat n) = .int .u8 (n : Int) := by
  unfold v8
  rw [UInt8.toNat_ofNat', Nat.mod_eq_of_lt h]
theorem hdr_cells {N P H : Nat} (nl : N < 65536) (pl : P < 256) (hl : H < 256) : ((hdr N P H [] []).map v8).toArray = #[.int .u8 96, .int .u8 0, .int .u8 0, .int .u8 0, .int .u8 ((N : Int) / 256), .int .u8 ((N : Int) % 256), .int .u8 (P : Int), .int .u8 (H : Int)] := by
  show ([96, 0, 0, 0, UInt8.ofNat (N / 256), UInt8.ofNat (N % 256), UInt8.ofNat P, UInt8.ofNat H].map v8).toArray = _
  simp only [List.map_cons, List.map_nil]
  rw [v8_of (N / 256) (by omega), v8_of (N % 256) (by omega), v8_of P pl, v8_of H hl]
  rfl

set_option maxRecDepth 100000 in
set_option maxHeartbeats 4000000 in
theorem rput_any {f : Fr} (hok : f.Ok) (hr : rightB f = true) (w : World) :
    Calls Try.prog 15 #[frC f] w fun e w' => ∃ v, e = .returned v ∧ Own8 w' w.heap.size v (putF f) ∧ Below w.heap.size w w' := by
  obtain ⟨N, P, H, hf, n1, h1, p1, _⟩ := (right_good hr).nats
  have hput : putF f = hdr N P H f.s.b f.d.b := by rw [hf]; exact putF_nats N P H _ _
  obtain ⟨T, hT⟩ : ∃ T, 40 + N = T := ⟨_, rfl⟩
  rw [hT] at hf
  have HOK := Lib.hid hok
  have HPUT := Lib.hid hput
  have HSRC := Lib.hid (fun W (hW : Blk W 28 w.heap.size (frL f)) => hW.srcB)
  have HDST := Lib.hid (fun W (hW : Blk W 28 w.heap.size (frL f)) => hW.dstB hok)
  obtain ⟨s, hs⟩ : ∃ s, f.s.b = s := ⟨_, rfl⟩
  obtain ⟨d, hd⟩ : ∃ d, f.d.b = d := ⟨_, rfl⟩
  have hs16 := hok.s
  have hd16 := hok.d
  rw [hs] at hs16 HSRC HPUT
  rw [hd] at hd16 HDST HPUT
  have HS16 := Lib.hid hs16
  have HD16 := Lib.hid hd16
  have hb1 := Blk.new w 28 (frL f)
  have k1 := hb1.cell (i := 1) (v := .int .i64 (T : Int)) (by rw [hf]; rfl)
  have k2 := hb1.cell (i := 2) (v := .int .i64 (H : Int)) (by rw [hf]; rfl)
  have k5 := hb1.cell (i := 5) (v := .int .i64 (P : Int)) (by rw [hf]; rfl)
  have hrow : Row8 ((w.alloc (.cells (frL f).toArray 28)).alloc (.cells ((hdr N P H [] []).map v8).toArray 5)) (w.heap.size + 1) (hdr N P H [] []) := by
    have := heap_alloc_new (w.alloc (.cells (frL f).toArray 28)) (.cells ((hdr N P H [] []).map v8).toArray 5)
    simpa [Row8] using this
  have hq1 := hb1.alloc (.cells ((hdr N P H [] []).map v8).toArray 5)
  have hB1 := ((Below.refl w.heap.size w).alloc (Nat.le_refl _) (.cells (frL f).toArray 28)).alloc (by simp) (.cells ((hdr N P H [] []).map v8).toArray 5)
  obtain ⟨w1, hw1⟩ : ∃ w1, (w.alloc (.cells (frL f).toArray 28)).alloc (.cells ((hdr N P H [] []).map v8).toArray 5) = w1 := ⟨_, rfl⟩
  rw [hw1] at hrow hq1 hB1
  rw [hdr_cells n1 p1 h1] at hw1
  have HW1 := Lib.hid hw1
  have HQ := Lib.hid hq1
  have HBL := Lib.hid hB1
  have HO : Hid (Own8 w1 (w.heap.size + 1) (.slice (some ⟨w.heap.size + 1, 0, none⟩) 8 8) (hdr N P H [] [])) := Lib.hid (hrow.own (n := 8) (Nat.le_refl _) (show 8 ≤ 8 by decide) (by simp [hdr, maxLen]))
  have hsub : IntKind.i64.wrap ((T : Int) - 40) = (N : Int) := by rw [IntKind.wrap_i64]; omega
  have u2 : IntKind.u8.wrap ((N : Int) / 256) = (N : Int) / 256 := by rw [IntKind.wrap_u8]; omega
  have u3 : IntKind.u8.wrap ((N : Int) % 256) = (N : Int) % 256 := by rw [IntKind.wrap_u8]; omega
  have u6 : IntKind.u8.wrap (P : Int) = (P : Int) := by rw [IntKind.wrap_u8]; omega
  have u7 : IntKind.u8.wrap (H : Int) = (H : Int) := by rw [IntKind.wrap_u8]; omega
  unfold frC
  obtain ⟨C, hC⟩ : ∃ C, (frL f).toArray = C := ⟨_, rfl⟩
  rw [hC] at k1 k2 k5 HW1 ⊢
  clear hC hb1 hq1 hB1 hw1 hrow hr hok hput hf hT hs hd hs16 hd16
  go_enter Try.func15, Try.ntmps15
  go_wp2_with fail
  rw [HW1.out]
  clear k1 k2 k5
  go_loopw [4, 5] (fun vv i wr => ∃ (k : Nat), k ≤ 16 ∧ i = .int .i64 (k : Int) ∧ Own8 wr (w.heap.size + 1) vv (hdr N P H [] [] ++ s.take k) ∧ Blk wr 28 w.heap.size (frL f) ∧ Below w.heap.size w wr) (fun _ i _ => 16 - (intOf i).toNat)
  case atStart => exact ⟨0, by omega, rfl, by rw [List.take_zero, List.append_nil]; exact HO.out, HQ.out, HBL.out⟩
  case round =>
    obtain ⟨k, hk, rfl, hown, hq, hB⟩ := hrel
    have hsz := hB.size
    by_cases hlt : k < 16
    · have hlt' : (k : Int) < 16 := by omega
      obtain ⟨x, hx⟩ : ∃ x, s[k]? = some x := ⟨_, List.getElem?_eq_getElem (by rw [HS16.out]; exact hlt)⟩
      have hc : wr.cell? ⟨w.heap.size, 7 + k, none⟩ = some (.int .u8 (x.toNat : Int)) := HSRC.out wr hq k _ (by rw [List.getElem?_map, hx]; rfl)
      have ht : (hdr N P H [] [] ++ s.take k) ++ [x] = hdr N P H [] [] ++ s.take (k + 1) := by
        obtain ⟨h1, h2⟩ := List.getElem?_eq_some_iff.1 hx
        rw [← List.take_append_getElem h1, h2, List.append_assoc]
      have hln : (hdr N P H [] [] ++ s.take k).length ≤ 100 := by rw [List.length_append, List.length_take]; show 8 + _ ≤ 100; omega
      have HT := Lib.hid ht
      have HLN := Lib.hid hln
      have HQ := Lib.hid hq
      have hlr : w.heap.size + 1 ≤ wr.heap.size := Nat.succ_le_of_lt hq.lt
      clear ht hln hx hq
      go_wp2_with (at_builtin; refine wpList_append8 rfl _ _ rfl (w.heap.size + 1) _ (hdr N P H [] [] ++ s.take k) (by rfl) (hown.alloc _) _ _ _ _ [x] (by rfl) (Rd.one wr x) (by have := HLN.out; omega) (by simp; omega) ?_; intro v' wz hown' hgrow _)
      have hb1 := (hB.alloc hsz (.cells #[.int .u8 (x.toNat : Int)] 5)).grown hgrow (by simp; omega) (fun g hg => by have := hown.lt g hg; omega)
      have hq1 := (HQ.out.alloc (.cells #[.int .u8 (x.toNat : Int)] 5)).grown hgrow (fun e => by have := hown.lt _ e; omega)
      rw [HT.out] at hown'
      go_wp2_with fail
      go_roundw
      case rel => exact ⟨k + 1, by omega, by go_num, hown', hq1, hb1⟩
      case measure => simp [intOf]; omega
    · have hlt' : ¬ (k : Int) < 16 := by omega
      rw [List.take_of_length_le (by rw [HS16.out]; omega)] at hown
      have HO2 := Lib.hid hown
      have HQ2 := Lib.hid hq
      have HB2 := Lib.hid hB
      clear hown hq hB hsz hlt
      go_wp2_with fail
      go_loopw [4, 6] (fun vv i wr => ∃ (k : Nat), k ≤ 16 ∧ i = .int .i64 (k : Int) ∧ Own8 wr (w.heap.size + 1) vv ((hdr N P H [] [] ++ s) ++ d.take k) ∧ Blk wr 28 w.heap.size (frL f) ∧ Below w.heap.size w wr) (fun _ i _ => 16 - (intOf i).toNat)
      case atStart => exact ⟨0, by omega, rfl, by rw [List.take_zero, List.append_nil]; exact HO2.out, HQ2.out, HB2.out⟩
      case round =>
        clear HO2 HQ2 HB2
        obtain ⟨k, hk, rfl, hown, hq, hB⟩ := hrel
        have hsz := hB.size
        by_cases hlt : k < 16
        · have hlt' : (k : Int) < 16 := by omega
          obtain ⟨x, hx⟩ : ∃ x, d[k]? = some x := ⟨_, List.getElem?_eq_getElem (by rw [HD16.out]; exact hlt)⟩
          have hc : wr.cell? ⟨w.heap.size, 24 + k, none⟩ = some (.int .u8 (x.toNat : Int)) := HDST.out wr hq k _ (by rw [List.getElem?_map, hx]; rfl)
          have ht : ((hdr N P H [] [] ++ s) ++ d.take k) ++ [x] = (hdr N P H [] [] ++ s) ++ d.take (k + 1) := by
            obtain ⟨h1, h2⟩ := List.getElem?_eq_some_iff.1 hx
            rw [← List.take_append_getElem h1, h2, List.append_assoc]
          have hln : ((hdr N P H [] [] ++ s) ++ d.take k).length ≤ 100 := by rw [List.length_append, List.length_append, List.length_take, HS16.out]; show 8 + 16 + _ ≤ 100; omega
          have HT := Lib.hid ht
          have HLN := Lib.hid hln
          have HQ := Lib.hid hq
          have hlr : w.heap.size + 1 ≤ wr.heap.size := Nat.succ_le_of_lt hq.lt
          clear ht hln hx hq
          go_wp2_with (at_builtin; refine wpList_append8 rfl _ _ rfl (w.heap.size + 1) _ ((hdr N P H [] [] ++ s) ++ d.take k) (by rfl) (hown.alloc _) _ _ _ _ [x] (by rfl) (Rd.one wr x) (by have := HLN.out; omega) (by simp; omega) ?_; intro v' wz hown' hgrow _)
          have hb1 := (hB.alloc hsz (.cells #[.int .u8 (x.toNat : Int)] 5)).grown hgrow (by simp; omega) (fun g hg => by have := hown.lt g hg; omega)
          have hq1 := (HQ.out.alloc (.cells #[.int .u8 (x.toNat : Int)] 5)).grown hgrow (fun e => by have := hown.lt _ e; omega)
          rw [HT.out] at hown'
          go_wp2_with fail
          go_roundw
          case rel => exact ⟨k + 1, by omega, by go_num, hown', hq1, hb1⟩
          case measure => simp [intOf]; omega
        · have hlt' : ¬ (k : Int) < 16 := by omega
          rw [List.take_of_length_le (by rw [HD16.out]; omega)] at hown
          rw [show (hdr N P H [] [] ++ s) ++ d = putF f by rw [HPUT.out]; rfl] at hown
          have HO3 := Lib.hid (hown.base_le (Nat.le_succ _))
          have HB3 := Lib.hid hB
          clear hown hq hB hsz hlt
          go_wp2_with fail
          go_ret
          exact ⟨_, rfl, HO3.out, HB3.out⟩
end Go.Proofs.Ythicbdjambmnpaa
