/-
  PROVED HERE: 'LinkKeepsSaid': whatever bytes b and address dst are, the Go function LinkKeeps of package wayleavelaw07 returns true, and its arguments read behind the call as they read before. No condition.
-/
import Derived.Test.YtbahlhafckkapaaLOpen
namespace Go.Proofs.Ytbahlhafckkapaa
open Go.RowKit Go.Lib Go.ChangeShapes Go.WideShapes Go.ChangeAt

theorem Own8.frozen {w : World} {base g n c : Nat} {xs : List UInt8} (h : Own8 w base (.slice (some ⟨g, 0, none⟩) n c) xs) (j : Nat) : w.frozen? ⟨g, j, none⟩ = false := by
  rcases h.2 with ⟨e, _⟩ | ⟨g', cap', cur, e, _, hg, _⟩
  · cases e
  · cases e
    exact frozen_of_row w g j cur _ hg
theorem xor8 (x y : UInt8) : bits .xor .u8 (x.toNat : Int) (y.toNat : Int) = ((x ^^^ y).toNat : Int) := by
  rw [u8_xor_nat _ _ x.toNat_lt y.toNat_lt, UInt8.toNat_xor]
/-- The cells of block g, from its head on, are just the bytes cur, and may be written. -/
def Held (w : World) (g : Nat) (cur : List UInt8) : Prop := ∀ j y, cur[j]? = some y → w.cell? ⟨g, j, none⟩ = some (v8 y) ∧ w.frozen? ⟨g, j, none⟩ = false
theorem Held.set {w : World} {g : Nat} {cur : List UInt8} (h : Held w g cur) {k : Nat} {x : UInt8} (hx : cur[k]? = some x) (y : UInt8) : Held (w.setCell ⟨g, k, none⟩ (.int .u8 (y.toNat : Int))) g (cur.set k y) := by
  intro j z hz
  rw [World.frozen?_setCell]
  have hk : k < cur.length := (List.getElem?_eq_some_iff.1 hx).1
  rw [List.getElem?_set] at hz
  by_cases e : k = j
  · subst e
    simp [hk] at hz
    subst hz
    exact ⟨World.cell?_setCell_same _ _ _ (h k x hx).1, (h k x hx).2⟩
  · rw [if_neg e] at hz
    rw [World.cell?_setCell_other _ _ _ _ (by intro e'; cases e'; exact e rfl)]
    exact h j z hz
theorem Held.rd {w : World} {g : Nat} {cur : List UInt8} (h : Held w g cur) {B n : Nat} (hg : g < B) (hn : cur.length = n) : Rd w B (some ⟨g, 0, none⟩) n cur :=
  ⟨hn, fun _ => ⟨g, 0, rfl, hg, fun j x hx => by rw [Nat.zero_add]; exact (h j x hx).1⟩⟩

theorem own_form {w : World} {base : Nat} {v : Value} {xs : List UInt8} {n : Nat} (h : Own8 w base v ([] ++ xs)) (hn : xs.length = n) (h0 : 0 < n) :
    ∃ g c, v = .slice (some ⟨g, 0, none⟩) n c ∧ n ≤ c ∧ c ≤ maxLen ∧ base ≤ g ∧ g < w.heap.size ∧ Held w g xs := by
  rw [List.nil_append] at h
  subst hn
  obtain ⟨A2, c2, rfl, hmc2, hcm2, hr2, hgg⟩ := h.rd
  obtain ⟨g, rfl, hbg⟩ := hgg h0
  obtain ⟨b, off, e, hglt⟩ := hr2.addr h0
  cases e
  refine ⟨g, c2, rfl, hmc2, hcm2, hbg, hglt, fun j y hy => ?_⟩
  obtain ⟨b, off, e, _, hc⟩ := hr2.2 h0
  cases e
  have := hc j y hy
  rw [Nat.zero_add] at this
  exact ⟨this, h.frozen j⟩

/-- What the slice (A, n) of the call's own, in a block between B and C, holds; and which block that is. -/
def Ours (w : World) (A : Option Addr) (n B C : Nat) (row : Option Nat) (cur : List UInt8) : Prop :=
  cur.length = n ∧ (0 < n → ∃ g, A = some ⟨g, 0, none⟩ ∧ B ≤ g ∧ g < C ∧ row = some g ∧ Held w g cur) ∧ (n = 0 → row = none)
theorem own_ours {w : World} {base : Nat} {v : Value} {xs : List UInt8} {n : Nat} (h : Own8 w base v xs) (hn : xs.length = n) : ∃ A c row, v = .slice A n c ∧ n ≤ c ∧ c ≤ maxLen ∧ Ours w A n base w.heap.size row xs := by
  rcases Nat.eq_zero_or_pos n with h0 | h0
  · obtain ⟨A, c, e, h1, h2, _⟩ := h.form hn
    exact ⟨A, c, none, e, h1, h2, hn, fun h => by omega, fun _ => rfl⟩
  · obtain ⟨g, c, e, h1, h2, h3, h4, h5⟩ := own_form (v := v) (xs := xs) (by simpa using h) hn h0
    exact ⟨_, c, some g, e, h1, h2, hn, fun _ => ⟨g, rfl, h3, h4, rfl, h5⟩, fun h => by omega⟩
theorem Ours.rd {w : World} {A : Option Addr} {n B C : Nat} {row : Option Nat} {cur : List UInt8} (h : Ours w A n B C row cur) : Rd w C A n cur := by
  refine ⟨h.1, fun h0 => ?_⟩
  obtain ⟨g, e, _, hg, _, hh⟩ := h.2.1 h0
  exact ⟨g, 0, e, hg, fun j x hx => by rw [Nat.zero_add]; exact (hh j x hx).1⟩
/-- What lies elsewhere stays. -/
theorem Ours.stay {w w' : World} {A : Option Addr} {n B C : Nat} {row r : Option Nat} {cur : List UInt8} (h : Ours w A n B C row cur) (hg : w.grownBy w' r) (hC : C ≤ w.heap.size) (hr : ∀ g, r = some g → g < B ∨ C ≤ g) : Ours w' A n B C row cur := by
  refine ⟨h.1, fun h0 => ?_, h.2.2⟩
  obtain ⟨g, e, h1, h2, h3, h4⟩ := h.2.1 h0
  have hne : some g ≠ r := fun e => by have := hr g e.symm; omega
  refine ⟨g, e, h1, h2, h3, fun j x hx => ?_⟩
  obtain ⟨c1, c2⟩ := h4 j x hx
  have hb := hg.block g (by omega) hne
  exact ⟨(World.cell?_of_block hb).trans c1, by simp only [World.frozen?] at c2 ⊢; rw [hb]; exact c2⟩
theorem Rd.stay {w w' : World} {A : Option Addr} {n B : Nat} {r : Option Nat} {xs : List UInt8} (h : Rd w B A n xs) (hg : w.grownBy w' r) (hB : B ≤ w.heap.size) (hr : ∀ g, r = some g → B ≤ g) : Rd w' B A n xs := h.grown hg hB hr
theorem TagsAt.stay {w w' : World} {A : Option Addr} {n B C : Nat} {r : Option Nat} {ts : List Tg} (h : TagsAt w C A n ts) (hA : 0 < n → ∃ g, A = some ⟨g, 0, none⟩ ∧ B ≤ g) (hg : w.grownBy w' r) (hC : C ≤ w.heap.size) (hr : ∀ g, r = some g → g < B) : TagsAt w' C A n ts := by
  refine ⟨h.1, fun h0 => ?_⟩
  obtain ⟨b, off, e, hb, hc⟩ := h.2 h0
  obtain ⟨g, e2, hgl⟩ := hA h0
  have hbg : b = g := by rw [e] at e2; cases e2; rfl
  refine ⟨b, off, e, hb, fun j x hx => ?_⟩
  obtain ⟨c1, c2⟩ := hc j x hx
  have hbl := hg.block b (by omega) (fun e => by have := hr b e.symm; omega)
  exact ⟨(World.cell?_of_block hbl).trans c1, (World.cell?_of_block hbl).trans c2⟩
theorem gb_none {a w : World} {r : Option Nat} (h : a.grownBy w none) : a.grownBy w r := ⟨h.os, h.tape, h.output, h.size, fun i hi _ => h.block i hi (by simp)⟩

set_option maxRecDepth 100000 in
set_option maxHeartbeats 4000000 in
theorem linkKeeps_walk (A : Option Addr) (len cap : Nat) (xs : List UInt8) (hcap : len ≤ cap) (hcm : cap ≤ maxLen) (d : List UInt8) (hd : d.length = 6) (w : World) (hI : Rd w w.heap.size A len xs) :
    Calls Try.prog 8 #[.slice A len cap, .agg (d.map v8).toArray] w fun e w' => e = .returned (.bool true) ∧ Below w.heap.size w w' := by
  have hml : len ≤ 9223372036854775807 := by unfold maxLen at hcm; omega
  have HXL := Lib.hid hI.len
  obtain ⟨c0, hc0⟩ : ∃ c, (d.map v8).toArray = c := ⟨_, rfl⟩
  have b0 : Blk (w.alloc (.cells c0 24)) 24 w.heap.size (d.map v8) := by
    rw [← hc0]; exact Blk.new w _ _
  have hB0 : Below w.heap.size w (w.alloc (.cells c0 24)) := (Below.refl w.heap.size w).alloc (Nat.le_refl _) _
  have hz0 : (w.alloc (.cells c0 24)).heap.size = w.heap.size + 1 := by simp
  have m6 : (Try.prog.info? 24).map (·.size) = some (d.map v8).length := by rw [List.length_map, hd]; exact size6
  have ta := fun B n c W hn hW => turnlk_any B n c xs (w := W) (hlen := hn) (hI := hW) (d := d) (hd := hd) (s := d) (hs := hd)
  rw [hc0] at ta ⊢
  obtain ⟨w0, hw0⟩ : ∃ w0, w.alloc (.cells c0 24) = w0 := ⟨_, rfl⟩
  rw [hw0] at b0 hB0 hz0
  have HW0 := Lib.hid hw0
  have HB0 := Lib.hid hB0
  have HD0 := Lib.hid b0
  have HZ0 := Lib.hid hz0
  have M6 := Lib.hid m6
  have HC0 := Lib.hid hc0
  have HTA := Lib.hid ta
  clear b0 hB0 hw0 hz0 m6 hc0 ta
  go_enter Try.func8, Try.ntmps8
  go_wp2_with fail
  rw [HW0.out]
  refine (awake_any _).mono ?_
  rintro e w1 ⟨rfl, hb1⟩
  have z1 : w.heap.size + 1 ≤ w1.heap.size := by have := hb1.size; rw [HZ0.out] at this; exact this
  have HD1 := Lib.hid (HD0.out.below (by rw [HZ0.out]; omega) hb1)
  have B1 := HB0.out.trans (hb1.mono HB0.out.size)
  clear hb1
  by_cases hle : 1000 < len
  · have hle' : (1000 : Int) < (len : Int) := by omega
    go_wp2_with fail
    refine (awake_any _).mono ?_
    rintro e w2 ⟨rfl, hb2⟩
    go_wp2_with fail
    go_ret
    exact ⟨rfl, B1.trans (hb2.mono B1.size)⟩
  · have hle' : ¬ (1000 : Int) < (len : Int) := by omega
    obtain ⟨L, q, hr⟩ : ∃ L q, rdOf xs = (L, q) := ⟨_, _, rfl⟩
    obtain ⟨h6, hts2, _⟩ := rdOf_six xs L q hr
    have HR := Lib.hid hr
    have HI1 := Lib.hid ((hI.below B1).more B1.size)
    have o0 := empty8 (base := w1.heap.size) w1 (Nat.le_refl _)
    have O0 := Lib.hid o0
    clear hr o0
    go_wp2_with (first
      | (at_builtin; refine wpList_append8 (o := ⟨some 23, _, _, _, _, _⟩) rfl _ _ rfl w1.heap.size _ [] (by rfl) O0.out _ _ _ _ xs (by rfl) (HI1.out.alloc (Nat.le_refl _) _) (by simp; omega) (by simp) ?_; intro v2 w2 ho2 hg2 hob2; rw [List.nil_append] at ho2; have e2 : Below w1.heap.size w1 w2 := ((Below.refl _ w1).alloc (Nat.le_refl _) (.cells #[] 5)).grown hg2 (by simp) (fun g hg => by simp [Value.ownBlock] at hg; omega); obtain ⟨A2, c2, row2, rfl, hc2, hm2, hu2⟩ := own_ours ho2 HXL.out; have U2 := Lib.hid hu2; have E2 := Lib.hid e2; have HD2 := Lib.hid (HD1.out.below (by omega) e2); have z2 := e2.size; clear hg2 hob2 ho2 hu2 e2)
      | ((with_reducible show wpList _ _ _ _ _ _); refine wpList_load_mid rfl 24 (.tmp 3) rfl w.heap.size 0 (by rfl) (d.map v8) _ HD2.out.range Try.underlying24 rfl M6.out ?_; rw [HC0.out]))
    refine (HTA.out A2 len c2 w2 (by omega) U2.out.rd).mono ?_
    rintro e w3 ⟨v3, rfl, ho3, hb3⟩
    have z3 := hb3.size
    obtain ⟨A3, c3, row3, rfl, hc3, hm3, hu3⟩ := own_ours ho3 ((turnOf_len xs d d hd hd).trans HXL.out)
    have U3 := Lib.hid hu3
    have U2b := Lib.hid (U2.out.stay (show w2.grownBy w3 none from gb_below (World.grownBy.refl w2 none) hb3 (Nat.le_refl _)) (Nat.le_refl _) (fun g hg => by cases hg))
    have B3 := (B1.trans (E2.out.mono B1.size)).trans (hb3.mono (by have := B1.size; omega))
    have HI3 := Lib.hid ((HI1.out.below E2.out).below (hb3.mono z2))
    clear ho3 hu3 hb3
    go_wp2_with fail
    refine (read_as HR.out (q : Int) rfl (by omega) hc2 hm2 ((U2b.out.rd).more z3)).mono ?_
    rintro e w4 ⟨B4, m4, k4, rfl, hm4, _, ht4, hg4, hb4⟩
    have z4 := hb4.size
    have B4' := B3.trans (hb4.mono B3.size)
    have hG34 : w3.grownBy w4 none := gb_below (World.grownBy.refl w3 none) hb4 (Nat.le_refl _)
    have U3b := Lib.hid (U3.out.stay hG34 (Nat.le_refl _) (fun g hg => by cases hg))
    have U2c := Lib.hid (U2b.out.stay hG34 z3 (fun g hg => by cases hg))
    have HI4 := Lib.hid (HI3.out.below (hb4.mono (by omega)))
    have T4 := Lib.hid ht4
    have G4 := Lib.hid hg4
    have HM4 := Lib.hid hm4
    clear ht4 hg4 hb4 hG34 hm4
    go_wp2_with ((with_reducible show wpList _ _ _ _ _ _); refine wpList_storeNew rfl (.tmp 7) (.tmp 31) rfl (by rfl) L h6 (.slice B4 m4 k4) rfl (by rfl) ?_; intro w5 hM5 hb5 hz5; have M5 := Lib.hid hM5; have E5 := Lib.hid hb5; have HZ5 := Lib.hid hz5; clear hM5 hb5 hz5)
    have hG45 : w4.grownBy w5 none := gb_below (World.grownBy.refl w4 none) E5.out (Nat.le_refl _)
    have U3c := Lib.hid (U3b.out.stay hG45 z4 (fun g hg => by cases hg))
    have U2d := Lib.hid (U2c.out.stay hG45 (by omega) (fun g hg => by cases hg))
    have HI5 := Lib.hid (HI4.out.below (E5.out.mono (by omega)))
    have T5 := Lib.hid (T4.out.below E5.out)
    have B5 := B4'.trans (E5.out.mono B4'.size)
    have z5 := E5.out.size
    clear hG45
    go_loopw [9] (fun i wr => ∃ (k : Nat) (cur : List UInt8), k ≤ len ∧ i = .int .i64 (k : Int) ∧ Ours wr A3 len w2.heap.size w3.heap.size row3 cur ∧ w5.grownBy wr row3) (fun i _ => len - (intOf i).toNat)
    case atStart => exact ⟨0, _, by omega, rfl, U3c.out, World.grownBy.refl _ _⟩
    case round =>
      obtain ⟨k, cur, hk, rfl, hu, hgr⟩ := hrel
      by_cases hlt : k < len
      · have hlt' : (k : Int) < (len : Int) := by omega
        obtain ⟨g, rfl, hg1, hg2, hrow, hh⟩ := hu.2.1 (by omega)
        obtain ⟨x, hx⟩ : ∃ x, cur[k]? = some x := ⟨_, List.getElem?_eq_getElem (by rw [hu.1]; exact hlt)⟩
        obtain ⟨hc, hf⟩ := hh k x hx
        unfold v8 at hc
        have hxor : bits .xor .u8 (x.toNat : Int) 255 = ((x ^^^ 255).toNat : Int) := xor8 x 255
        have hset := hh.set hx (x ^^^ 255)
        have hn' : Ours (wr.setCell ⟨g, k, none⟩ (.int .u8 ((x ^^^ 255).toNat : Int))) (some ⟨g, 0, none⟩) len w2.heap.size w3.heap.size row3 (cur.set k (x ^^^ 255)) :=
          ⟨by rw [List.length_set]; exact hu.1, fun _ => ⟨g, rfl, hg1, hg2, hrow, hset⟩, hu.2.2⟩
        rw [hrow] at hgr
        have hgr' := gb_set hgr k (.int .u8 ((x ^^^ 255).toNat : Int))
        rw [← hrow] at hgr'
        have HU := Lib.hid hn'
        have HG := Lib.hid hgr'
        clear hset hn' hgr hgr' hx hh hu hrow
        go_wp2_with fail
        go_roundw
        case rel => exact ⟨k + 1, _, by omega, by go_num, HU.out, HG.out⟩
        case measure => simp [intOf]; omega
      · obtain rfl : k = len := by omega
        have hrow3 : ∀ g, row3 = some g → w2.heap.size ≤ g ∧ g < w3.heap.size := fun g e => by
          rcases Nat.eq_zero_or_pos k with h0 | h0
          · have := hu.2.2 h0; rw [this] at e; cases e
          · obtain ⟨g', _, a, b, c, _⟩ := hu.2.1 h0
            rw [c] at e; cases e; exact ⟨a, b⟩
        have U2e := Lib.hid (U2d.out.stay hgr (by omega) (fun g hg => .inr (hrow3 g hg).1))
        have HI6 := Lib.hid (HI5.out.stay hgr (by omega) (fun g hg => by have := (hrow3 g hg).1; omega))
        have T6 := Lib.hid (T5.out.stay G4.out hgr z5 (fun g hg => (hrow3 g hg).2))
        have M6b := Lib.hid (M5.out.grown hgr (fun e => by have := (hrow3 _ e).2; omega))
        have z6 := hgr.size
        have B6 : Below w.heap.size w wr := B5.grown hgr B5.size (fun g hg => by have := (hrow3 g hg).1; omega)
        clear hu hgr hlt hk hrow3
        go_wp2_with fail
        refine (same_any wr c2 cap U2e.out.rd HI6.out).mono ?_
        rintro e w7 ⟨rfl, hw7⟩
        have hw7 := hw7.symm
        subst hw7
        go_wp2_with fail
        go_loopw [10] (fun i ws => ∃ (j : Nat) (cur : List UInt8), j ≤ k ∧ i = .int .i64 (j : Int) ∧ Ours ws A2 k w1.heap.size w2.heap.size row2 cur ∧ w7.grownBy ws row2) (fun i _ => k - (intOf i).toNat)
        case atStart => exact ⟨0, _, by omega, rfl, U2e.out, World.grownBy.refl _ _⟩
        case round =>
          obtain ⟨j, cur, hj, rfl, hu, hgr⟩ := hrel
          by_cases hlt : j < k
          · have hlt' : (j : Int) < (k : Int) := by omega
            obtain ⟨g, rfl, hg1, hg2, hrow, hh⟩ := hu.2.1 (by omega)
            obtain ⟨x, hx⟩ : ∃ x, cur[j]? = some x := ⟨_, List.getElem?_eq_getElem (by rw [hu.1]; exact hlt)⟩
            obtain ⟨hc, hf⟩ := hh j x hx
            unfold v8 at hc
            have hset : Held (wr.setCell ⟨g, j, none⟩ (.int .u8 0)) g (cur.set j 0) := hh.set hx 0
            have hn' : Ours (wr.setCell ⟨g, j, none⟩ (.int .u8 0)) (some ⟨g, 0, none⟩) k w1.heap.size w2.heap.size row2 (cur.set j 0) :=
              ⟨by rw [List.length_set]; exact hu.1, fun _ => ⟨g, rfl, hg1, hg2, hrow, hset⟩, hu.2.2⟩
            rw [hrow] at hgr
            have hgr' := gb_set hgr j (.int .u8 0)
            rw [← hrow] at hgr'
            have HU := Lib.hid hn'
            have HG := Lib.hid hgr'
            clear hset hn' hgr hgr' hx hh hu hrow
            go_wp2_with fail
            go_roundw
            case rel => exact ⟨j + 1, _, by omega, by go_num, HU.out, HG.out⟩
            case measure => simp [intOf]; omega
          · have hrow2 : ∀ g, row2 = some g → w1.heap.size ≤ g ∧ g < w2.heap.size := fun g e => by
              rcases Nat.eq_zero_or_pos k with h0 | h0
              · have := hu.2.2 h0; rw [this] at e; cases e
              · obtain ⟨g', _, a, b, c, _⟩ := hu.2.1 h0
                rw [c] at e; cases e; exact ⟨a, b⟩
            have HI8 := Lib.hid ((HI6.out.stay hgr (by omega) (fun g hg => by have := (hrow2 g hg).1; omega)).more (B' := wr.heap.size) (by have := hgr.size; omega))
            have T8 := Lib.hid (T6.out.stay G4.out hgr (by omega) (fun g hg => by have := (hrow2 g hg).2; omega))
            have M8 := Lib.hid (M6b.out.grown hgr (fun e => by have := (hrow2 _ e).2; omega))
            have z8 := hgr.size
            have B8 : Below w.heap.size w wr := B6.grown hgr B6.size (fun g hg => by have := (hrow2 g hg).1; omega)
            have h45 : w4.heap.size < wr.heap.size := by have := HZ5.out; omega
            have hlt' : ¬ (j : Int) < (k : Int) := by omega
            clear hu hgr hlt hj hrow2
            go_wp2_with fail
            refine (rread_as cap HR.out (by omega) HI8.out).mono ?_
            rintro e w9 ⟨B9, m9, k9, rfl, hm9, _, ht9, hb9⟩
            have T9 := Lib.hid (T8.out.below (hb9.mono (by omega)))
            have U9 := Lib.hid ht9
            have M9 := Lib.hid (M8.out.below h45 hb9)
            have z9 := hb9.size
            have B9' := B8.trans (hb9.mono B8.size)
            have hm2 : m4 ≤ 2 := by rw [HM4.out]; exact hts2
            clear ht9 hb9 hm9
            go_wp2_with (first
              | ((with_reducible show wpList _ _ _ _ _ _); refine wpList_storeNew rfl (.tmp 11) (.tmp 63) rfl (by rfl) L h6 (.slice B9 m9 k9) rfl (by rfl) ?_; intro w10 hN10 hb10 hz10; have N10 := Lib.hid hN10; have M10 := Lib.hid (M9.out.below (by omega) hb10); have E10 := Lib.hid hb10; clear hN10 hb10 hz10)
              | ((with_reducible show wpList _ _ _ _ _ _); refine wpList_loadL rfl (.tmp 7) rfl w4.heap.size (by rfl) L h6 (.slice B4 m4 k4) M10.out ?_)
              | ((with_reducible show wpList _ _ _ _ _ _); refine wpList_loadL rfl (.tmp 11) rfl w9.heap.size (by rfl) L h6 (.slice B9 m9 k9) N10.out ?_))
            refine (same_lk L h6 k4 k9 (by omega) E10.out.size ((T9.out.below (E10.out.mono (by omega))).more (by omega)) (U9.out.below E10.out)).mono ?_
            rintro e w11 ⟨rfl, hb11⟩
            have B10 := B9'.trans (E10.out.mono B9'.size)
            go_wp2_with fail
            go_ret
            exact ⟨rfl, B10.trans (hb11.mono B10.size)⟩

theorem linkKeeps_walks : WalksTrue 8 Try.f8 := by
  intro H enc W base args ds p hval hA
  rw [Try.params8] at hA hval
  obtain ⟨v0, vs0, d0, ds0, p0, q0, hargs, rfl, rfl, h0, r0⟩ := trodAll_cons hA
  obtain ⟨v1, vs1, d1, ds1, p1, q1, rfl, rfl, rfl, h1, r1⟩ := trodAll_cons r0
  obtain ⟨rfl, rfl, rfl⟩ := trodAll_nil r1
  obtain rfl : args = #[v0, v1] := by cases args; simp_all
  obtain ⟨A0, len0, cap0, xs0, rfl, hc0, hm0, hI0⟩ := open_bytes (hval 0 22 v0 rfl rfl) h0
  obtain ⟨bs1, rfl, hl1⟩ := open_six h1
  exact linkKeeps_walk A0 len0 cap0 xs0 hc0 hm0 bs1 hl1 W hI0

theorem linkKeeps_said : Rows.LinkKeepsSaid :=
  OpenClaim.holds_of_wide 8 Try.f8 rfl rfl rfl rfl rfl rfl rfl ⟨rfl, rfl, rfl, rfl, rfl⟩ rfl rfl rfl rfl rfl (by kernel_rfl) Try.func8 (by kernel_rfl)
    (of_decide_eq_true (by kernel_rfl)) (by unfold Func.isWrapper; first | (rw [if_pos (by decide +kernel)]; kernel_rfl) | (rw [if_neg (by decide +kernel)]; exact ⟨rfl, rfl⟩))
    (fun os started H enc _ => law_lift (s := Rows.linkKeepsSpec) Try.func8 (by kernel_rfl) rfl rfl (by intro H ds hd; match ds, hd with | [_, _], _ => exact ⟨rfl, rfl, rfl⟩) (by kernel_rfl) linkKeeps_walks os started H enc
      (ChangeSpec.witness6 (enc := enc) (C := Try.checked) false ⟨#[], #[.slice none 0 0, .agg #[.int .u8 0, .int .u8 0, .int .u8 0, .int .u8 0, .int .u8 0, .int .u8 0]], []⟩ 8 (by kernel_rfl) (by kernel_rfl) (by kernel_rfl) (by kernel_rfl)))

end Go.Proofs.Ytbahlhafckkapaa
