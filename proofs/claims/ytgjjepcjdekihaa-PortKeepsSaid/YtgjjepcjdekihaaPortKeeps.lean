/-
  PROVED HERE: 'PortKeepsSaid': whatever src, dst, udp and b are, the Go function PortKeeps of package wayleavelaw10 returns true, and its arguments read behind the call as they read before. No condition.
-/
import Derived.Test.YtgjjepcjdekihaaPOpen
namespace Go.Proofs.Ytgjjepcjdekihaa
open Go.RowKit Go.Lib Go.ChangeShapes Go.WideShapes Go.ChangeAt

set_option maxRecDepth 100000 in
set_option maxHeartbeats 8000000 in
theorem portKeeps_walk (sa : Bool) (a : List UInt8) (ha : a.length = 16) (sb : Bool) (b : List UInt8) (hb : b.length = 16) (u : Bool) (A : Option Addr) (len cap : Nat) (xs : List UInt8) (hcap : len ≤ cap) (hcm : cap ≤ maxLen) (w : World) (hI : Rd w w.heap.size A len xs) :
    Calls Try.prog 8 #[.agg (addrC sa a), .agg (addrC sb b), .bool u, .slice A len cap] w fun e w' => e = .returned (.bool true) ∧ Below w.heap.size w w' := by
  have hml : len ≤ 9223372036854775807 := by unfold maxLen at hcm; omega
  obtain ⟨k0, k1, hb0, hz⟩ := boxes2 w sa sb a b
  obtain ⟨Z, hZ⟩ : ∃ Z : World, (w.alloc (.cells (addrC sa a) 35)).alloc (.cells (addrC sb b) 35) = Z := ⟨_, rfl⟩
  rw [hZ] at k0 k1 hb0 hz
  have HFT := Lib.hid (fun W (hB : Below w.heap.size w W) => fit_any sa sb a b u (cap := cap) W ((hI.below hB).more hB.size))
  obtain ⟨ft, hft⟩ : ∃ ft, fitB sa sb (faultB u xs) len = ft := ⟨_, rfl⟩
  rw [hft] at HFT
  have HF := Lib.hid hft
  have HZ := Lib.hid hZ
  have K0 := Lib.hid k0
  have K1 := Lib.hid k1
  have HB0 := Lib.hid hb0
  have HG := Lib.hid hz
  have HI := Lib.hid hI
  obtain ⟨C0, hC0⟩ : ∃ C, addrC sa a = C := ⟨_, rfl⟩
  obtain ⟨C1, hC1⟩ : ∃ C, addrC sb b = C := ⟨_, rfl⟩
  rw [hC0, hC1] at HZ HFT
  rw [hC0, hC1]
  have HC0 := Lib.hid hC0
  have HC1 := Lib.hid hC1
  clear hft hZ k0 k1 hb0 hz hI hC0 hC1
  go_enter Try.func8, Try.ntmps8
  go_wp2_with fail
  rw [HZ.out]
  refine (awake_any _).mono ?_
  rintro e w1 ⟨rfl, hb1⟩
  have g0 := Nat.lt_of_succ_lt HG.out
  have HB1 := Lib.hid (HB0.out.trans (hb1.mono HB0.out.size))
  have K0a := Lib.hid (range_keep K0.out g0 hb1)
  have K1a := Lib.hid (range_keep K1.out HG.out hb1)
  have hg1 := Nat.lt_of_lt_of_le HG.out hb1.size
  have HG1 := Lib.hid hg1
  clear hb1 hg1
  go_wp2_with (first
    | ((with_reducible show wpList _ _ _ _ _ _); refine wpList_loadC (op := ⟨some 15, _, _, _, _, _⟩) _ rfl (by rfl) w.heap.size (by rfl) sa a ha K0a.out C0 HC0.out ?_)
    | ((with_reducible show wpList _ _ _ _ _ _); refine wpList_loadC (op := ⟨some 16, _, _, _, _, _⟩) _ rfl (by rfl) (w.heap.size + 1) (by rfl) sb b hb K1a.out C1 HC1.out ?_))
  refine (HFT.out _ HB1.out).mono ?_
  rintro e w2 ⟨rfl, hb2⟩
  have HB2 := Lib.hid (HB1.out.trans (hb2.mono HB1.out.size))
  have K0b := Lib.hid (range_keep K0a.out (Nat.lt_of_succ_lt HG1.out) hb2)
  have K1b := Lib.hid (range_keep K1a.out HG1.out hb2)
  have hg2 := Nat.lt_of_lt_of_le HG1.out hb2.size
  have HG2 := Lib.hid hg2
  clear hb2 hg2 HFT
  cases ft with
  | false =>
    clear HF
    go_wp2_with fail
    refine (awake_any _).mono ?_
    rintro e w3 ⟨rfl, hb3⟩
    have HB3 := Lib.hid (HB2.out.trans (hb3.mono HB2.out.size))
    clear hb3
    go_wp2_with fail
    go_ret
    exact ⟨rfl, HB3.out⟩
  | true =>
    obtain ⟨hs, h0, hle⟩ := fit_yes HF.out
    subst hs
    have hL := HI.out.len
    have HFr := Lib.hid (fun W (hB : Below w.heap.size w W) => rfill_any sa a b ha hb (cap := cap) (by omega) W ((HI.out.below hB).more hB.size) u h0)
    have HFi := Lib.hid (fun (A : Option Addr) (c : Nat) (h1 : len ≤ c) (h2 : c ≤ maxLen) W (hI : Rd W W.heap.size A len xs) => fill_any sa a b ha hb (cap := c) (by omega) h1 h2 W hI u h0)
    have HRi := Lib.hid (fun (A : Option Addr) (c : Nat) (h1 : len ≤ c) (h2 : c ≤ maxLen) W (hI : Rd W W.heap.size A len xs) => right_any sa a b ha hb (cap := c) (by omega) h1 h2 W hI u h0)
    have HLF := Lib.hid (show (fillS sa a b u xs).length = len by rw [fillS_len]; exact hL)
    have HPR := Lib.hid (proto_any u)
    obtain ⟨t1, t2, t3⟩ := tot_ok h0
    have hl8 : 8 ≤ len := by omega
    generalize rightS sa a b u xs = r at *
    generalize fillS sa a b u xs = fs at *
    obtain ⟨P, hP⟩ : ∃ P, prN u = P := ⟨_, rfl⟩
    rw [hP] at HPR HRi HFr HFi
    rw [HC0.out, HC1.out] at HRi HFr HFi
    have HE := Lib.hid (empty8 (base := w2.heap.size) w2 (Nat.le_refl _))
    have HLX := Lib.hid hL
    clear hP h0 HF t1 t2 t3 hL
    have gg := HG2.out
    have HI2 := Lib.hid ((HI.out.below HB2.out).more HB2.out.size)
    go_wp2_with (at_builtin; refine wpList_append8 (o := ⟨some 25, _, _, _, _, _⟩) rfl _ _ rfl w2.heap.size _ [] (by rfl) HE.out _ A len cap xs (by rfl) (HI2.out.alloc (Nat.le_refl _) _) (by simp; omega) (by simp) ?_; intro v3 w3 ho3 hg3 _; rw [List.nil_append] at ho3; obtain ⟨g, c3, rfl, hc3, hm3, hgb, hgl, hheld⟩ := own_form (xs := xs) (by simpa using ho3) HLX.out (by omega); have HO3 := Lib.hid ho3; have HH3 := Lib.hid hheld; have hbb := ((Below.refl _ w2).alloc (Nat.le_refl _) (.cells #[] 5)).grown hg3 (by simp) HE.out.lt; have HB3 := Lib.hid (HB2.out.trans (hbb.mono HB2.out.size)); have K0c := Lib.hid (range_keep K0b.out (by omega) hbb); have K1c := Lib.hid (range_keep K1b.out gg hbb); have HR3 := Lib.hid (hheld.rd hgl HLX.out); have hz3 := hbb.size; have HGL := Lib.hid hgl; have HGB := Lib.hid hgb; clear ho3 hg3 hbb hheld)
    have HOS := Lib.hid (fun W (hB : Below w3.heap.size w3 W) => (HR3.out.below hB).more hB.size)
    refine wp_region_held_drew (S := fun W => Below w3.heap.size w3 W) (by kernel_rfl) ((Below.refl _ _).drew) (fun hHeld => ?_)
    refine wpAnyH_take (i := 0) (oi := ⟨some 26, _, _, _, _, _⟩) (v := .agg C0) rfl (by kernel_rfl) (by kernel_rfl) (by kernel_rfl) (fun _ _ _ h => h) (by rw [← HC0.out]; exact yields_loadA (by rfl) _ rfl w.heap.size (by rfl) sa a ha (fun W hW => range_keep K0c.out (by omega) hW)) hHeld ?_
    simp only [Act.put, List.setIfInBounds_toArray, List.set_cons_zero, List.set_cons_succ]
    refine wpAnyH_take (i := 1) (oi := ⟨some 27, _, _, _, _, _⟩) (v := .agg C1) rfl (by kernel_rfl) (by kernel_rfl) (by kernel_rfl) (fun _ _ _ h => h) (by rw [← HC1.out]; exact yields_loadA (by rfl) _ rfl (w.heap.size + 1) (by rfl) sa b hb (fun W hW => range_keep K1c.out (by omega) hW)) hHeld ?_
    simp only [Act.put, List.setIfInBounds_toArray, List.set_cons_zero, List.set_cons_succ]
    refine wpAnyH_take (i := 2) (oi := ⟨some 28, _, _, _, _, _⟩) (v := .bool u) rfl (by kernel_rfl) (by kernel_rfl) (by kernel_rfl) (fun _ _ _ h => h) (Or.inl ⟨by rfl, fun _ _ => by go_simp⟩) hHeld ?_
    simp only [Act.put, List.setIfInBounds_toArray, List.set_cons_zero, List.set_cons_succ]
    refine wpAnyH_take (i := 4) (oi := ⟨some 30, _, _, _, _, _⟩) (v := .slice (some ⟨g, 0, none⟩) len c3) rfl (by kernel_rfl) (by kernel_rfl) (by kernel_rfl) (fun _ _ _ h => h) (Or.inl ⟨by rfl, fun _ _ => by go_simp⟩) hHeld ?_
    simp only [Act.put, List.setIfInBounds_toArray, List.set_cons_zero, List.set_cons_succ]
    refine wpAnyH_ready (rs := [3]) (by kernel_rfl) (by simp) (AllReadyH.cons (o := ⟨some 29, _, _, _, _, _⟩) rfl (fun K hK => ?_) AllReadyH.nil)
    go_simp
    refine (HPR.out _).mono ?_
    rintro e w' ⟨rfl, rfl⟩
    refine hK.out _ _ (hHeld) (fun hHeld => ?_)
    clear hK K 
    refine wpAnyH_ready (rs := [5]) (by kernel_rfl) (by simp) (AllReadyH.cons (o := ⟨some 31, _, _, _, _, _⟩) rfl (fun K hK => ?_) AllReadyH.nil)
    go_simp
    refine (HFi.out _ c3 hc3 hm3 _ (HOS.out _ hHeld)).mono ?_
    rintro e w4 ⟨v4, rfl, ho4, hb4⟩
    obtain ⟨gc, c4, rfl, _, _, hgc, hgc2, hr4⟩ := ho4.formG HLF.out (by omega)
    have HR4 := Lib.hid hr4
    have HNE := Lib.hid (Nat.lt_of_lt_of_le (Nat.lt_of_lt_of_le HGL.out hHeld.size) hgc)
    have HGC := Lib.hid hgc2
    refine hK.out _ _ (hHeld.trans (hb4.mono hHeld.size)) (fun hHeld => ?_)
    clear hK K hb4 ho4 hr4 hgc hgc2
    refine wpAnyH_take (i := 6) (oi := ⟨some 10, _, _, _, _, _⟩) (v := .slice (some ⟨gc, 0, none⟩) len c4) rfl (by kernel_rfl) (by kernel_rfl) (by kernel_rfl) (fun _ _ _ h => h) (Or.inl ⟨by rfl, fun _ _ => by go_simp⟩) hHeld ?_
    simp only [Act.put, List.setIfInBounds_toArray, List.set_cons_zero, List.set_cons_succ]
    refine wpAnyH_done (by kernel_rfl) ?_ _
    have HB4 := Lib.hid hHeld
    clear hHeld
    go_wp2_with fail
    refine wp_region_held_drew (S := fun W => Below w4.heap.size w4 W) (by kernel_rfl) ((Below.refl _ _).drew) (fun hHeld => ?_)
    have K0d := Lib.hid (range_keep K0c.out (by omega) HB4.out)
    have K1d := Lib.hid (range_keep K1c.out (by omega) HB4.out)
    have hz4 := HB4.out.size
    refine wpAnyH_take (i := 0) (oi := ⟨some 32, _, _, _, _, _⟩) (v := .agg C0) rfl (by kernel_rfl) (by kernel_rfl) (by kernel_rfl) (fun _ _ _ h => h) (by rw [← HC0.out]; exact yields_loadA (by rfl) _ rfl w.heap.size (by rfl) sa a ha (fun W hW => range_keep K0d.out (by omega) hW)) hHeld ?_
    simp only [Act.put, List.setIfInBounds_toArray, List.set_cons_zero, List.set_cons_succ]
    refine wpAnyH_take (i := 1) (oi := ⟨some 33, _, _, _, _, _⟩) (v := .agg C1) rfl (by kernel_rfl) (by kernel_rfl) (by kernel_rfl) (fun _ _ _ h => h) (by rw [← HC1.out]; exact yields_loadA (by rfl) _ rfl (w.heap.size + 1) (by rfl) sa b hb (fun W hW => range_keep K1d.out (by omega) hW)) hHeld ?_
    simp only [Act.put, List.setIfInBounds_toArray, List.set_cons_zero, List.set_cons_succ]
    refine wpAnyH_take (i := 2) (oi := ⟨some 34, _, _, _, _, _⟩) (v := .bool u) rfl (by kernel_rfl) (by kernel_rfl) (by kernel_rfl) (fun _ _ _ h => h) (Or.inl ⟨by rfl, fun _ _ => by go_simp⟩) hHeld ?_
    simp only [Act.put, List.setIfInBounds_toArray, List.set_cons_zero, List.set_cons_succ]
    refine wpAnyH_take (i := 4) (oi := ⟨some 36, _, _, _, _, _⟩) (v := .slice (some ⟨g, 0, none⟩) len c3) rfl (by kernel_rfl) (by kernel_rfl) (by kernel_rfl) (fun _ _ _ h => h) (Or.inl ⟨by rfl, fun _ _ => by go_simp⟩) hHeld ?_
    simp only [Act.put, List.setIfInBounds_toArray, List.set_cons_zero, List.set_cons_succ]
    refine wpAnyH_ready (rs := [3]) (by kernel_rfl) (by simp) (AllReadyH.cons (o := ⟨some 35, _, _, _, _, _⟩) rfl (fun K hK => ?_) AllReadyH.nil)
    go_simp
    refine (HPR.out _).mono ?_
    rintro e w' ⟨rfl, rfl⟩
    refine hK.out _ _ (hHeld) (fun hHeld => ?_)
    clear hK K 
    refine wpAnyH_ready (rs := [5]) (by kernel_rfl) (by simp) (AllReadyH.cons (o := ⟨some 37, _, _, _, _, _⟩) rfl (fun K hK => ?_) AllReadyH.nil)
    go_simp
    refine (HRi.out _ c3 hc3 hm3 _ (HOS.out _ (HB4.out.trans (hHeld.mono HB4.out.size)))).mono ?_
    rintro e w5 ⟨rfl, hb5⟩
    refine hK.out _ _ (hHeld.trans (hb5.mono hHeld.size)) (fun hHeld => ?_)
    clear hK K hb5
    refine wpAnyH_done (by kernel_rfl) ?_ _
    have HB5 := Lib.hid (HB4.out.trans (hHeld.mono HB4.out.size))
    have HR5 := Lib.hid ((HR4.out.below hHeld).more hHeld.size)
    have HGC5 := Lib.hid (Nat.lt_of_lt_of_le HGC.out hHeld.size)
    have HW5 := Lib.hid (HB3.out.trans (HB5.out.mono HB3.out.size))
    have HI5 := Lib.hid ((HI.out.below HW5.out).more HW5.out.size)
    have HO5 := Lib.hid (HOS.out _ HB5.out)
    have z5 := HB5.out.size
    clear hHeld
    go_wp2_with fail
    refine (same_any _ c3 cap HO5.out HI5.out).mono ?_
    rintro e w' ⟨rfl, rfl⟩
    have HH5 := Lib.hid (fun j y (h : xs[j]? = some y) => (⟨((HB5.out.cell (p := ⟨g, j, none⟩) HGL.out).trans (HH3.out j y h).1), (HO3.out.below HB5.out).frozen j⟩ : w5.cell? ⟨g, j, none⟩ = some (v8 y) ∧ w5.frozen? ⟨g, j, none⟩ = false))
    go_wp2_with fail
    go_loopw [11] (fun i wr => ∃ (k : Nat) (cur : List UInt8), k ≤ len ∧ i = .int .i64 (k : Int) ∧ cur.length = len ∧ Held wr g cur ∧ Below w2.heap.size w5 wr ∧ (∀ k, k ≠ g → wr.heap[k]? = w5.heap[k]?)) (fun i _ => len - (intOf i).toNat)
    case atStart => exact ⟨0, xs, by omega, rfl, HLX.out, HH5.out, Below.refl _ _, fun _ _ => rfl⟩
    case round =>
      obtain ⟨k, cur, hk, rfl, hcur, hheld, B6, N6⟩ := hrel
      by_cases hlt : k < len
      · have hlt' : (k : Int) < (len : Int) := by omega
        obtain ⟨x, hx⟩ : ∃ x, cur[k]? = some x := ⟨_, List.getElem?_eq_getElem (by omega)⟩
        obtain ⟨hc, hf⟩ := hheld k x hx
        unfold v8 at hc
        have hset : Held (wr.setCell ⟨g, k, none⟩ (.int .u8 0)) g (cur.set k 0) := hheld.set hx 0
        have hsl : (cur.set k 0).length = len := by rw [List.length_set]; exact hcur
        have HS := Lib.hid hset
        have HSL := Lib.hid hsl
        have HB := Lib.hid (B6.setCell (p := ⟨g, k, none⟩) HGB.out (.int .u8 0))
        have HN := Lib.hid (fun j (hj : j ≠ g) => (Below.heap_setCell wr ⟨g, k, none⟩ (.int .u8 0) j hj).trans (N6 j hj))
        clear hset hsl hx hcur hheld N6 B6
        go_wp2_with fail
        go_roundw
        case rel => exact ⟨k + 1, _, by omega, by go_num, HSL.out, HS.out, HB.out, HN.out⟩
        case measure => simp [intOf]; omega
      · have hlt' : ¬ (k : Int) < (len : Int) := by omega
        have hz2 := HB2.out.size
        have HB6 := Lib.hid (HW5.out.trans (B6.mono HB2.out.size))
        have z6 := B6.size
        have HR6 := Lib.hid ((HR5.out.keepB (N6 gc (by have := HNE.out; omega))).more (B' := wr.heap.size) z6)
        have K0e := Lib.hid (range_keep (range_keep K0c.out (by omega) HB5.out) (by omega) B6)
        have K1e := Lib.hid (range_keep (range_keep K1c.out (by omega) HB5.out) gg B6)
        have gg6 : w.heap.size + 1 < wr.heap.size := by omega
        clear hheld hcur B6 N6
        go_wp2_with fail
        refine wp_region_held_drew (S := fun W => Below wr.heap.size wr W) (by kernel_rfl) ((Below.refl _ _).drew) (fun hHeld => ?_)
        refine wpAnyH_take (i := 0) (oi := ⟨some 51, _, _, _, _, _⟩) (v := .slice (some ⟨gc, 0, none⟩) len c4) rfl (by kernel_rfl) (by kernel_rfl) (by kernel_rfl) (fun _ _ _ h => h) (Or.inl ⟨by rfl, fun _ _ => by go_simp⟩) hHeld ?_
        simp only [Act.put, List.setIfInBounds_toArray, List.set_cons_zero, List.set_cons_succ]
        refine wpAnyH_take (i := 1) (oi := ⟨some 52, _, _, _, _, _⟩) (v := .agg C0) rfl (by kernel_rfl) (by kernel_rfl) (by kernel_rfl) (fun _ _ _ h => h) (by rw [← HC0.out]; exact yields_loadA (by rfl) _ rfl w.heap.size (by rfl) sa a ha (fun W hW => range_keep K0e.out (by omega) hW)) hHeld ?_
        simp only [Act.put, List.setIfInBounds_toArray, List.set_cons_zero, List.set_cons_succ]
        refine wpAnyH_take (i := 2) (oi := ⟨some 53, _, _, _, _, _⟩) (v := .agg C1) rfl (by kernel_rfl) (by kernel_rfl) (by kernel_rfl) (fun _ _ _ h => h) (by rw [← HC1.out]; exact yields_loadA (by rfl) _ rfl (w.heap.size + 1) (by rfl) sa b hb (fun W hW => range_keep K1e.out (by omega) hW)) hHeld ?_
        simp only [Act.put, List.setIfInBounds_toArray, List.set_cons_zero, List.set_cons_succ]
        refine wpAnyH_take (i := 3) (oi := ⟨some 54, _, _, _, _, _⟩) (v := .bool u) rfl (by kernel_rfl) (by kernel_rfl) (by kernel_rfl) (fun _ _ _ h => h) (Or.inl ⟨by rfl, fun _ _ => by go_simp⟩) hHeld ?_
        simp only [Act.put, List.setIfInBounds_toArray, List.set_cons_zero, List.set_cons_succ]
        refine wpAnyH_take (i := 5) (oi := ⟨some 56, _, _, _, _, _⟩) (v := .slice A len cap) rfl (by kernel_rfl) (by kernel_rfl) (by kernel_rfl) (fun _ _ _ h => h) (Or.inl ⟨by rfl, fun _ _ => by go_simp⟩) hHeld ?_
        simp only [Act.put, List.setIfInBounds_toArray, List.set_cons_zero, List.set_cons_succ]
        refine wpAnyH_ready (rs := [4]) (by kernel_rfl) (by simp) (AllReadyH.cons (o := ⟨some 55, _, _, _, _, _⟩) rfl (fun K hK => ?_) AllReadyH.nil)
        go_simp
        refine (HPR.out _).mono ?_
        rintro e w' ⟨rfl, rfl⟩
        refine hK.out _ _ (hHeld) (fun hHeld => ?_)
        clear hK K 
        refine wpAnyH_ready (rs := [6]) (by kernel_rfl) (by simp) (AllReadyH.cons (o := ⟨some 57, _, _, _, _, _⟩) rfl (fun K hK => ?_) AllReadyH.nil)
        go_simp
        refine (HFr.out _ (HB6.out.trans (hHeld.mono HB6.out.size))).mono ?_
        rintro e w7 ⟨v7, rfl, ho7, hb7⟩
        obtain ⟨A7, c7, rfl, _, _, hr7⟩ := ho7.formN HLF.out
        have HR7 := Lib.hid hr7
        have HQ7 := Lib.hid ((HR6.out.below hHeld).more hHeld.size)
        have HQ8 := Lib.hid (HQ7.out.below hb7)
        refine hK.out _ _ (hHeld.trans (hb7.mono hHeld.size)) (fun hHeld => ?_)
        clear hK K hb7 ho7 hr7
        refine wpAnyH_ready (rs := [7]) (by kernel_rfl) (by simp) (AllReadyH.cons (o := ⟨some 58, _, _, _, _, _⟩) rfl (fun K hK => ?_) AllReadyH.nil)
        go_simp
        refine (same_any _ c4 c7 HQ8.out HR7.out).mono ?_
        rintro e w' ⟨rfl, rfl⟩
        refine hK.out _ _ (hHeld) (fun hHeld => ?_)
        clear hK K 
        refine wpAnyH_take (i := 8) (oi := ⟨some 8, _, _, _, _, _⟩) (v := .bool true) rfl (by kernel_rfl) (by kernel_rfl) (by kernel_rfl) (fun _ _ _ h => h) (Or.inl ⟨by rfl, fun _ _ => by go_simp⟩) hHeld ?_
        simp only [Act.put, List.setIfInBounds_toArray, List.set_cons_zero, List.set_cons_succ]
        refine wpAnyH_done (by kernel_rfl) ?_ _
        go_wp2_with fail
        go_ret
        exact ⟨rfl, HB6.out.trans (hHeld.mono HB6.out.size)⟩

theorem portKeeps_walks : WalksTrue 8 Try.f8 := by
  intro H enc W base args ds p hval hA
  rw [Try.params8] at hA hval
  obtain ⟨v0, vs0, d0, ds0, p0, q0, hargs, rfl, rfl, h0, r0⟩ := trodAll_cons hA
  obtain ⟨v1, vs1, d1, ds1, p1, q1, rfl, rfl, rfl, h1, r1⟩ := trodAll_cons r0
  obtain ⟨v2, vs2, d2, ds2, p2, q2, rfl, rfl, rfl, h2, r2⟩ := trodAll_cons r1
  obtain ⟨v3, vs3, d3, ds3, p3, q3, rfl, rfl, rfl, h3, r3⟩ := trodAll_cons r2
  obtain ⟨rfl, rfl, rfl⟩ := trodAll_nil r3
  obtain rfl : args = #[v0, v1, v2, v3] := by cases args; simp_all
  obtain ⟨s0, bs0, rfl, hl0⟩ := open_addr (hval 0 35 v0 rfl rfl) h0
  obtain ⟨s1, bs1, rfl, hl1⟩ := open_addr (hval 1 35 v1 rfl rfl) h1
  obtain ⟨a2, rfl, rfl, rfl⟩ := open_bool Try.underlying4 (hval 2 4 v2 rfl rfl) h2
  obtain ⟨A3, len3, cap3, xs3, rfl, hc3, hm3, hI3⟩ := open_bytes (hval 3 22 v3 rfl rfl) h3
  exact portKeeps_walk s0 bs0 hl0 s1 bs1 hl1 a2 A3 len3 cap3 xs3 hc3 hm3 W hI3

theorem portKeeps_said : Rows.PortKeepsSaid :=
  OpenClaim.holds_of_wide 8 Try.f8 rfl rfl rfl rfl rfl rfl rfl ⟨rfl, rfl, rfl, rfl, rfl⟩ rfl rfl rfl rfl rfl (by kernel_rfl) Try.func8 (by kernel_rfl)
    (of_decide_eq_true (by kernel_rfl)) (by unfold Func.isWrapper; first | (rw [if_pos (by decide +kernel)]; kernel_rfl) | (rw [if_neg (by decide +kernel)]; exact ⟨rfl, rfl⟩))
    (fun os started H enc _ => law_lift (s := Rows.portKeepsSpec) Try.func8 (by kernel_rfl) rfl rfl (by intro H ds hd; match ds, hd with | [_, _, _, _], _ => exact ⟨rfl, rfl, rfl⟩) (by kernel_rfl) portKeeps_walks os started H enc
      (ChangeSpec.witness6 (enc := enc) (C := Try.checked) false ⟨#[], #[.agg #[.bool false, .int .u8 0, .int .u8 0, .int .u8 0, .int .u8 0, .int .u8 0, .int .u8 0, .int .u8 0, .int .u8 0, .int .u8 0, .int .u8 0, .int .u8 0, .int .u8 0, .int .u8 0, .int .u8 0, .int .u8 0, .int .u8 0], .agg #[.bool false, .int .u8 0, .int .u8 0, .int .u8 0, .int .u8 0, .int .u8 0, .int .u8 0, .int .u8 0, .int .u8 0, .int .u8 0, .int .u8 0, .int .u8 0, .int .u8 0, .int .u8 0, .int .u8 0, .int .u8 0, .int .u8 0], .bool false, .slice none 0 0], []⟩ 8 (by kernel_rfl) (by kernel_rfl) (by kernel_rfl) (by kernel_rfl)))

end Go.Proofs.Ytgjjepcjdekihaa
