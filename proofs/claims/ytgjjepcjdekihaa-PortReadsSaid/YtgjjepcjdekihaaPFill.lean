/-
  The contract of port.Fill.
-/
import Derived.Test.YtgjjepcjdekihaaPRight
namespace Go.Proofs.Ytgjjepcjdekihaa
open Go.RowKit Go.Lib

set_option maxRecDepth 100000 in
set_option maxHeartbeats 4000000 in
theorem fill_T (six : Bool) (a b : List UInt8) (ha : a.length = 16) (hb : b.length = 16) {A : Option Addr} {len cap : Nat} {xs : List UInt8} (hlen : len ≤ 60000) (hcap : len ≤ cap) (hcm : cap ≤ maxLen) (w : World) (hI : Rd w w.heap.size A len xs) (h0 : faultB false xs = 0) :
    Calls Try.prog 19 #[.agg (addrC six a), .agg (addrC six b), .int .i64 6, .slice A len cap] w fun e w' => ∃ v, e = .returned v ∧ Own8 w' w.heap.size v (fillS six a b false xs) ∧ Below w.heap.size w w' := by
  have HL := Lib.hid hI.len
  obtain ⟨t1, t2, t3⟩ := tot_ok h0
  rw [hI.len] at t3
  obtain ⟨k0, k1, hb0, hz⟩ := boxes w six a b
  obtain ⟨Z, hZ⟩ : ∃ Z : World, (w.alloc (.cells (addrC six a) 35)).alloc (.cells (addrC six b) 35) = Z := ⟨_, rfl⟩
  rw [hZ] at k0 k1 hb0 hz
  have HR := Lib.hid (read_any (A := A) (cap := cap) (xs := xs) 6 (by omega) hcap hcm Z ((hI.below hb0).more hb0.size))
  have hf0 : faultP 6 xs = 0 := h0
  have hpt : (rdP 6 xs).t = totN false xs := rdP_tot (u := false) h0
  rw [hf0] at HR
  have hP := pseudo_even six a b ha hb (prN false) (totN false xs)
  obtain ⟨pf1, pf2⟩ := put2_fault false xs 0
  obtain ⟨c, hc⟩ : ∃ c, ck0 six a b false xs = c := ⟨_, rfl⟩
  have hcl : c ≤ 65535 := by rw [← hc]; exact ckS_le _ _ _ _ _
  have HFI := Lib.hid (show fillS six a b false xs = put2 xs 16 (numS false c) by rw [← hc]; rfl)
  have hck : ckOf (pseudoOf six a b (prN false) (totN false xs) ++ (put2 xs 16 0).take (totN false xs)) = c := by rw [← hc]; unfold ck0 ckS segP; rw [pf2]; rfl
  have HCK := Lib.hid hck
  have HYL := Lib.hid (show (put2 xs 16 0).length = len by rw [put2_len]; exact hI.len)
  have hpl : 16 + 2 ≤ len := Nat.le_trans t1 t3
  have HPP := Lib.hid (fun m => put2_put2 xs 16 0 m)
  clear hck hc pf1 pf2
  generalize fillS six a b false xs = fs at *
  obtain ⟨ys, hys⟩ : ∃ ys, put2 xs 16 0 = ys := ⟨_, rfl⟩
  rw [hys] at HCK HYL HPP
  have HYS := Lib.hid hys
  clear hys
  obtain ⟨p, hp⟩ : ∃ p, rdP 6 xs = p := ⟨_, rfl⟩
  rw [hp] at HR hpt
  have HPT := Lib.hid hpt
  generalize totN false xs = T at *
  have HPS := Lib.hid (fun W => pseudo_any six a b ha hb (prN false) T (prN_lt _) (by omega) _ rfl W)
  rw [show ((prN false : Nat) : Int) = 6 from rfl] at HPS
  obtain ⟨X, hX⟩ : ∃ X, pseudoOf six a b (prN false) T = X := ⟨_, rfl⟩
  rw [hX] at hP HPS HCK
  obtain ⟨n, hn⟩ : ∃ n, X.length = n := ⟨_, rfl⟩
  rw [hn] at hP
  have HN := Lib.hid hn
  have hn0 : 0 < n := hP.2.1
  have hn40 : n ≤ 40 := hP.2.2
  have HTL : T ≤ len := t3
  have HZ := Lib.hid hZ
  have K0 := Lib.hid k0
  have K1 := Lib.hid k1
  have HB0 := Lib.hid hb0
  have HG := Lib.hid hz
  have HI := Lib.hid hI
  rw [← addrC_eq, ← addrC_eq] at HPS
  obtain ⟨C0, hC0⟩ : ∃ C, addrC six a = C := ⟨_, rfl⟩
  obtain ⟨C1, hC1⟩ : ∃ C, addrC six b = C := ⟨_, rfl⟩
  rw [hC0, hC1] at HZ HPS
  rw [hC0, hC1]
  have HC0 := Lib.hid hC0
  have HC1 := Lib.hid hC1
  clear hX hn hP hZ k0 k1 hb0 hz hp h0 hf0 hpt hI hC0 hC1
  go_enter Try.func19, Try.ntmps19
  go_wp2_with fail
  rw [HZ.out]
  refine HR.out.mono ?_
  rintro e w1 ⟨rfl, hb1⟩
  have HB1 := Lib.hid (HB0.out.trans (hb1.mono HB0.out.size))
  have g0 : w.heap.size < Z.heap.size := Nat.lt_of_succ_lt HG.out
  have K0b := Lib.hid (range_keep K0.out g0 hb1)
  have K1b := Lib.hid (range_keep K1.out HG.out hb1)
  have z1 := hb1.size
  clear hb1
  go_wp2_with ((with_reducible show wpList _ _ _ _ _ _); refine wpList_storeNew rfl _ _ rfl (by rfl) p (by rfl) ?_; intro w2 hp2 hb2 hz2; clear hz2; have HB2 := Lib.hid (HB1.out.trans (hb2.mono HB1.out.size)); have HP2 := Lib.hid hp2; have K0c := Lib.hid (range_keep K0b.out (Nat.lt_of_lt_of_le g0 z1) hb2); have K1c := Lib.hid (range_keep K1b.out (Nat.lt_of_lt_of_le HG.out z1) hb2); have z2 := hb2.size; have HG2 := Lib.hid hp2.lt; clear hp2 hb2)
  refine (clone_any A len cap xs (by omega) w2 ((HI.out.below HB2.out).more HB2.out.size) (Nat.le_refl _)).mono ?_
  rintro e w3 ⟨v3, rfl, ho3, hb3⟩
  obtain ⟨g, cg, rfl, hnc3, hcm3, hg3, hgl3, _⟩ := ho3.formG HL.out (by omega)
  have HB3 := Lib.hid (HB2.out.trans (hb3.mono HB2.out.size))
  have HO3 := Lib.hid ho3
  have K0d := Lib.hid (range_keep K0c.out (by omega) hb3)
  have K1d := Lib.hid (range_keep K1c.out (by have := HG.out; omega) hb3)
  have HP3 := Lib.hid (HP2.out.below HG2.out hb3)
  have z3 := hb3.size
  have HGG := Lib.hid hg3
  clear hb3 ho3
  go_wp2_with fail
  refine (place_any 6 _).mono ?_
  rintro e w' ⟨rfl, rfl⟩
  go_wp2_with fail
  refine (lay_any 0 (by omega) HO3.out HL.out 16 hpl _ _ rfl rfl).mono ?_
  rintro e w4 ⟨rfl, ho4, hb4⟩
  rw [HYS.out] at ho4
  have gg := HG.out
  have gp := HG2.out
  have HB4 := Lib.hid (HB3.out.trans (hb4.mono (Nat.le_trans HB2.out.size hg3)))
  have HO4 := Lib.hid ho4
  have K0e := Lib.hid (range_keep K0d.out (by omega) hb4)
  have K1e := Lib.hid (range_keep K1d.out (by omega) hb4)
  have HP4 := Lib.hid (HP3.out.below (by omega) hb4)
  have z4 := hb4.size
  have hrd4 : Rd w4 w4.heap.size (some ⟨g, 0, none⟩) len ys := by
    obtain ⟨g', c', e, _, _, _, _, h⟩ := ho4.formG HYL.out (by omega)
    cases e
    exact h
  have HGP := Lib.hid (show w1.heap.size < w4.heap.size by omega)
  have HT := Lib.hid (fun W (hB : Below w4.heap.size w4 W) => (hrd4.below hB).take HTL)
  have HCUT := Lib.hid (fun W => run_upto8 (some ⟨g, 0, none⟩) len cg T (T : Int) rfl (by omega) W)
  clear hb4 ho4 hrd4
  go_wp2_with fail
  have HC4 := Lib.hid (fun W (hW : Below w4.heap.size w4 W) => (HP4.out.below HGP.out hW).cell (i := 4) (v := .int .i64 (T : Int)) (by rw [← HPT.out]; rfl))
  refine wp_region_held_drew (S := fun W => Below w4.heap.size w4 W) (by kernel_rfl) ((Below.refl _ _).drew) (fun hHeld => ?_)
  refine wpAnyH_take (i := 0) (oi := ⟨some 27, _, _, _, _, _⟩) (v := .agg C0) rfl (by kernel_rfl) (by kernel_rfl) (by kernel_rfl) (fun _ _ _ h => h) (by rw [← HC0.out]; exact yields_loadA (by rfl) _ rfl w.heap.size (by rfl) six a ha (fun W hW => range_keep K0e.out (by omega) hW)) hHeld ?_
  simp only [Act.put, List.setIfInBounds_toArray, List.set_cons_zero, List.set_cons_succ]
  refine wpAnyH_take (i := 1) (oi := ⟨some 28, _, _, _, _, _⟩) (v := .agg C1) rfl (by kernel_rfl) (by kernel_rfl) (by kernel_rfl) (fun _ _ _ h => h) (by rw [← HC1.out]; exact yields_loadA (by rfl) _ rfl (w.heap.size + 1) (by rfl) six b hb (fun W hW => range_keep K1e.out (by omega) hW)) hHeld ?_
  simp only [Act.put, List.setIfInBounds_toArray, List.set_cons_zero, List.set_cons_succ]
  refine wpAnyH_take (i := 2) (oi := ⟨some 29, _, _, _, _, _⟩) (v := .int .i64 6) rfl (by kernel_rfl) (by kernel_rfl) (by kernel_rfl) (fun _ _ _ h => h) (Or.inl ⟨by rfl, fun _ _ => by go_simp⟩) hHeld ?_
  simp only [Act.put, List.setIfInBounds_toArray, List.set_cons_zero, List.set_cons_succ]
  refine wpAnyH_take (i := 3) (oi := ⟨some 30, _, _, _, _, _⟩) (v := .pointer (some ⟨w1.heap.size, 4, none⟩)) rfl (by kernel_rfl) (by kernel_rfl) (by kernel_rfl) (fun _ _ _ h => h) (Or.inl ⟨by rfl, fun _ _ => by go_simp⟩) hHeld ?_
  simp only [Act.put, List.setIfInBounds_toArray, List.set_cons_zero, List.set_cons_succ]
  refine wpAnyH_take (i := 4) (oi := ⟨some 31, _, _, _, _, _⟩) (v := .int .i64 (T : Int)) rfl (by kernel_rfl) (by kernel_rfl) (by kernel_rfl) (fun _ _ _ h => h) (Or.inl ⟨by rfl, fun W hW => by have hc := HC4.out W hW; go_simp⟩) hHeld ?_
  simp only [Act.put, List.setIfInBounds_toArray, List.set_cons_zero, List.set_cons_succ]
  refine wpAnyH_take (i := 6) (oi := ⟨some 33, _, _, _, _, _⟩) (v := .slice (some ⟨g, 0, none⟩) len cg) rfl (by kernel_rfl) (by kernel_rfl) (by kernel_rfl) (fun _ _ _ h => h) (Or.inl ⟨by rfl, fun _ _ => by go_simp⟩) hHeld ?_
  simp only [Act.put, List.setIfInBounds_toArray, List.set_cons_zero, List.set_cons_succ]
  refine wpAnyH_take (i := 7) (oi := ⟨some 34, _, _, _, _, _⟩) (v := .pointer (some ⟨w1.heap.size, 4, none⟩)) rfl (by kernel_rfl) (by kernel_rfl) (by kernel_rfl) (fun _ _ _ h => h) (Or.inl ⟨by rfl, fun _ _ => by go_simp⟩) hHeld ?_
  simp only [Act.put, List.setIfInBounds_toArray, List.set_cons_zero, List.set_cons_succ]
  refine wpAnyH_take (i := 8) (oi := ⟨some 35, _, _, _, _, _⟩) (v := .int .i64 (T : Int)) rfl (by kernel_rfl) (by kernel_rfl) (by kernel_rfl) (fun _ _ _ h => h) (Or.inl ⟨by rfl, fun W hW => by have hc := HC4.out W hW; go_simp⟩) hHeld ?_
  simp only [Act.put, List.setIfInBounds_toArray, List.set_cons_zero, List.set_cons_succ]
  refine wpAnyH_take (i := 9) (oi := ⟨some 36, _, _, _, _, _⟩) (v := .slice (some ⟨g, 0, none⟩) T cg) rfl (by kernel_rfl) (by kernel_rfl) (by kernel_rfl) (fun _ _ _ h => h) (Or.inl ⟨by rfl, fun W _ => by have hs := HCUT.out W; go_simp⟩) hHeld ?_
  simp only [Act.put, List.setIfInBounds_toArray, List.set_cons_zero, List.set_cons_succ]
  refine wpAnyH_ready (rs := [5]) (by kernel_rfl) (by simp) (AllReadyH.cons (o := ⟨some 32, _, _, _, _, _⟩) rfl (fun K hK => ?_) AllReadyH.nil)
  go_simp
  refine (HPS.out _).mono ?_
  rintro e w5 ⟨v5, rfl, ho5, hb5⟩
  obtain ⟨g5, c5, rfl, hnc, hcm5, hg5, hgl5, hrd5⟩ := ho5.formG HN.out hn0
  have HB5 := Lib.hid (hHeld.trans (hb5.mono hHeld.size))
  have HRD5 := Lib.hid hrd5
  refine hK.out _ _ (HB5.out) (fun hHeld => ?_)
  clear hK K ho5 hb5 hrd5
  refine wpAnyH_ready (rs := [10]) (by kernel_rfl) (by simp) (AllReadyH.cons (o := ⟨some 37, _, _, _, _, _⟩) rfl (fun K hK => ?_) AllReadyH.nil)
  go_simp
  refine hK.out _ _ (hHeld.alloc hHeld.size _) (fun hHeld => ?_)
  clear hK K 
  refine wpAnyH_ready (rs := [11]) (by kernel_rfl) (by simp) (AllReadyH.cons (o := ⟨some 38, _, _, _, _, _⟩) rfl (fun K hK => ?_) AllReadyH.nil)
  go_simp
  refine (sum_two (HRD5.out) hnc hcm5 ((HT.out _ HB5.out).more HB5.out.size) (by omega) hcm3 (by omega) c HCK.out).mono ?_
  rintro e w6 ⟨rfl, hb6⟩
  have HB6 := Lib.hid (HB5.out.trans (hb6.mono HB5.out.size))
  refine hK.out _ _ (HB6.out) (fun hHeld => ?_)
  clear hK K 
  refine wpAnyH_take (i := 12) (oi := ⟨some 12, _, _, _, _, _⟩) (v := .int .u16 (c : Int)) rfl (by kernel_rfl) (by kernel_rfl) (by kernel_rfl) (fun _ _ _ h => h) (Or.inl ⟨by rfl, fun _ _ => by go_simp⟩) hHeld ?_
  simp only [Act.put, List.setIfInBounds_toArray, List.set_cons_zero, List.set_cons_succ]
  refine wpAnyH_done (by kernel_rfl) ?_ _
  have HO6 := Lib.hid (HO4.out.below hHeld)
  have HB7 := Lib.hid (HB4.out.trans (hHeld.mono HB4.out.size))
  clear hHeld HB6
  have HNS : numS false c = c := if_neg (fun h => by cases h.1)
  go_wp2_with fail
  refine (place_any 6 _).mono ?_
  rintro e w' ⟨rfl, rfl⟩
  go_wp2_with fail
  refine (lay_any c (by omega) HO6.out HYL.out 16 hpl _ _ rfl rfl).mono ?_
  rintro e w8 ⟨rfl, ho8, hb8⟩
  rw [HPP.out] at ho8
  have HO8 := Lib.hid ho8
  have HB8 := Lib.hid (HB7.out.trans (hb8.mono (Nat.le_trans HB2.out.size hg3)))
  clear ho8 hb8
  go_wp2_with fail
  go_ret
  exact ⟨_, rfl, by rw [HFI.out, show numS false c = c from HNS]; exact HO8.out.base_le HB2.out.size, HB8.out⟩

set_option maxRecDepth 100000 in
set_option maxHeartbeats 4000000 in
theorem fill_U (six : Bool) (a b : List UInt8) (ha : a.length = 16) (hb : b.length = 16) {A : Option Addr} {len cap : Nat} {xs : List UInt8} (hlen : len ≤ 60000) (hcap : len ≤ cap) (hcm : cap ≤ maxLen) (w : World) (hI : Rd w w.heap.size A len xs) (h0 : faultB true xs = 0) :
    Calls Try.prog 19 #[.agg (addrC six a), .agg (addrC six b), .int .i64 17, .slice A len cap] w fun e w' => ∃ v, e = .returned v ∧ Own8 w' w.heap.size v (fillS six a b true xs) ∧ Below w.heap.size w w' := by
  have HL := Lib.hid hI.len
  obtain ⟨t1, t2, t3⟩ := tot_ok h0
  rw [hI.len] at t3
  obtain ⟨k0, k1, hb0, hz⟩ := boxes w six a b
  obtain ⟨Z, hZ⟩ : ∃ Z : World, (w.alloc (.cells (addrC six a) 35)).alloc (.cells (addrC six b) 35) = Z := ⟨_, rfl⟩
  rw [hZ] at k0 k1 hb0 hz
  have HR := Lib.hid (read_any (A := A) (cap := cap) (xs := xs) 17 (by omega) hcap hcm Z ((hI.below hb0).more hb0.size))
  have hf0 : faultP 17 xs = 0 := h0
  have hpt : (rdP 17 xs).t = totN true xs := rdP_tot (u := true) h0
  rw [hf0] at HR
  have hP := pseudo_even six a b ha hb (prN true) (totN true xs)
  obtain ⟨pf1, pf2⟩ := put2_fault true xs 0
  obtain ⟨c, hc⟩ : ∃ c, ck0 six a b true xs = c := ⟨_, rfl⟩
  have hcl : c ≤ 65535 := by rw [← hc]; exact ckS_le _ _ _ _ _
  have HFI := Lib.hid (show fillS six a b true xs = put2 xs 6 (numS true c) by rw [← hc]; rfl)
  have hck : ckOf (pseudoOf six a b (prN true) (totN true xs) ++ (put2 xs 6 0).take (totN true xs)) = c := by rw [← hc]; unfold ck0 ckS segP; rw [pf2]; rfl
  have HCK := Lib.hid hck
  have HYL := Lib.hid (show (put2 xs 6 0).length = len by rw [put2_len]; exact hI.len)
  have hpl : 6 + 2 ≤ len := Nat.le_trans t1 t3
  have HPP := Lib.hid (fun m => put2_put2 xs 6 0 m)
  clear hck hc pf1 pf2
  generalize fillS six a b true xs = fs at *
  obtain ⟨ys, hys⟩ : ∃ ys, put2 xs 6 0 = ys := ⟨_, rfl⟩
  rw [hys] at HCK HYL HPP
  have HYS := Lib.hid hys
  clear hys
  obtain ⟨p, hp⟩ : ∃ p, rdP 17 xs = p := ⟨_, rfl⟩
  rw [hp] at HR hpt
  have HPT := Lib.hid hpt
  generalize totN true xs = T at *
  have HPS := Lib.hid (fun W => pseudo_any six a b ha hb (prN true) T (prN_lt _) (by omega) _ rfl W)
  rw [show ((prN true : Nat) : Int) = 17 from rfl] at HPS
  obtain ⟨X, hX⟩ : ∃ X, pseudoOf six a b (prN true) T = X := ⟨_, rfl⟩
  rw [hX] at hP HPS HCK
  obtain ⟨n, hn⟩ : ∃ n, X.length = n := ⟨_, rfl⟩
  rw [hn] at hP
  have HN := Lib.hid hn
  have hn0 : 0 < n := hP.2.1
  have hn40 : n ≤ 40 := hP.2.2
  have HTL : T ≤ len := t3
  have HZ := Lib.hid hZ
  have K0 := Lib.hid k0
  have K1 := Lib.hid k1
  have HB0 := Lib.hid hb0
  have HG := Lib.hid hz
  have HI := Lib.hid hI
  rw [← addrC_eq, ← addrC_eq] at HPS
  obtain ⟨C0, hC0⟩ : ∃ C, addrC six a = C := ⟨_, rfl⟩
  obtain ⟨C1, hC1⟩ : ∃ C, addrC six b = C := ⟨_, rfl⟩
  rw [hC0, hC1] at HZ HPS
  rw [hC0, hC1]
  have HC0 := Lib.hid hC0
  have HC1 := Lib.hid hC1
  clear hX hn hP hZ k0 k1 hb0 hz hp h0 hf0 hpt hI hC0 hC1
  go_enter Try.func19, Try.ntmps19
  go_wp2_with fail
  rw [HZ.out]
  refine HR.out.mono ?_
  rintro e w1 ⟨rfl, hb1⟩
  have HB1 := Lib.hid (HB0.out.trans (hb1.mono HB0.out.size))
  have g0 : w.heap.size < Z.heap.size := Nat.lt_of_succ_lt HG.out
  have K0b := Lib.hid (range_keep K0.out g0 hb1)
  have K1b := Lib.hid (range_keep K1.out HG.out hb1)
  have z1 := hb1.size
  clear hb1
  go_wp2_with ((with_reducible show wpList _ _ _ _ _ _); refine wpList_storeNew rfl _ _ rfl (by rfl) p (by rfl) ?_; intro w2 hp2 hb2 hz2; clear hz2; have HB2 := Lib.hid (HB1.out.trans (hb2.mono HB1.out.size)); have HP2 := Lib.hid hp2; have K0c := Lib.hid (range_keep K0b.out (Nat.lt_of_lt_of_le g0 z1) hb2); have K1c := Lib.hid (range_keep K1b.out (Nat.lt_of_lt_of_le HG.out z1) hb2); have z2 := hb2.size; have HG2 := Lib.hid hp2.lt; clear hp2 hb2)
  refine (clone_any A len cap xs (by omega) w2 ((HI.out.below HB2.out).more HB2.out.size) (Nat.le_refl _)).mono ?_
  rintro e w3 ⟨v3, rfl, ho3, hb3⟩
  obtain ⟨g, cg, rfl, hnc3, hcm3, hg3, hgl3, _⟩ := ho3.formG HL.out (by omega)
  have HB3 := Lib.hid (HB2.out.trans (hb3.mono HB2.out.size))
  have HO3 := Lib.hid ho3
  have K0d := Lib.hid (range_keep K0c.out (by omega) hb3)
  have K1d := Lib.hid (range_keep K1c.out (by have := HG.out; omega) hb3)
  have HP3 := Lib.hid (HP2.out.below HG2.out hb3)
  have z3 := hb3.size
  have HGG := Lib.hid hg3
  clear hb3 ho3
  go_wp2_with fail
  refine (place_any 17 _).mono ?_
  rintro e w' ⟨rfl, rfl⟩
  go_wp2_with fail
  refine (lay_any 0 (by omega) HO3.out HL.out 6 hpl _ _ rfl rfl).mono ?_
  rintro e w4 ⟨rfl, ho4, hb4⟩
  rw [HYS.out] at ho4
  have gg := HG.out
  have gp := HG2.out
  have HB4 := Lib.hid (HB3.out.trans (hb4.mono (Nat.le_trans HB2.out.size hg3)))
  have HO4 := Lib.hid ho4
  have K0e := Lib.hid (range_keep K0d.out (by omega) hb4)
  have K1e := Lib.hid (range_keep K1d.out (by omega) hb4)
  have HP4 := Lib.hid (HP3.out.below (by omega) hb4)
  have z4 := hb4.size
  have hrd4 : Rd w4 w4.heap.size (some ⟨g, 0, none⟩) len ys := by
    obtain ⟨g', c', e, _, _, _, _, h⟩ := ho4.formG HYL.out (by omega)
    cases e
    exact h
  have HGP := Lib.hid (show w1.heap.size < w4.heap.size by omega)
  have HT := Lib.hid (fun W (hB : Below w4.heap.size w4 W) => (hrd4.below hB).take HTL)
  have HCUT := Lib.hid (fun W => run_upto8 (some ⟨g, 0, none⟩) len cg T (T : Int) rfl (by omega) W)
  clear hb4 ho4 hrd4
  go_wp2_with fail
  have HC4 := Lib.hid (fun W (hW : Below w4.heap.size w4 W) => (HP4.out.below HGP.out hW).cell (i := 4) (v := .int .i64 (T : Int)) (by rw [← HPT.out]; rfl))
  refine wp_region_held_drew (S := fun W => Below w4.heap.size w4 W) (by kernel_rfl) ((Below.refl _ _).drew) (fun hHeld => ?_)
  refine wpAnyH_take (i := 0) (oi := ⟨some 27, _, _, _, _, _⟩) (v := .agg C0) rfl (by kernel_rfl) (by kernel_rfl) (by kernel_rfl) (fun _ _ _ h => h) (by rw [← HC0.out]; exact yields_loadA (by rfl) _ rfl w.heap.size (by rfl) six a ha (fun W hW => range_keep K0e.out (by omega) hW)) hHeld ?_
  simp only [Act.put, List.setIfInBounds_toArray, List.set_cons_zero, List.set_cons_succ]
  refine wpAnyH_take (i := 1) (oi := ⟨some 28, _, _, _, _, _⟩) (v := .agg C1) rfl (by kernel_rfl) (by kernel_rfl) (by kernel_rfl) (fun _ _ _ h => h) (by rw [← HC1.out]; exact yields_loadA (by rfl) _ rfl (w.heap.size + 1) (by rfl) six b hb (fun W hW => range_keep K1e.out (by omega) hW)) hHeld ?_
  simp only [Act.put, List.setIfInBounds_toArray, List.set_cons_zero, List.set_cons_succ]
  refine wpAnyH_take (i := 2) (oi := ⟨some 29, _, _, _, _, _⟩) (v := .int .i64 17) rfl (by kernel_rfl) (by kernel_rfl) (by kernel_rfl) (fun _ _ _ h => h) (Or.inl ⟨by rfl, fun _ _ => by go_simp⟩) hHeld ?_
  simp only [Act.put, List.setIfInBounds_toArray, List.set_cons_zero, List.set_cons_succ]
  refine wpAnyH_take (i := 3) (oi := ⟨some 30, _, _, _, _, _⟩) (v := .pointer (some ⟨w1.heap.size, 4, none⟩)) rfl (by kernel_rfl) (by kernel_rfl) (by kernel_rfl) (fun _ _ _ h => h) (Or.inl ⟨by rfl, fun _ _ => by go_simp⟩) hHeld ?_
  simp only [Act.put, List.setIfInBounds_toArray, List.set_cons_zero, List.set_cons_succ]
  refine wpAnyH_take (i := 4) (oi := ⟨some 31, _, _, _, _, _⟩) (v := .int .i64 (T : Int)) rfl (by kernel_rfl) (by kernel_rfl) (by kernel_rfl) (fun _ _ _ h => h) (Or.inl ⟨by rfl, fun W hW => by have hc := HC4.out W hW; go_simp⟩) hHeld ?_
  simp only [Act.put, List.setIfInBounds_toArray, List.set_cons_zero, List.set_cons_succ]
  refine wpAnyH_take (i := 6) (oi := ⟨some 33, _, _, _, _, _⟩) (v := .slice (some ⟨g, 0, none⟩) len cg) rfl (by kernel_rfl) (by kernel_rfl) (by kernel_rfl) (fun _ _ _ h => h) (Or.inl ⟨by rfl, fun _ _ => by go_simp⟩) hHeld ?_
  simp only [Act.put, List.setIfInBounds_toArray, List.set_cons_zero, List.set_cons_succ]
  refine wpAnyH_take (i := 7) (oi := ⟨some 34, _, _, _, _, _⟩) (v := .pointer (some ⟨w1.heap.size, 4, none⟩)) rfl (by kernel_rfl) (by kernel_rfl) (by kernel_rfl) (fun _ _ _ h => h) (Or.inl ⟨by rfl, fun _ _ => by go_simp⟩) hHeld ?_
  simp only [Act.put, List.setIfInBounds_toArray, List.set_cons_zero, List.set_cons_succ]
  refine wpAnyH_take (i := 8) (oi := ⟨some 35, _, _, _, _, _⟩) (v := .int .i64 (T : Int)) rfl (by kernel_rfl) (by kernel_rfl) (by kernel_rfl) (fun _ _ _ h => h) (Or.inl ⟨by rfl, fun W hW => by have hc := HC4.out W hW; go_simp⟩) hHeld ?_
  simp only [Act.put, List.setIfInBounds_toArray, List.set_cons_zero, List.set_cons_succ]
  refine wpAnyH_take (i := 9) (oi := ⟨some 36, _, _, _, _, _⟩) (v := .slice (some ⟨g, 0, none⟩) T cg) rfl (by kernel_rfl) (by kernel_rfl) (by kernel_rfl) (fun _ _ _ h => h) (Or.inl ⟨by rfl, fun W _ => by have hs := HCUT.out W; go_simp⟩) hHeld ?_
  simp only [Act.put, List.setIfInBounds_toArray, List.set_cons_zero, List.set_cons_succ]
  refine wpAnyH_ready (rs := [5]) (by kernel_rfl) (by simp) (AllReadyH.cons (o := ⟨some 32, _, _, _, _, _⟩) rfl (fun K hK => ?_) AllReadyH.nil)
  go_simp
  refine (HPS.out _).mono ?_
  rintro e w5 ⟨v5, rfl, ho5, hb5⟩
  obtain ⟨g5, c5, rfl, hnc, hcm5, hg5, hgl5, hrd5⟩ := ho5.formG HN.out hn0
  have HB5 := Lib.hid (hHeld.trans (hb5.mono hHeld.size))
  have HRD5 := Lib.hid hrd5
  refine hK.out _ _ (HB5.out) (fun hHeld => ?_)
  clear hK K ho5 hb5 hrd5
  refine wpAnyH_ready (rs := [10]) (by kernel_rfl) (by simp) (AllReadyH.cons (o := ⟨some 37, _, _, _, _, _⟩) rfl (fun K hK => ?_) AllReadyH.nil)
  go_simp
  refine hK.out _ _ (hHeld.alloc hHeld.size _) (fun hHeld => ?_)
  clear hK K 
  refine wpAnyH_ready (rs := [11]) (by kernel_rfl) (by simp) (AllReadyH.cons (o := ⟨some 38, _, _, _, _, _⟩) rfl (fun K hK => ?_) AllReadyH.nil)
  go_simp
  refine (sum_two (HRD5.out) hnc hcm5 ((HT.out _ HB5.out).more HB5.out.size) (by omega) hcm3 (by omega) c HCK.out).mono ?_
  rintro e w6 ⟨rfl, hb6⟩
  have HB6 := Lib.hid (HB5.out.trans (hb6.mono HB5.out.size))
  refine hK.out _ _ (HB6.out) (fun hHeld => ?_)
  clear hK K 
  refine wpAnyH_take (i := 12) (oi := ⟨some 12, _, _, _, _, _⟩) (v := .int .u16 (c : Int)) rfl (by kernel_rfl) (by kernel_rfl) (by kernel_rfl) (fun _ _ _ h => h) (Or.inl ⟨by rfl, fun _ _ => by go_simp⟩) hHeld ?_
  simp only [Act.put, List.setIfInBounds_toArray, List.set_cons_zero, List.set_cons_succ]
  refine wpAnyH_done (by kernel_rfl) ?_ _
  have HO6 := Lib.hid (HO4.out.below hHeld)
  have HB7 := Lib.hid (HB4.out.trans (hHeld.mono HB4.out.size))
  clear hHeld HB6
  by_cases hc0 : c = 0
  · have HNS : numS true c = 65535 := if_pos ⟨rfl, hc0⟩
    have hq1 : ((c : Int) == 0) = true := by rw [hc0]; rfl
    have hq2 : (c == 0) = true := by rw [hc0]; rfl
    go_wp2_with fail
    refine (place_any 17 _).mono ?_
    rintro e w' ⟨rfl, rfl⟩
    go_wp2_with fail
    refine (lay_any 65535 (by omega) HO6.out HYL.out 6 hpl _ _ rfl rfl).mono ?_
    rintro e w8 ⟨rfl, ho8, hb8⟩
    rw [HPP.out] at ho8
    have HO8 := Lib.hid ho8
    have HB8 := Lib.hid (HB7.out.trans (hb8.mono (Nat.le_trans HB2.out.size hg3)))
    clear ho8 hb8
    go_wp2_with fail
    go_ret
    exact ⟨_, rfl, by rw [HFI.out, show numS true c = 65535 from HNS]; exact HO8.out.base_le HB2.out.size, HB8.out⟩
  · have HNS : numS true c = c := if_neg (fun h => hc0 h.2)
    have hq1 : ((c : Int) == 0) = false := beq_eq_false_iff_ne.2 (by omega)
    have hq2 : (c == 0) = false := beq_eq_false_iff_ne.2 hc0
    go_wp2_with fail
    refine (place_any 17 _).mono ?_
    rintro e w' ⟨rfl, rfl⟩
    go_wp2_with fail
    refine (lay_any c (by omega) HO6.out HYL.out 6 hpl _ _ rfl rfl).mono ?_
    rintro e w8 ⟨rfl, ho8, hb8⟩
    rw [HPP.out] at ho8
    have HO8 := Lib.hid ho8
    have HB8 := Lib.hid (HB7.out.trans (hb8.mono (Nat.le_trans HB2.out.size hg3)))
    clear ho8 hb8
    go_wp2_with fail
    go_ret
    exact ⟨_, rfl, by rw [HFI.out, show numS true c = c from HNS]; exact HO8.out.base_le HB2.out.size, HB8.out⟩

/-- port.Fill -/
theorem fill_any (six : Bool) (a b : List UInt8) (ha : a.length = 16) (hb : b.length = 16) {A : Option Addr} {len cap : Nat} {xs : List UInt8} (hlen : len ≤ 60000) (hcap : len ≤ cap) (hcm : cap ≤ maxLen) (w : World) (hI : Rd w w.heap.size A len xs) (u : Bool) (h0 : faultB u xs = 0) :
    Calls Try.prog 19 #[.agg (addrC six a), .agg (addrC six b), .int .i64 (prN u : Nat), .slice A len cap] w fun e w' => ∃ v, e = .returned v ∧ Own8 w' w.heap.size v (fillS six a b u xs) ∧ Below w.heap.size w w' := by
  cases u
  · exact fill_T six a b ha hb hlen hcap hcm w hI h0
  · exact fill_U six a b ha hb hlen hcap hcm w hI h0
end Go.Proofs.Ytgjjepcjdekihaa
