/-
  The document's Fill.
-/
import Derived.Test.YtgjjepcjdekihaaPRSums
namespace Go.Proofs.Ytgjjepcjdekihaa
open Go.RowKit Go.Lib

theorem rplace_6 (w : World) : Calls Try.prog 13 #[.int .i64 6] w fun e w' => e = .returned (.int .i64 16) ∧ w = w' := rplace_any 6 w
theorem rplace_17 (w : World) : Calls Try.prog 13 #[.int .i64 17] w fun e w' => e = .returned (.int .i64 6) ∧ w = w' := rplace_any 17 w
set_option maxRecDepth 100000 in
set_option maxHeartbeats 4000000 in
theorem rfill_T (six : Bool) (a b : List UInt8) (ha : a.length = 16) (hb : b.length = 16) {A : Option Addr} {len cap : Nat} {xs : List UInt8} (hlen : len ≤ 60000) (w : World) (hI : Rd w w.heap.size A len xs) (h0 : faultB false xs = 0) :
    Calls Try.prog 20 #[.agg (addrC six a), .agg (addrC six b), .int .i64 6, .slice A len cap] w fun e w' => ∃ v, e = .returned v ∧ Own8 w' w.heap.size v (fillS six a b false xs) ∧ Below w.heap.size w w' := by
  have HL := Lib.hid hI.len
  obtain ⟨t1, t2, t3⟩ := tot_ok h0
  rw [hI.len] at t3
  have hpl : 16 + 2 ≤ len := Nat.le_trans t1 t3
  obtain ⟨c, hc⟩ : ∃ c, ck0 six a b false xs = c := ⟨_, rfl⟩
  have hcl : c ≤ 65535 := by rw [← hc]; exact ckS_le _ _ _ _ _
  have HFI := Lib.hid (show fillS six a b false xs = put2 (put2 xs 16 0) 16 (numS false c) by rw [put2_put2, ← hc]; rfl)
  have HYL := Lib.hid (show (put2 xs 16 0).length = len by rw [put2_len]; exact hI.len)
  have HYS := Lib.hid (show (xs.set 16 0).set (16 + 1) 0 = put2 xs 16 0 from rfl)
  have HSUM := Lib.hid (fun (A : Option Addr) (cg : Nat) (hcg : len ≤ cg) W (hI : Rd W W.heap.size A len (put2 xs 16 0)) => rsumS_T six a b ha hb hlen hcg W hI ((put2_fault false xs 0).1.trans h0))
  rw [show ckS six a b false (put2 xs 16 0) = c from hc] at HSUM
  have HNS : numS false c = numS false c := rfl
  obtain ⟨k0, k1, hb0, hz⟩ := boxes w six a b
  obtain ⟨Z, hZ⟩ : ∃ Z : World, (w.alloc (.cells (addrC six a) 35)).alloc (.cells (addrC six b) 35) = Z := ⟨_, rfl⟩
  rw [hZ] at k0 k1 hb0 hz
  have hIZ : Rd (Z.alloc (.cells #[] 5)) Z.heap.size A len xs := ((hI.below hb0).more hb0.size).alloc (Nat.le_refl _) _
  have hsz : Z.heap.size = w.heap.size + 1 + 1 := by rw [← hZ]; simp
  have hE := empty8 (base := Z.heap.size) Z (Nat.le_refl _)
  conv at hE => arg 3; rw [hsz]
  have HE := Lib.hid hE
  clear hsz hE
  have HZ := Lib.hid hZ
  have K0 := Lib.hid k0
  have K1 := Lib.hid k1
  have HB0 := Lib.hid hb0
  have HG := Lib.hid hz
  have gg := HG.out
  have HIZ := Lib.hid hIZ
  obtain ⟨C0, hC0⟩ : ∃ C, addrC six a = C := ⟨_, rfl⟩
  obtain ⟨C1, hC1⟩ : ∃ C, addrC six b = C := ⟨_, rfl⟩
  rw [hC0, hC1] at HZ HSUM
  rw [hC0, hC1]
  have HC0 := Lib.hid hC0
  have HC1 := Lib.hid hC1
  obtain ⟨ys, hys⟩ : ∃ ys, put2 xs 16 0 = ys := ⟨_, rfl⟩
  rw [hys] at HFI HYL HYS HSUM
  obtain ⟨fs, hfs⟩ : ∃ fs, fillS six a b false xs = fs := ⟨_, rfl⟩
  rw [hfs] at HFI ⊢
  have L0 := Lib.hid (show (xs.set 16 0).length = len by rw [List.length_set]; exact HL.out)
  have hq0 : (16 : Int) < (len : Int) := by omega
  have hq1 : (17 : Int) < (len : Int) := by omega
  have hqN0 : 16 < len := by omega
  have hqN1 : 17 < len := by omega
  clear hZ k0 k1 hb0 hz h0 hI hIZ hC0 hC1 hys hfs hc HNS t1 t2 t3
  go_enter Try.func20, Try.ntmps20
  go_wp2_with (at_builtin; rw [HZ.out]; refine wpList_append8 (o := ⟨some 14, _, _, _, _, _⟩) rfl _ _ rfl Z.heap.size _ [] (by rfl) HE.out _ A len cap xs (by rfl) HIZ.out (by simp; omega) (by simp) ?_; intro v1 w1 ho1 hg1 _; rw [List.nil_append] at ho1; obtain ⟨g, cg, rfl, hnc, hcm, hgb, hgl, _⟩ := ho1.formG HL.out (by omega); have HO1 := Lib.hid ho1; have hbb := ((Below.refl _ Z).alloc (Nat.le_refl _) (.cells #[] 5)).grown hg1 (by simp) HE.out.lt; have HBZ := Lib.hid hbb; clear ho1 hg1 hbb)
  refine (rplace_6 _).mono ?_
  rintro e w' ⟨rfl, rfl⟩
  go_wp2_with (first
    | ((with_reducible show wpList _ _ _ _ _ _); refine wpList_storeO rfl (.tmp 19) _ rfl g 16 (by rfl) (0 : UInt8) 0 (by rfl) (by rfl) xs len cg Z.heap.size HL.out HO1.out hqN0 ?_; intro w2 ho2 hb2; have HO2 := Lib.hid ho2; have HBZ2 := Lib.hid (HBZ.out.trans (hb2.mono hgb)); clear ho2 hb2)
    | ((with_reducible show wpList _ _ _ _ _ _); refine wpList_storeO rfl (.tmp 23) _ rfl g 17 (by rfl) (0 : UInt8) 0 (by rfl) (by rfl) (xs.set 16 0) len cg Z.heap.size L0.out HO2.out hqN1 ?_; intro w3 ho3 hb3; rw [HYS.out] at ho3; have HO3 := Lib.hid ho3; have HBZ3 := Lib.hid (HBZ2.out.trans (hb3.mono hgb)); have K0c := Lib.hid (range_keep K0.out (Nat.lt_of_succ_lt HG.out) HBZ3.out); have K1c := Lib.hid (range_keep K1.out HG.out HBZ3.out); clear ho3 hb3)
    | ((with_reducible show wpList _ _ _ _ _ _); refine wpList_loadC (op := ⟨some 24, _, _, _, _, _⟩) _ rfl (by rfl) w.heap.size (by rfl) six a ha K0c.out C0 HC0.out ?_)
    | ((with_reducible show wpList _ _ _ _ _ _); refine wpList_loadC (op := ⟨some 25, _, _, _, _, _⟩) _ rfl (by rfl) (w.heap.size + 1) (by rfl) six b hb K1c.out C1 HC1.out ?_))
  have hrd3 : Rd w3 w3.heap.size (some ⟨g, 0, none⟩) len ys := by
    obtain ⟨g', c', e, _, _, _, _, h⟩ := HO3.out.formG HYL.out (by omega)
    cases e
    exact h
  refine (HSUM.out _ cg hnc w3 hrd3).mono ?_
  rintro e w4 ⟨rfl, hb4⟩
  have HO4 := Lib.hid (HO3.out.below hb4)
  have HBZ4 := Lib.hid (HBZ3.out.trans (hb4.mono HBZ3.out.size))
  clear hb4 hrd3
  have HNS := Lib.hid (show numS false c = c from if_neg (fun h => by cases h.1))
  by_cases hc0 : c = 0
  · subst hc0
    have HHI := Lib.hid (show (0 : Int) = ((UInt8.ofNat (0 / 256)).toNat : Int) from rfl)
    have HLO := Lib.hid (show (0 : Int) = ((UInt8.ofNat (0 % 256)).toNat : Int) from rfl)
    have LH := Lib.hid (show (ys.set 16 (UInt8.ofNat (0 / 256))).length = len by rw [List.length_set]; exact HYL.out)
    have HV := Lib.hid (show put2 ys 16 0 = (ys.set 16 (UInt8.ofNat (0 / 256))).set (16 + 1) (UInt8.ofNat (0 % 256)) from rfl)
    go_wp2_with (first
      | ((with_reducible show wpList _ _ _ _ _ _); refine wpList_storeO rfl (.tmp 40) _ rfl g 16 (by rfl) (UInt8.ofNat (0 / 256)) (0) HHI.out (by rfl) ys len cg Z.heap.size HYL.out HO4.out hqN0 ?_; intro w5 ho5 hb5; have HO5 := Lib.hid ho5; have HBZ5 := Lib.hid (HBZ4.out.trans (hb5.mono hgb)); clear ho5 hb5)
      | ((with_reducible show wpList _ _ _ _ _ _); refine wpList_storeO rfl (.tmp 47) _ rfl g 17 (by rfl) (UInt8.ofNat (0 % 256)) (0) HLO.out (by rfl) (ys.set 16 (UInt8.ofNat (0 / 256))) len cg Z.heap.size LH.out HO5.out hqN1 ?_; intro w6 ho6 hb6; have HO6 := Lib.hid ho6; have HBZ6 := Lib.hid (HBZ5.out.trans (hb6.mono hgb)); clear ho6 hb6))
    go_ret
    exact ⟨_, rfl, by rw [HFI.out, HNS.out, HV.out]; exact HO6.out.base_le HB0.out.size, HB0.out.trans (HBZ6.out.mono HB0.out.size)⟩
  · have hcc := hc0
    have hc1 : ((c : Int) == 0) = false := beq_eq_false_iff_ne.2 (by omega)
    have hc2 : (c == 0) = false := beq_eq_false_iff_ne.2 hc0
    have HHI := Lib.hid (show (c : Int) / 256 = ((UInt8.ofNat (c / 256)).toNat : Int) by rw [u8nat (by omega)]; rfl)
    have HLO := Lib.hid (show (c : Int) % 256 = ((UInt8.ofNat (c % 256)).toNat : Int) by rw [u8nat (by omega)]; rfl)
    have hw1 : IntKind.i64.wrap ((c : Int) / 256) = (c : Int) / 256 := by rw [IntKind.wrap_i64]; omega
    have hw2 : IntKind.u8.wrap ((c : Int) / 256) = (c : Int) / 256 := by rw [IntKind.wrap_u8]; omega
    have hw3 : IntKind.i64.wrap ((c : Int) % 256) = (c : Int) % 256 := by rw [IntKind.wrap_i64]; omega
    have hw4 : IntKind.u8.wrap ((c : Int) % 256) = (c : Int) % 256 := by rw [IntKind.wrap_u8]; omega
    have ht1 : Int.tdiv (c : Int) 256 = (c : Int) / 256 := Int.tdiv_eq_ediv_of_nonneg (by omega)
    have ht2 : Int.tmod (c : Int) 256 = (c : Int) % 256 := Int.tmod_eq_emod_of_nonneg (by omega)
    have LH := Lib.hid (show (ys.set 16 (UInt8.ofNat (c / 256))).length = len by rw [List.length_set]; exact HYL.out)
    have HV := Lib.hid (show put2 ys 16 c = (ys.set 16 (UInt8.ofNat (c / 256))).set (16 + 1) (UInt8.ofNat (c % 256)) from rfl)
    go_wp2_with (first
      | ((with_reducible show wpList _ _ _ _ _ _); refine wpList_storeO rfl (.tmp 40) _ rfl g 16 (by rfl) (UInt8.ofNat (c / 256)) ((c : Int) / 256) HHI.out (by rfl) ys len cg Z.heap.size HYL.out HO4.out hqN0 ?_; intro w5 ho5 hb5; have HO5 := Lib.hid ho5; have HBZ5 := Lib.hid (HBZ4.out.trans (hb5.mono hgb)); clear ho5 hb5)
      | ((with_reducible show wpList _ _ _ _ _ _); refine wpList_storeO rfl (.tmp 47) _ rfl g 17 (by rfl) (UInt8.ofNat (c % 256)) ((c : Int) % 256) HLO.out (by rfl) (ys.set 16 (UInt8.ofNat (c / 256))) len cg Z.heap.size LH.out HO5.out hqN1 ?_; intro w6 ho6 hb6; have HO6 := Lib.hid ho6; have HBZ6 := Lib.hid (HBZ5.out.trans (hb6.mono hgb)); clear ho6 hb6))
    go_ret
    exact ⟨_, rfl, by rw [HFI.out, HNS.out, HV.out]; exact HO6.out.base_le HB0.out.size, HB0.out.trans (HBZ6.out.mono HB0.out.size)⟩

set_option maxRecDepth 100000 in
set_option maxHeartbeats 4000000 in
theorem rfill_U (six : Bool) (a b : List UInt8) (ha : a.length = 16) (hb : b.length = 16) {A : Option Addr} {len cap : Nat} {xs : List UInt8} (hlen : len ≤ 60000) (w : World) (hI : Rd w w.heap.size A len xs) (h0 : faultB true xs = 0) :
    Calls Try.prog 20 #[.agg (addrC six a), .agg (addrC six b), .int .i64 17, .slice A len cap] w fun e w' => ∃ v, e = .returned v ∧ Own8 w' w.heap.size v (fillS six a b true xs) ∧ Below w.heap.size w w' := by
  have HL := Lib.hid hI.len
  obtain ⟨t1, t2, t3⟩ := tot_ok h0
  rw [hI.len] at t3
  have hpl : 6 + 2 ≤ len := Nat.le_trans t1 t3
  obtain ⟨c, hc⟩ : ∃ c, ck0 six a b true xs = c := ⟨_, rfl⟩
  have hcl : c ≤ 65535 := by rw [← hc]; exact ckS_le _ _ _ _ _
  have HFI := Lib.hid (show fillS six a b true xs = put2 (put2 xs 6 0) 6 (numS true c) by rw [put2_put2, ← hc]; rfl)
  have HYL := Lib.hid (show (put2 xs 6 0).length = len by rw [put2_len]; exact hI.len)
  have HYS := Lib.hid (show (xs.set 6 0).set (6 + 1) 0 = put2 xs 6 0 from rfl)
  have HSUM := Lib.hid (fun (A : Option Addr) (cg : Nat) (hcg : len ≤ cg) W (hI : Rd W W.heap.size A len (put2 xs 6 0)) => rsumS_U six a b ha hb hlen hcg W hI ((put2_fault true xs 0).1.trans h0))
  rw [show ckS six a b true (put2 xs 6 0) = c from hc] at HSUM
  have HNS : numS true c = numS true c := rfl
  obtain ⟨k0, k1, hb0, hz⟩ := boxes w six a b
  obtain ⟨Z, hZ⟩ : ∃ Z : World, (w.alloc (.cells (addrC six a) 35)).alloc (.cells (addrC six b) 35) = Z := ⟨_, rfl⟩
  rw [hZ] at k0 k1 hb0 hz
  have hIZ : Rd (Z.alloc (.cells #[] 5)) Z.heap.size A len xs := ((hI.below hb0).more hb0.size).alloc (Nat.le_refl _) _
  have hsz : Z.heap.size = w.heap.size + 1 + 1 := by rw [← hZ]; simp
  have hE := empty8 (base := Z.heap.size) Z (Nat.le_refl _)
  conv at hE => arg 3; rw [hsz]
  have HE := Lib.hid hE
  clear hsz hE
  have HZ := Lib.hid hZ
  have K0 := Lib.hid k0
  have K1 := Lib.hid k1
  have HB0 := Lib.hid hb0
  have HG := Lib.hid hz
  have gg := HG.out
  have HIZ := Lib.hid hIZ
  obtain ⟨C0, hC0⟩ : ∃ C, addrC six a = C := ⟨_, rfl⟩
  obtain ⟨C1, hC1⟩ : ∃ C, addrC six b = C := ⟨_, rfl⟩
  rw [hC0, hC1] at HZ HSUM
  rw [hC0, hC1]
  have HC0 := Lib.hid hC0
  have HC1 := Lib.hid hC1
  obtain ⟨ys, hys⟩ : ∃ ys, put2 xs 6 0 = ys := ⟨_, rfl⟩
  rw [hys] at HFI HYL HYS HSUM
  obtain ⟨fs, hfs⟩ : ∃ fs, fillS six a b true xs = fs := ⟨_, rfl⟩
  rw [hfs] at HFI ⊢
  have L0 := Lib.hid (show (xs.set 6 0).length = len by rw [List.length_set]; exact HL.out)
  have hq0 : (6 : Int) < (len : Int) := by omega
  have hq1 : (7 : Int) < (len : Int) := by omega
  have hqN0 : 6 < len := by omega
  have hqN1 : 7 < len := by omega
  clear hZ k0 k1 hb0 hz h0 hI hIZ hC0 hC1 hys hfs hc HNS t1 t2 t3
  go_enter Try.func20, Try.ntmps20
  go_wp2_with (at_builtin; rw [HZ.out]; refine wpList_append8 (o := ⟨some 14, _, _, _, _, _⟩) rfl _ _ rfl Z.heap.size _ [] (by rfl) HE.out _ A len cap xs (by rfl) HIZ.out (by simp; omega) (by simp) ?_; intro v1 w1 ho1 hg1 _; rw [List.nil_append] at ho1; obtain ⟨g, cg, rfl, hnc, hcm, hgb, hgl, _⟩ := ho1.formG HL.out (by omega); have HO1 := Lib.hid ho1; have hbb := ((Below.refl _ Z).alloc (Nat.le_refl _) (.cells #[] 5)).grown hg1 (by simp) HE.out.lt; have HBZ := Lib.hid hbb; clear ho1 hg1 hbb)
  refine (rplace_17 _).mono ?_
  rintro e w' ⟨rfl, rfl⟩
  go_wp2_with (first
    | ((with_reducible show wpList _ _ _ _ _ _); refine wpList_storeO rfl (.tmp 19) _ rfl g 6 (by rfl) (0 : UInt8) 0 (by rfl) (by rfl) xs len cg Z.heap.size HL.out HO1.out hqN0 ?_; intro w2 ho2 hb2; have HO2 := Lib.hid ho2; have HBZ2 := Lib.hid (HBZ.out.trans (hb2.mono hgb)); clear ho2 hb2)
    | ((with_reducible show wpList _ _ _ _ _ _); refine wpList_storeO rfl (.tmp 23) _ rfl g 7 (by rfl) (0 : UInt8) 0 (by rfl) (by rfl) (xs.set 6 0) len cg Z.heap.size L0.out HO2.out hqN1 ?_; intro w3 ho3 hb3; rw [HYS.out] at ho3; have HO3 := Lib.hid ho3; have HBZ3 := Lib.hid (HBZ2.out.trans (hb3.mono hgb)); have K0c := Lib.hid (range_keep K0.out (Nat.lt_of_succ_lt HG.out) HBZ3.out); have K1c := Lib.hid (range_keep K1.out HG.out HBZ3.out); clear ho3 hb3)
    | ((with_reducible show wpList _ _ _ _ _ _); refine wpList_loadC (op := ⟨some 24, _, _, _, _, _⟩) _ rfl (by rfl) w.heap.size (by rfl) six a ha K0c.out C0 HC0.out ?_)
    | ((with_reducible show wpList _ _ _ _ _ _); refine wpList_loadC (op := ⟨some 25, _, _, _, _, _⟩) _ rfl (by rfl) (w.heap.size + 1) (by rfl) six b hb K1c.out C1 HC1.out ?_))
  have hrd3 : Rd w3 w3.heap.size (some ⟨g, 0, none⟩) len ys := by
    obtain ⟨g', c', e, _, _, _, _, h⟩ := HO3.out.formG HYL.out (by omega)
    cases e
    exact h
  refine (HSUM.out _ cg hnc w3 hrd3).mono ?_
  rintro e w4 ⟨rfl, hb4⟩
  have HO4 := Lib.hid (HO3.out.below hb4)
  have HBZ4 := Lib.hid (HBZ3.out.trans (hb4.mono HBZ3.out.size))
  clear hb4 hrd3
  by_cases hc0 : c = 0
  · have HNS := Lib.hid (show numS true c = 65535 from if_pos ⟨rfl, hc0⟩)
    subst hc0
    have HHI := Lib.hid (show (255 : Int) = ((UInt8.ofNat (65535 / 256)).toNat : Int) from rfl)
    have HLO := Lib.hid (show (255 : Int) = ((UInt8.ofNat (65535 % 256)).toNat : Int) from rfl)
    have LH := Lib.hid (show (ys.set 6 (UInt8.ofNat (65535 / 256))).length = len by rw [List.length_set]; exact HYL.out)
    have HV := Lib.hid (show put2 ys 6 65535 = (ys.set 6 (UInt8.ofNat (65535 / 256))).set (6 + 1) (UInt8.ofNat (65535 % 256)) from rfl)
    go_wp2_with (first
      | ((with_reducible show wpList _ _ _ _ _ _); refine wpList_storeO rfl (.tmp 40) _ rfl g 6 (by rfl) (UInt8.ofNat (65535 / 256)) (255) HHI.out (by rfl) ys len cg Z.heap.size HYL.out HO4.out hqN0 ?_; intro w5 ho5 hb5; have HO5 := Lib.hid ho5; have HBZ5 := Lib.hid (HBZ4.out.trans (hb5.mono hgb)); clear ho5 hb5)
      | ((with_reducible show wpList _ _ _ _ _ _); refine wpList_storeO rfl (.tmp 47) _ rfl g 7 (by rfl) (UInt8.ofNat (65535 % 256)) (255) HLO.out (by rfl) (ys.set 6 (UInt8.ofNat (65535 / 256))) len cg Z.heap.size LH.out HO5.out hqN1 ?_; intro w6 ho6 hb6; have HO6 := Lib.hid ho6; have HBZ6 := Lib.hid (HBZ5.out.trans (hb6.mono hgb)); clear ho6 hb6))
    go_ret
    exact ⟨_, rfl, by rw [HFI.out, HNS.out, HV.out]; exact HO6.out.base_le HB0.out.size, HB0.out.trans (HBZ6.out.mono HB0.out.size)⟩
  · have HNS := Lib.hid (show numS true c = c from if_neg (fun h => hc0 h.2))
    have hc1 : ((c : Int) == 0) = false := beq_eq_false_iff_ne.2 (by omega)
    have hc2 : (c == 0) = false := beq_eq_false_iff_ne.2 hc0
    have HHI := Lib.hid (show (c : Int) / 256 = ((UInt8.ofNat (c / 256)).toNat : Int) by rw [u8nat (by omega)]; rfl)
    have HLO := Lib.hid (show (c : Int) % 256 = ((UInt8.ofNat (c % 256)).toNat : Int) by rw [u8nat (by omega)]; rfl)
    have hw1 : IntKind.i64.wrap ((c : Int) / 256) = (c : Int) / 256 := by rw [IntKind.wrap_i64]; omega
    have hw2 : IntKind.u8.wrap ((c : Int) / 256) = (c : Int) / 256 := by rw [IntKind.wrap_u8]; omega
    have hw3 : IntKind.i64.wrap ((c : Int) % 256) = (c : Int) % 256 := by rw [IntKind.wrap_i64]; omega
    have hw4 : IntKind.u8.wrap ((c : Int) % 256) = (c : Int) % 256 := by rw [IntKind.wrap_u8]; omega
    have ht1 : Int.tdiv (c : Int) 256 = (c : Int) / 256 := Int.tdiv_eq_ediv_of_nonneg (by omega)
    have ht2 : Int.tmod (c : Int) 256 = (c : Int) % 256 := Int.tmod_eq_emod_of_nonneg (by omega)
    have LH := Lib.hid (show (ys.set 6 (UInt8.ofNat (c / 256))).length = len by rw [List.length_set]; exact HYL.out)
    have HV := Lib.hid (show put2 ys 6 c = (ys.set 6 (UInt8.ofNat (c / 256))).set (6 + 1) (UInt8.ofNat (c % 256)) from rfl)
    go_wp2_with (first
      | ((with_reducible show wpList _ _ _ _ _ _); refine wpList_storeO rfl (.tmp 40) _ rfl g 6 (by rfl) (UInt8.ofNat (c / 256)) ((c : Int) / 256) HHI.out (by rfl) ys len cg Z.heap.size HYL.out HO4.out hqN0 ?_; intro w5 ho5 hb5; have HO5 := Lib.hid ho5; have HBZ5 := Lib.hid (HBZ4.out.trans (hb5.mono hgb)); clear ho5 hb5)
      | ((with_reducible show wpList _ _ _ _ _ _); refine wpList_storeO rfl (.tmp 47) _ rfl g 7 (by rfl) (UInt8.ofNat (c % 256)) ((c : Int) % 256) HLO.out (by rfl) (ys.set 6 (UInt8.ofNat (c / 256))) len cg Z.heap.size LH.out HO5.out hqN1 ?_; intro w6 ho6 hb6; have HO6 := Lib.hid ho6; have HBZ6 := Lib.hid (HBZ5.out.trans (hb6.mono hgb)); clear ho6 hb6))
    go_ret
    exact ⟨_, rfl, by rw [HFI.out, HNS.out, HV.out]; exact HO6.out.base_le HB0.out.size, HB0.out.trans (HBZ6.out.mono HB0.out.size)⟩

/-- The document's Fill. -/
theorem rfill_any (six : Bool) (a b : List UInt8) (ha : a.length = 16) (hb : b.length = 16) {A : Option Addr} {len cap : Nat} {xs : List UInt8} (hlen : len ≤ 60000) (w : World) (hI : Rd w w.heap.size A len xs) (u : Bool) (h0 : faultB u xs = 0) :
    Calls Try.prog 20 #[.agg (addrC six a), .agg (addrC six b), .int .i64 (prN u : Nat), .slice A len cap] w fun e w' => ∃ v, e = .returned v ∧ Own8 w' w.heap.size v (fillS six a b u xs) ∧ Below w.heap.size w w' := by
  cases u
  · exact rfill_T six a b ha hb hlen w hI h0
  · exact rfill_U six a b ha hb hlen w hI h0
end Go.Proofs.Ytgjjepcjdekihaa
