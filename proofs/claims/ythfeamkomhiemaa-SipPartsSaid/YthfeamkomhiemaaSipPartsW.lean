/-
  SipParts: its walk, the program's contracts a premise.
-/
import Derived.Test.YthfeamkomhiemaaHAwake
import Derived.Deep.DeepCutAuto
namespace Go.Proofs.Ythfeamkomhiemaa
set_option maxRecDepth 100000
open Go.RowKit Go.Lib Go.ChangeShapes Go.WideShapes Go.ChangeAt

theorem flat3 (bs : List UInt8) (m n : Nat) (h : m ≤ n) : [bs.take m, (bs.drop m).take (n - m), bs.drop n].flatten = bs := by
  simp only [List.flatten_cons, List.flatten_nil, List.append_nil]
  rw [show bs.drop n = (bs.drop m).drop (n - m) by rw [List.drop_drop, show m + (n - m) = n by omega], List.take_append_drop, List.take_append_drop]
theorem flat4 (bs : List UInt8) (n : Nat) : [[], bs.take n, [], bs.drop n].flatten = bs := by simp
set_option maxHeartbeats 16000000 in
theorem sipParts_walkW (S : SipC) (key : List UInt8) (hk : key.length = 16) (A : Option Addr) (len cap : Nat) (bs : List UInt8) (hca : len ≤ cap) (hma : cap ≤ maxLen) (i : Nat) (hi : i < 65536) (k : Nat) (hk2 : k < 65536) (w : World) (hI : Rd w w.heap.size A len bs) :
    Calls Try.prog 4 #[keyC key, .slice A len cap, .int .u16 (i : Int), .int .u16 (k : Int)] w fun e w' => e = .returned (.bool true) ∧ Below w.heap.size w w' := by
  have HIL := Lib.hid hI.len
  obtain ⟨C0, hC0⟩ : ∃ C, (key.map v8).toArray = C := ⟨_, rfl⟩
  obtain ⟨Y, hY⟩ : ∃ Y, w.alloc (.cells C0 22) = Y := ⟨_, rfl⟩
  have HK0 := Lib.hid (show Blk Y 22 w.heap.size (key.map v8) by rw [← hY, ← hC0]; exact Blk_10.new w _ _)
  have HB0 := Lib.hid (show Below w.heap.size w Y by rw [← hY]; exact (Below.refl w.heap.size w).alloc (Nat.le_refl _) _)
  have HY := Lib.hid hY
  have HKE : Hid (keyC key = .agg C0) := Lib.hid (by rw [← hC0]; rfl)
  rw [HKE.out]
  have HKL := Lib.hid hk
  clear hY hC0 hk
  have HI := Lib.hid hI
  have HCA := Lib.hid hca
  have HMA := Lib.hid hma
  clear hI
  obtain ⟨hv, hhv⟩ : ∃ h, hashW key bs = h := ⟨_, rfl⟩
  have HHV := Lib.hid hhv
  clear hhv
  go_enter Try.func4, Try.ntmps4
  go_wp2_with fail
  rw [HY.out]
  refine (awake_any S _).mono ?_
  rintro e w1 ⟨rfl, hb1⟩
  have HB1 := Lib.hid (HB0.out.trans (hb1.mono HB0.out.size))
  have HK1 := Lib.hid (Blk_10.below HK0.out (Blk_10.lt HK0.out) hb1)
  clear hb1
  by_cases hn : 1000 < len
  · have hn' : (1000 : Int) < (len : Int) := by omega
    have hnb : decide ((1000 : Int) < (len : Int)) = true := decide_eq_true hn'
    clear hn
    go_wp2_with fail
    refine (awake_any S _).mono ?_
    rintro e w2 ⟨rfl, hb2⟩
    go_wp2_with fail
    go_ret
    exact ⟨rfl, HB1.out.trans (hb2.mono HB1.out.size)⟩
  · have hn' : ¬ (1000 : Int) < (len : Int) := by omega
    have hnb : decide ((1000 : Int) < (len : Int)) = false := decide_eq_false hn'
    have HN1 := Lib.hid (show len ≤ 1000 by omega)
    clear hn
    obtain ⟨m, hm⟩ : ∃ m, i % (len + 1) = m := ⟨_, rfl⟩
    obtain ⟨n, hn⟩ : ∃ n, m + k % (len - m + 1) = n := ⟨_, rfl⟩
    have hm1 : m ≤ len := by rw [← hm]; exact Nat.le_of_lt_succ (Nat.mod_lt _ (Nat.succ_pos _))
    have hn1 : n ≤ len := by
      have := Nat.mod_lt k (show 0 < len - m + 1 by omega)
      omega
    have hmn : m ≤ n := by omega
    have em : (i : Int) % ((len : Int) + 1) = (m : Int) := by rw [← hm]; norm_cast
    have en : (m : Int) + (k : Int) % ((len : Int) - (m : Int) + 1) = (n : Int) := by
      rw [← hn, Int.natCast_add, Int.natCast_emod, Int.natCast_add, Int.natCast_sub hm1]
      rfl
    have HMN := Lib.hid hmn
    have HN2 := Lib.hid hn1
    have hcm1 := fun W => run_upto8 A len cap m (m : Int) rfl (Nat.le_trans hm1 hca) W
    have hcm2 := fun W => run_cut8 A len cap m (n - m) (m : Int) (n : Int) rfl (by omega) (by omega) W
    have hcm3 := fun W => run_from8 A len cap n hn1 W
    have hcm4 := fun W => run_upto8 A len cap n (n : Int) rfl (Nat.le_trans hn1 hca) W
    have HM2 := Lib.hid hm1
    clear hm hn
    have hl3 := HN1.out
    go_upto_region 4 with (fail)
    rw [em]
    clear em
    go_upto_region 5 with (fail)
    clear en hmn hn1 hm1 hl3 hi hk2
    have HB11 := Lib.hid (Below.refl w1.heap.size w1)
    go_wp2_with (first
      | ((with_reducible show wpList _ _ _ (⟨some 36, _, _, _, _, _⟩ :: _) _ _); refine wpList_loadM (op := ⟨some 36, _, _, _, _, _⟩) 22 _ rfl (by rfl) w.heap.size 0 (by rfl) (key.map v8) (Blk_10.range HK1.out) _ Try.underlying22 rfl (key_size HKL.out) ?_))
    obtain ⟨X, hX⟩ : ∃ X, w1.alloc (.cells #[.slice A len cap] 23) = X := ⟨_, rfl⟩
    have hs := World.size_alloc w1 (.cells #[.slice A len cap] 23)
    have HL0 := Lib.hid (LsAt.one (w := w1) (B := w1.heap.size) (n := len) (c := cap) ((HI.out.below HB1.out).more HB1.out.size) (Nat.le_refl _) HCA.out HMA.out)
    have HX := Lib.hid ((Below.refl w1.heap.size w1).alloc (Nat.le_refl _) (.cells #[.slice A len cap] 23))
    rw [hX] at HX HL0 hs ⊢
    rw [← hs] at HL0
    clear hs hX
    have hc := S.of key HKL.out (some ⟨w1.heap.size, 0, none⟩) 1 1 [bs] (by decide) (by rw [flat_one, HIL.out]; have := HN1.out; omega) X X.heap.size HL0.out (Nat.le_refl _)
    rw [flat_one, HHV.out] at hc
    refine hc.mono ?_
    clear hc
    rintro e w2 ⟨rfl, hb⟩
    have HB2 := Lib.hid (HX.out.trans (hb.mono HX.out.size))
    have HB3 := Lib.hid (HB1.out.trans (HB2.out.mono HB1.out.size))
    have HK2 := Lib.hid (Blk_10.below HK1.out (Blk_10.lt HK1.out) HB2.out)
    have hca2 := HCA.out
    clear hb HX HL0 HB11
    go_wp2_with fail
    have HE0 : Hid (∀ W : World, Calls Try.prog 9 #[keyC key, .slice none 0 0] W fun e w' => e = .returned (.int .u64 (hashW key [] : Nat)) ∧ Below W.heap.size W w') := Lib.hid (fun W => S.of key HKL.out none 0 0 [] (by decide) (by decide) W W.heap.size (LsAt.nil_ none) (Nat.le_refl _))
    have HE1 : Hid (∀ (g : Nat) (W : World), LsAt W W.heap.size (some ⟨g, 0, none⟩) 1 [[]] → Calls Try.prog 9 #[keyC key, .slice (some ⟨g, 0, none⟩) 1 1] W fun e w' => e = .returned (.int .u64 (hashW key [] : Nat)) ∧ Below W.heap.size W w') := Lib.hid (fun g W h => S.of key HKL.out _ 1 1 [[]] (by decide) (by decide) W W.heap.size h (Nat.le_refl _))
    obtain ⟨h0, hh0⟩ : ∃ h, hashW key [] = h := ⟨_, rfl⟩
    rw [hh0] at HE0 HE1
    clear hh0
    refine wp_region_held_drew (S := fun W => Below w2.heap.size w2 W) (by kernel_rfl) ((Below.refl _ _).drew) (fun hHeld => ?_)
    obtain ⟨X2, hX⟩ : ∃ X, w2.drew = X := ⟨_, rfl⟩
    rw [hX] at hHeld ⊢
    clear hX
    refine tkY 0 40 (keyC key) rfl (yields_key (by rfl) _ rfl w.heap.size rfl key HKL.out (fun W hW => Blk_10.below HK2.out (Blk_10.lt HK2.out) hW)) hHeld ?_
    simp only [Act.put, sA, sZ, sS]
    refine tk 1 41 (.slice A len cap) rfl hHeld ?_
    simp only [Act.put, sA, sZ, sS]
    refine tk 2 42 (.int .i64 (m : Int)) rfl hHeld ?_
    simp only [Act.put, sA, sZ, sS]
    refine tk 3 43 (.slice A m cap) rfl hHeld ?_
    simp only [Act.put, sA, sZ, sS]
    refine tk 4 44 (.slice A len cap) rfl hHeld ?_
    simp only [Act.put, sA, sZ, sS]
    refine tk 5 45 (.int .i64 (m : Int)) rfl hHeld ?_
    simp only [Act.put, sA, sZ, sS]
    refine tk 6 46 (.int .i64 (n : Int)) rfl hHeld ?_
    simp only [Act.put, sA, sZ, sS]
    refine tk 7 47 (.slice (cutA A cap m) (n - m) (cap - m)) rfl hHeld ?_
    simp only [Act.put, sA, sZ, sS]
    refine tk 8 48 (.slice A len cap) rfl hHeld ?_
    simp only [Act.put, sA, sZ, sS]
    refine tk 9 49 (.int .i64 (n : Int)) rfl hHeld ?_
    simp only [Act.put, sA, sZ, sS]
    refine tk 10 50 (.slice (cutA A cap n) (len - n) (cap - n)) rfl hHeld ?_
    simp only [Act.put, sA, sZ, sS]
    refine tk 13 53 (.int .u64 (hv : Int)) rfl hHeld ?_
    simp only [Act.put, sA, sZ, sS]
    refine wpAnyH_ready (rs := [11]) (by kernel_rfl) (by simp) (AllReadyH.cons (o := ⟨some 51, _, _, _, _, _⟩) rfl (fun K hK => ?_) AllReadyH.nil)
    go_simp
    have HR := Lib.hid ((HI.out.below (HB3.out.trans (hHeld.mono HB3.out.size))).more (Nat.le_trans HB3.out.size hHeld.size))
    have HX3 := Lib.hid (hHeld.alloc hHeld.size (.cells #[.slice A m cap, .slice (cutA A cap m) (n - m) (cap - m), .slice (cutA A cap n) (len - n) (cap - n)] 23))
    have HL3 := Lib.hid (CellsAt.laid (w := X2) (B := X2.heap.size) (cs := [.slice A m cap, .slice (cutA A cap m) (n - m) (cap - m), .slice (cutA A cap n) (len - n) (cap - n)]) (l := [bs.take m, (bs.drop m).take (n - m), bs.drop n]) (CellsAt.cons (HR.out.take HM2.out) (Nat.le_trans HM2.out HCA.out) HMA.out (CellsAt.cons (HR.out.cut (l := m) (n := n - m) (by have := HMN.out; have := HN2.out; omega) cap HCA.out) (by have := HMN.out; have := HN2.out; have := HCA.out; omega) (by have := HMA.out; omega) (CellsAt.cons (HR.out.from (l := n) HN2.out cap HCA.out) (by have := HCA.out; omega) (by have := HMA.out; omega) (CellsAt.nil_ _ _)))) (Nat.le_refl _) 3 rfl)
    obtain ⟨Y3, hY⟩ : ∃ Y, X2.alloc (.cells #[.slice A m cap, .slice (cutA A cap m) (n - m) (cap - m), .slice (cutA A cap n) (len - n) (cap - n)] 23) = Y := ⟨_, rfl⟩
    have hs := World.size_alloc X2 (.cells #[.slice A m cap, .slice (cutA A cap m) (n - m) (cap - m), .slice (cutA A cap n) (len - n) (cap - n)] 23)
    rw [hY] at HX3 hs ⊢
    rw [show [Value.slice A m cap, .slice (cutA A cap m) (n - m) (cap - m), .slice (cutA A cap n) (len - n) (cap - n)].toArray = #[.slice A m cap, .slice (cutA A cap m) (n - m) (cap - m), .slice (cutA A cap n) (len - n) (cap - n)] from rfl, hY, ← hs] at HL3
    clear hY hs
    generalize X2.heap.size = g3 at HL3 ⊢
    refine hK.out _ _ (HX3.out) (fun hHeld => ?_)
    clear hK K 
    refine wpAnyH_ready (rs := [12]) (by kernel_rfl) (by simp) (AllReadyH.cons (o := ⟨some 52, _, _, _, _, _⟩) rfl (fun K hK => ?_) AllReadyH.nil)
    go_simp
    have hc := S.of key HKL.out (some ⟨g3, 0, none⟩) 3 3 [bs.take m, (bs.drop m).take (n - m), bs.drop n] (by decide) (by rw [flat3 bs m n HMN.out, HIL.out]; have := HN1.out; omega) Y3 Y3.heap.size HL3.out (Nat.le_refl _)
    rw [flat3 bs m n HMN.out, HHV.out] at hc
    refine hc.mono ?_
    clear hc
    rintro e Z3 ⟨rfl, hb⟩
    have HZ3 := Lib.hid (hHeld.trans (hb.mono hHeld.size))
    refine hK.out _ _ (HZ3.out) (fun hHeld => ?_)
    clear hK K hb HL3 HX3 HR
    refine tk 14 54 (.bool true) rfl hHeld ?_
    simp only [Act.put, sA, sZ, sS]
    refine tk 15 55 (.bool true) rfl hHeld ?_
    simp only [Act.put, sA, sZ, sS]
    refine tkY 16 56 (keyC key) rfl (yields_key (by rfl) _ rfl w.heap.size rfl key HKL.out (fun W hW => Blk_10.below HK2.out (Blk_10.lt HK2.out) hW)) hHeld ?_
    simp only [Act.put, sA, sZ, sS]
    refine tk 17 57 (.slice A len cap) rfl hHeld ?_
    simp only [Act.put, sA, sZ, sS]
    refine tk 18 58 (.int .i64 (n : Int)) rfl hHeld ?_
    simp only [Act.put, sA, sZ, sS]
    refine tk 19 59 (.slice A n cap) rfl hHeld ?_
    simp only [Act.put, sA, sZ, sS]
    refine tk 20 60 (.slice A len cap) rfl hHeld ?_
    simp only [Act.put, sA, sZ, sS]
    refine tk 21 61 (.int .i64 (n : Int)) rfl hHeld ?_
    simp only [Act.put, sA, sZ, sS]
    refine tk 22 62 (.slice (cutA A cap n) (len - n) (cap - n)) rfl hHeld ?_
    simp only [Act.put, sA, sZ, sS]
    refine tk 25 65 (.int .u64 (hv : Int)) rfl hHeld ?_
    simp only [Act.put, sA, sZ, sS]
    refine wpAnyH_ready (rs := [23]) (by kernel_rfl) (by simp) (AllReadyH.cons (o := ⟨some 63, _, _, _, _, _⟩) rfl (fun K hK => ?_) AllReadyH.nil)
    go_simp
    have HR := Lib.hid ((HI.out.below (HB3.out.trans (hHeld.mono HB3.out.size))).more (Nat.le_trans HB3.out.size hHeld.size))
    have HX4 := Lib.hid (hHeld.alloc hHeld.size (.cells #[.slice none 0 0, .slice A n cap, .slice none 0 0, .slice (cutA A cap n) (len - n) (cap - n)] 23))
    have HL4 := Lib.hid (CellsAt.laid (w := Z3) (B := Z3.heap.size) (cs := [.slice none 0 0, .slice A n cap, .slice none 0 0, .slice (cutA A cap n) (len - n) (cap - n)]) (l := [[], bs.take n, [], bs.drop n]) (CellsAt.cons (Rd.nil_ none) (Nat.le_refl _) (by decide) (CellsAt.cons (HR.out.take HN2.out) (Nat.le_trans HN2.out HCA.out) HMA.out (CellsAt.cons (Rd.nil_ none) (Nat.le_refl _) (by decide) (CellsAt.cons (HR.out.from (l := n) HN2.out cap HCA.out) (by have := HCA.out; omega) (by have := HMA.out; omega) (CellsAt.nil_ _ _))))) (Nat.le_refl _) 4 rfl)
    obtain ⟨Y4, hY⟩ : ∃ Y, Z3.alloc (.cells #[.slice none 0 0, .slice A n cap, .slice none 0 0, .slice (cutA A cap n) (len - n) (cap - n)] 23) = Y := ⟨_, rfl⟩
    have hs := World.size_alloc Z3 (.cells #[.slice none 0 0, .slice A n cap, .slice none 0 0, .slice (cutA A cap n) (len - n) (cap - n)] 23)
    rw [hY] at HX4 hs ⊢
    rw [show [Value.slice none 0 0, .slice A n cap, .slice none 0 0, .slice (cutA A cap n) (len - n) (cap - n)].toArray = #[.slice none 0 0, .slice A n cap, .slice none 0 0, .slice (cutA A cap n) (len - n) (cap - n)] from rfl, hY, ← hs] at HL4
    clear hY hs
    generalize Z3.heap.size = g4 at HL4 ⊢
    refine hK.out _ _ (HX4.out) (fun hHeld => ?_)
    clear hK K 
    refine wpAnyH_ready (rs := [24]) (by kernel_rfl) (by simp) (AllReadyH.cons (o := ⟨some 64, _, _, _, _, _⟩) rfl (fun K hK => ?_) AllReadyH.nil)
    go_simp
    have hc := S.of key HKL.out (some ⟨g4, 0, none⟩) 4 4 [[], bs.take n, [], bs.drop n] (by decide) (by rw [flat4 bs n, HIL.out]; have := HN1.out; omega) Y4 Y4.heap.size HL4.out (Nat.le_refl _)
    rw [flat4 bs n, HHV.out] at hc
    refine hc.mono ?_
    clear hc
    rintro e Z4 ⟨rfl, hb⟩
    have HZ4 := Lib.hid (hHeld.trans (hb.mono hHeld.size))
    refine hK.out _ _ (HZ4.out) (fun hHeld => ?_)
    clear hK K hb HL4 HX4 HR HZ3
    refine tk 26 66 (.bool true) rfl hHeld ?_
    simp only [Act.put, sA, sZ, sS]
    refine tk 27 67 (.bool true) rfl hHeld ?_
    simp only [Act.put, sA, sZ, sS]
    refine tk 28 68 (.bool true) rfl hHeld ?_
    simp only [Act.put, sA, sZ, sS]
    refine tkY 29 69 (keyC key) rfl (yields_key (by rfl) _ rfl w.heap.size rfl key HKL.out (fun W hW => Blk_10.below HK2.out (Blk_10.lt HK2.out) hW)) hHeld ?_
    simp only [Act.put, sA, sZ, sS]
    refine tkY 31 71 (keyC key) rfl (yields_key (by rfl) _ rfl w.heap.size rfl key HKL.out (fun W hW => Blk_10.below HK2.out (Blk_10.lt HK2.out) hW)) hHeld ?_
    simp only [Act.put, sA, sZ, sS]
    refine wpAnyH_ready (rs := [30, 32]) (by kernel_rfl) (by simp) (AllReadyH.cons (o := ⟨some 70, _, _, _, _, _⟩) rfl (fun K hK => ?_) (AllReadyH.cons (o := ⟨some 72, _, _, _, _, _⟩) rfl (fun K hK => ?_) AllReadyH.nil))
    · go_simp
      refine (HE0.out _).mono ?_
      rintro e Z5 ⟨rfl, hb⟩
      have HZ5 := Lib.hid (hHeld.trans (hb.mono hHeld.size))
      refine hK.out _ _ (HZ5.out) (fun hHeld => ?_)
      clear hK K hb HZ4
      refine wpAnyH_ready (rs := [32]) (by kernel_rfl) (by simp) (AllReadyH.cons (o := ⟨some 72, _, _, _, _, _⟩) rfl (fun K hK => ?_) AllReadyH.nil)
      go_simp
      have HX5 := Lib.hid (hHeld.alloc hHeld.size (.cells #[.slice none 0 0] 23))
      have HL5 := Lib.hid (LsAt.one (w := Z5) (B := Z5.heap.size) (n := 0) (c := 0) (A := none) (Rd.nil_ none) (Nat.le_refl _) (Nat.le_refl _) (by decide))
      obtain ⟨Y5, hY⟩ : ∃ Y, Z5.alloc (.cells #[.slice none 0 0] 23) = Y := ⟨_, rfl⟩
      have hs := World.size_alloc Z5 (.cells #[.slice none 0 0] 23)
      rw [hY] at HX5 HL5 hs ⊢
      rw [← hs] at HL5
      clear hY hs
      generalize Z5.heap.size = g5 at HL5 ⊢
      refine hK.out _ _ (HX5.out) (fun hHeld => ?_)
      clear hK K 
      refine wpAnyH_ready (rs := [33]) (by kernel_rfl) (by simp) (AllReadyH.cons (o := ⟨some 73, _, _, _, _, _⟩) rfl (fun K hK => ?_) AllReadyH.nil)
      go_simp
      refine (HE1.out _ _ HL5.out).mono ?_
      rintro e Z6 ⟨rfl, hb⟩
      have HZ6 := Lib.hid (hHeld.trans (hb.mono hHeld.size))
      refine hK.out _ _ (HZ6.out) (fun hHeld => ?_)
      clear hK K hb HL5 HX5
      refine tk 34 74 (.bool true) rfl hHeld ?_
      simp only [Act.put, sA, sZ, sS]
      refine tk 35 75 (.bool true) rfl hHeld ?_
      simp only [Act.put, sA, sZ, sS]
      refine tk 36 8 (.bool true) rfl hHeld ?_
      simp only [Act.put, sA, sZ, sS]
      refine wpAnyH_done (by kernel_rfl) ?_ _
      go_wp2_with fail
      go_ret
      exact ⟨rfl, HB3.out.trans (hHeld.mono HB3.out.size)⟩
    · go_simp
      have HX5 := Lib.hid (hHeld.alloc hHeld.size (.cells #[.slice none 0 0] 23))
      have HL5 := Lib.hid (LsAt.one (w := Z4) (B := Z4.heap.size) (n := 0) (c := 0) (A := none) (Rd.nil_ none) (Nat.le_refl _) (Nat.le_refl _) (by decide))
      obtain ⟨Y5, hY⟩ : ∃ Y, Z4.alloc (.cells #[.slice none 0 0] 23) = Y := ⟨_, rfl⟩
      have hs := World.size_alloc Z4 (.cells #[.slice none 0 0] 23)
      rw [hY] at HX5 HL5 hs ⊢
      rw [← hs] at HL5
      clear hY hs
      generalize Z4.heap.size = g5 at HL5 ⊢
      refine hK.out _ _ (HX5.out) (fun hHeld => ?_)
      clear hK K 
      refine wpAnyH_ready (rs := [30]) (by kernel_rfl) (by simp) (AllReadyH.cons (o := ⟨some 70, _, _, _, _, _⟩) rfl (fun K hK => ?_) AllReadyH.nil)
      go_simp
      refine (HE0.out _).mono ?_
      rintro e Z5 ⟨rfl, hb⟩
      have HZ5 := Lib.hid (hHeld.trans (hb.mono hHeld.size))
      have HL5 := Lib.hid ((HL5.out.below hb).more hb.size)
      refine hK.out _ _ (HZ5.out) (fun hHeld => ?_)
      clear hK K hb HZ4
      refine wpAnyH_ready (rs := [33]) (by kernel_rfl) (by simp) (AllReadyH.cons (o := ⟨some 73, _, _, _, _, _⟩) rfl (fun K hK => ?_) AllReadyH.nil)
      go_simp
      refine (HE1.out _ _ HL5.out).mono ?_
      rintro e Z6 ⟨rfl, hb⟩
      have HZ6 := Lib.hid (hHeld.trans (hb.mono hHeld.size))
      refine hK.out _ _ (HZ6.out) (fun hHeld => ?_)
      clear hK K hb HL5 HX5
      refine tk 34 74 (.bool true) rfl hHeld ?_
      simp only [Act.put, sA, sZ, sS]
      refine tk 35 75 (.bool true) rfl hHeld ?_
      simp only [Act.put, sA, sZ, sS]
      refine tk 36 8 (.bool true) rfl hHeld ?_
      simp only [Act.put, sA, sZ, sS]
      refine wpAnyH_done (by kernel_rfl) ?_ _
      go_wp2_with fail
      go_ret
      exact ⟨rfl, HB3.out.trans (hHeld.mono HB3.out.size)⟩
end Go.Proofs.Ythfeamkomhiemaa
