/-
  SipOf: its walk, the program's contracts a premise.
-/
import Derived.Test.YthfeamkomhiemaaHAwake
namespace Go.Proofs.Ythfeamkomhiemaa
set_option maxRecDepth 100000
open Go.RowKit Go.Lib Go.ChangeShapes Go.WideShapes Go.ChangeAt

set_option maxHeartbeats 16000000 in
theorem sipOf_walkW (S : SipC) (key : List UInt8) (hk : key.length = 16) (A : Option Addr) (len cap : Nat) (bs : List UInt8) (hca : len ≤ cap) (hma : cap ≤ maxLen) (w : World) (hI : Rd w w.heap.size A len bs) :
    Calls Try.prog 3 #[keyC key, .slice A len cap] w fun e w' => e = .returned (.bool true) ∧ Below w.heap.size w w' := by
  have HIL := Lib.hid hI.len
  obtain ⟨C0, hC0⟩ : ∃ C, (key.map v8).toArray = C := ⟨_, rfl⟩
  obtain ⟨Y, hY⟩ : ∃ Y, w.alloc (.cells C0 22) = Y := ⟨_, rfl⟩
  have HK0 := Lib.hid (show Blk Y 22 w.heap.size (key.map v8) by rw [← hY, ← hC0]; exact Blk_10.new w _ _)
  have HB0 := Lib.hid (show Below w.heap.size w Y by rw [← hY]; exact (Below.refl w.heap.size w).alloc (Nat.le_refl _) _)
  have HY := Lib.hid hY
  have HKE : Hid (keyC key = .agg C0) := Lib.hid (by rw [← hC0]; rfl)
  rw [HKE.out]
  have HKL := Lib.hid hk
  clear hY hC0 hk
  have HI := Lib.hid hI
  have HCA := Lib.hid hca
  have HMA := Lib.hid hma
  clear hI hca hma
  obtain ⟨hv, hhv⟩ : ∃ h, hashW key bs = h := ⟨_, rfl⟩
  have HHV := Lib.hid hhv
  clear hhv
  go_enter Try.func3, Try.ntmps3
  go_wp2_with fail
  rw [HY.out]
  refine (awake_any S _).mono ?_
  rintro e w1 ⟨rfl, hb1⟩
  have HB1 := Lib.hid (HB0.out.trans (hb1.mono HB0.out.size))
  have HK1 := Lib.hid (Blk_10.below HK0.out (Blk_10.lt HK0.out) hb1)
  clear hb1
  by_cases hn : 1000 < len
  · have hn' : (1000 : Int) < (len : Int) := by omega
    have hnb : decide ((1000 : Int) < (len : Int)) = true := decide_eq_true hn'
    clear hn
    go_wp2_with fail
    refine (awake_any S _).mono ?_
    rintro e w2 ⟨rfl, hb2⟩
    go_wp2_with fail
    go_ret
    exact ⟨rfl, HB1.out.trans (hb2.mono HB1.out.size)⟩
  · have hn' : ¬ (1000 : Int) < (len : Int) := by omega
    have hnb : decide ((1000 : Int) < (len : Int)) = false := decide_eq_false hn'
    have HN1 := Lib.hid (show len ≤ 1000 by omega)
    clear hn
    go_wp2_with fail
    refine wp_region_held_drew (S := fun W => Below w1.heap.size w1 W) (by kernel_rfl) ((Below.refl _ _).drew) (fun hHeld => ?_)
    obtain ⟨X, hX⟩ : ∃ X, w1.drew = X := ⟨_, rfl⟩
    rw [hX] at hHeld ⊢
    clear hX
    refine tkY 0 13 (keyC key) rfl (yields_key (by rfl) _ rfl w.heap.size rfl key HKL.out (fun W hW => Blk_10.below HK1.out (Blk_10.lt HK1.out) hW)) hHeld ?_
    simp only [Act.put, sA, sZ, sS]
    refine tk 1 14 (.slice A len cap) rfl hHeld ?_
    simp only [Act.put, sA, sZ, sS]
    refine tkY 4 17 (keyC key) rfl (yields_key (by rfl) _ rfl w.heap.size rfl key HKL.out (fun W hW => Blk_10.below HK1.out (Blk_10.lt HK1.out) hW)) hHeld ?_
    simp only [Act.put, sA, sZ, sS]
    refine tk 5 18 (.slice A len cap) rfl hHeld ?_
    simp only [Act.put, sA, sZ, sS]
    refine wpAnyH_ready (rs := [2]) (by kernel_rfl) (by simp) (AllReadyH.cons (o := ⟨some 15, _, _, _, _, _⟩) rfl (fun K hK => ?_) AllReadyH.nil)
    go_simp
    have HX1 := Lib.hid (hHeld.alloc hHeld.size (.cells #[.slice A len cap] 23))
    have HL1 := Lib.hid (LsAt.one (w := X) (B := X.heap.size) (n := len) (c := cap) ((HI.out.below (HB1.out.trans (hHeld.mono HB1.out.size))).more (Nat.le_trans HB1.out.size hHeld.size)) (Nat.le_refl _) HCA.out HMA.out)
    obtain ⟨Y1, hY⟩ : ∃ Y, X.alloc (.cells #[.slice A len cap] 23) = Y := ⟨_, rfl⟩
    have hs := World.size_alloc X (.cells #[.slice A len cap] 23)
    rw [hY] at HX1 HL1 hs ⊢
    rw [← hs] at HL1
    clear hY hs
    generalize X.heap.size = g1 at HL1 ⊢
    refine hK.out _ _ (HX1.out) (fun hHeld => ?_)
    clear hK K 
    refine wpAnyH_ready (rs := [3]) (by kernel_rfl) (by simp) (AllReadyH.cons (o := ⟨some 16, _, _, _, _, _⟩) rfl (fun K hK => ?_) AllReadyH.nil)
    go_simp
    have hc := S.of key HKL.out (some ⟨g1, 0, none⟩) 1 1 [bs] (by decide) (by rw [flat_one, HIL.out]; have := HN1.out; omega) Y1 Y1.heap.size HL1.out (Nat.le_refl _)
    rw [flat_one, HHV.out] at hc
    refine hc.mono ?_
    clear hc
    rintro e Z1 ⟨rfl, hb⟩
    have HZ1 := Lib.hid (hHeld.trans (hb.mono hHeld.size))
    refine hK.out _ _ (HZ1.out) (fun hHeld => ?_)
    clear hK K hb HL1 HX1
    refine wpAnyH_ready (rs := [6]) (by kernel_rfl) (by simp) (AllReadyH.cons (o := ⟨some 19, _, _, _, _, _⟩) rfl (fun K hK => ?_) AllReadyH.nil)
    go_simp
    have hc := hrof_any key HKL.out A len cap bs (by have := HN1.out; omega) Z1 ((HI.out.below (HB1.out.trans (hHeld.mono HB1.out.size))).more (Nat.le_trans HB1.out.size hHeld.size))
    rw [HHV.out] at hc
    refine hc.mono ?_
    clear hc
    rintro e Z2 ⟨rfl, hb⟩
    have HZ2 := Lib.hid (hHeld.trans (hb.mono hHeld.size))
    refine hK.out _ _ (HZ2.out) (fun hHeld => ?_)
    clear hK K hb HZ1
    refine tk 7 20 (.bool true) rfl hHeld ?_
    simp only [Act.put, sA, sZ, sS]
    refine tk 8 4 (.bool true) rfl hHeld ?_
    simp only [Act.put, sA, sZ, sS]
    refine wpAnyH_done (by kernel_rfl) ?_ _
    go_wp2_with fail
    go_ret
    exact ⟨rfl, HB1.out.trans (hHeld.mono HB1.out.size)⟩
end Go.Proofs.Ythfeamkomhiemaa
