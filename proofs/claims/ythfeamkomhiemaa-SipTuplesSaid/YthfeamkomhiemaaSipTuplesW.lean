/-
  SipTuples: its walk, the program's contracts a premise.
-/
import Derived.Test.YthfeamkomhiemaaHAwake
namespace Go.Proofs.Ythfeamkomhiemaa
set_option maxRecDepth 100000
open Go.RowKit Go.Lib Go.ChangeShapes Go.WideShapes Go.ChangeAt

set_option maxHeartbeats 16000000 in
theorem sipTuples_walkW (S : SipC) (key : List UInt8) (hk : key.length = 16) (t : Tu) (ho : t.Ok) (w : World) :
    Calls Try.prog 5 #[keyC key, tuC t] w fun e w' => e = .returned (.bool true) ∧ Below w.heap.size w w' := by
  obtain ⟨C0, hC0⟩ : ∃ C, (key.map v8).toArray = C := ⟨_, rfl⟩
  obtain ⟨C1, hC1⟩ : ∃ C, (tuL t).toArray = C := ⟨_, rfl⟩
  obtain ⟨Y, hY⟩ : ∃ Y, (w.alloc (.cells C0 22)).alloc (.cells C1 34) = Y := ⟨_, rfl⟩
  have HK0 := Lib.hid (show Blk Y 22 w.heap.size (key.map v8) by rw [← hY, ← hC0]; exact Blk_10.alloc (Blk_10.new w _ _) _)
  have HT0 := Lib.hid (show Blk Y 34 (w.heap.size + 1) (tuL t) by
    rw [← hY, ← hC1]
    have := Blk_10.new (w.alloc (.cells C0 22)) 34 (tuL t)
    rwa [World.size_alloc] at this)
  have HB0 := Lib.hid (show Below w.heap.size w Y by rw [← hY]; exact ((Below.refl w.heap.size w).alloc (Nat.le_refl _) _).alloc (by simp) _)
  have HY := Lib.hid hY
  have HKE : Hid (keyC key = .agg C0) := Lib.hid (by rw [← hC0]; rfl)
  have HTE : Hid (tuC t = .agg C1) := Lib.hid (by rw [← hC1]; rfl)
  rw [HKE.out, HTE.out]
  have HKL := Lib.hid hk
  have HOK := Lib.hid ho
  clear hY hC0 hC1 hk ho
  go_enter Try.func5, Try.ntmps5
  have HF := Lib.hid (fun W => rfit_any HOK.out W)
  go_wp2_with fail
  rw [HY.out]
  refine (awake_any S _).mono ?_
  rintro e w1 ⟨rfl, hb1⟩
  have HB1 := Lib.hid (HB0.out.trans (hb1.mono HB0.out.size))
  have HK1 := Lib.hid (Blk_10.below HK0.out (Blk_10.lt HK0.out) hb1)
  have HT1 := Lib.hid (Blk_10.below HT0.out (Blk_10.lt HT0.out) hb1)
  clear hb1
  cases hfit : fitT t
  · rw [hfit] at HF
    clear hfit
    go_wp2_with (first
      | ((with_reducible show wpList _ _ _ (⟨some 9, _, _, _, _, _⟩ :: _) _ _); refine wpList_loadTu (op := ⟨some 9, _, _, _, _, _⟩) _ rfl (by rfl) (w.heap.size + 1) 0 (by rfl) t HOK.out (Blk_10.range HT1.out) ?_)
      | (with_reducible refine (HF.out w1).mono ?_; rintro e w2 ⟨rfl, hb2⟩; have HB2 := Lib.hid (HB1.out.trans (hb2.mono HB1.out.size)); clear hb2))
    refine (awake_any S _).mono ?_
    rintro e w3 ⟨rfl, hb3⟩
    go_wp2_with fail
    go_ret
    exact ⟨rfl, HB2.out.trans (hb3.mono HB2.out.size)⟩
  · rw [hfit] at HF
    have HFI := Lib.hid (fitT_yes hfit)
    clear hfit
    have HSB := Lib.hid (fun W => S.bytes t HOK.out HFI.out W)
    have HRB := Lib.hid (fun W => rby_any HOK.out HFI.out W)
    have HSH := Lib.hid (fun W => S.hash key HKL.out t HOK.out HFI.out W)
    have HRO := Lib.hid (fun (A : Option Addr) (c : Nat) (W : World) (h : Rd W W.heap.size A 38 (tuB t)) => hrof_any key HKL.out A 38 c (tuB t) (by decide) W h)
    have HTL := Lib.hid (tuB_len HOK.out)
    obtain ⟨TB, hTB⟩ : ∃ x, tuB t = x := ⟨_, rfl⟩
    rw [hTB] at HSB HRB HSH HRO HTL
    clear hTB
    obtain ⟨hv, hhv⟩ : ∃ h, hashW key TB = h := ⟨_, rfl⟩
    rw [hhv] at HSH HRO
    clear hhv
    go_wp2_with (first
      | ((with_reducible show wpList _ _ _ (⟨some 9, _, _, _, _, _⟩ :: _) _ _); refine wpList_loadTu (op := ⟨some 9, _, _, _, _, _⟩) _ rfl (by rfl) (w.heap.size + 1) 0 (by rfl) t HOK.out (Blk_10.range HT1.out) ?_)
      | (with_reducible refine (HF.out w1).mono ?_; rintro e w2 ⟨rfl, hb2⟩; have HB2 := Lib.hid (HB1.out.trans (hb2.mono HB1.out.size)); have HK2 := Lib.hid (Blk_10.below HK1.out (Blk_10.lt HK1.out) hb2); have HT2 := Lib.hid (Blk_10.below HT1.out (Blk_10.lt HT1.out) hb2); clear hb2)
      | ((with_reducible show wpList _ _ _ (⟨some 14, _, _, _, _, _⟩ :: _) _ _); refine wpList_loadTu (op := ⟨some 14, _, _, _, _, _⟩) _ rfl (by rfl) (w.heap.size + 1) 0 (by rfl) t HOK.out (Blk_10.range HT2.out) ?_))
    refine (HSB.out w2).mono ?_
    rintro e w4 ⟨v4, rfl, ho4, hb4⟩
    have HB4 := Lib.hid (HB2.out.trans (hb4.mono HB2.out.size))
    have HK4 := Lib.hid (Blk_10.below HK2.out (Blk_10.lt HK2.out) hb4)
    have HT4 := Lib.hid (Blk_10.below HT2.out (Blk_10.lt HT2.out) hb4)
    obtain ⟨A4, c4, rfl, hc1, hc2, hr4⟩ := ho4.formN HTL.out
    have HR4 := Lib.hid hr4
    clear ho4 hb4 hc1 hc2 hr4
    go_wp2_with fail
    refine wp_region_held_drew (S := fun W => Below w4.heap.size w4 W) (by kernel_rfl) ((Below.refl _ _).drew) (fun hHeld => ?_)
    obtain ⟨X, hX⟩ : ∃ X, w4.drew = X := ⟨_, rfl⟩
    rw [hX] at hHeld ⊢
    clear hX
    refine tk 0 16 (.slice A4 38 c4) rfl hHeld ?_
    simp only [Act.put, sA, sZ, sS]
    refine tkY 1 17 (tuC t) rfl (yields_tu (by rfl) _ rfl (w.heap.size + 1) rfl t HOK.out (fun W hW => Blk_10.below HT4.out (Blk_10.lt HT4.out) hW)) hHeld ?_
    simp only [Act.put, sA, sZ, sS]
    refine wpAnyH_ready (rs := [2]) (by kernel_rfl) (by simp) (AllReadyH.cons (o := ⟨some 18, _, _, _, _, _⟩) rfl (fun K hK => ?_) AllReadyH.nil)
    go_simp
    refine (HRB.out _).mono ?_
    rintro e Z1 ⟨v, rfl, hown, hb⟩
    have HZ1 := Lib.hid (hHeld.trans (hb.mono hHeld.size))
    obtain ⟨A5, c5, rfl, _, _, hr⟩ := hown.formN HTL.out
    have HR5 := Lib.hid hr
    refine hK.out _ _ (HZ1.out) (fun hHeld => ?_)
    clear hK K hb hown hr 
    refine wpAnyH_ready (rs := [3]) (by kernel_rfl) (by simp) (AllReadyH.cons (o := ⟨some 19, _, _, _, _, _⟩) rfl (fun K hK => ?_) AllReadyH.nil)
    go_simp
    refine (same_any Z1 c4 c5 (HR4.out.below hHeld) HR5.out).mono ?_
    rintro e W ⟨rfl, rfl⟩
    refine hK.out _ _ (hHeld) (fun hHeld => ?_)
    clear hK K 
    refine tk 4 20 (.bool true) rfl hHeld ?_
    simp only [Act.put, sA, sZ, sS]
    refine tk 5 21 (.slice A4 38 c4) rfl hHeld ?_
    simp only [Act.put, sA, sZ, sS]
    refine tk 6 22 (.int .i64 38) rfl hHeld ?_
    simp only [Act.put, sA, sZ, sS]
    refine tk 7 23 (.bool true) rfl hHeld ?_
    simp only [Act.put, sA, sZ, sS]
    refine tk 8 24 (.bool true) rfl hHeld ?_
    simp only [Act.put, sA, sZ, sS]
    refine tk 9 25 (.bool true) rfl hHeld ?_
    simp only [Act.put, sA, sZ, sS]
    refine tkY 10 26 (keyC key) rfl (yields_key (by rfl) _ rfl w.heap.size rfl key HKL.out (fun W hW => Blk_10.below HK4.out (Blk_10.lt HK4.out) hW)) hHeld ?_
    simp only [Act.put, sA, sZ, sS]
    refine tkY 11 27 (tuC t) rfl (yields_tu (by rfl) _ rfl (w.heap.size + 1) rfl t HOK.out (fun W hW => Blk_10.below HT4.out (Blk_10.lt HT4.out) hW)) hHeld ?_
    simp only [Act.put, sA, sZ, sS]
    refine tkY 13 29 (keyC key) rfl (yields_key (by rfl) _ rfl w.heap.size rfl key HKL.out (fun W hW => Blk_10.below HK4.out (Blk_10.lt HK4.out) hW)) hHeld ?_
    simp only [Act.put, sA, sZ, sS]
    refine tkY 14 30 (tuC t) rfl (yields_tu (by rfl) _ rfl (w.heap.size + 1) rfl t HOK.out (fun W hW => Blk_10.below HT4.out (Blk_10.lt HT4.out) hW)) hHeld ?_
    simp only [Act.put, sA, sZ, sS]
    refine wpAnyH_ready (rs := [12]) (by kernel_rfl) (by simp) (AllReadyH.cons (o := ⟨some 28, _, _, _, _, _⟩) rfl (fun K hK => ?_) AllReadyH.nil)
    go_simp
    refine (HSH.out _).mono ?_
    rintro e Z2 ⟨rfl, hb⟩
    have HZ2 := Lib.hid (hHeld.trans (hb.mono hHeld.size))
    refine hK.out _ _ (HZ2.out) (fun hHeld => ?_)
    clear hK K hb HR5
    refine wpAnyH_ready (rs := [15]) (by kernel_rfl) (by simp) (AllReadyH.cons (o := ⟨some 31, _, _, _, _, _⟩) rfl (fun K hK => ?_) AllReadyH.nil)
    go_simp
    refine (HRB.out _).mono ?_
    rintro e Z3 ⟨v, rfl, hown, hb⟩
    have HZ3 := Lib.hid (hHeld.trans (hb.mono hHeld.size))
    obtain ⟨A6, c6, rfl, _, _, hr⟩ := hown.formN HTL.out
    have HR6 := Lib.hid hr
    refine hK.out _ _ (HZ3.out) (fun hHeld => ?_)
    clear hK K hb hown hr 
    refine wpAnyH_ready (rs := [16]) (by kernel_rfl) (by simp) (AllReadyH.cons (o := ⟨some 32, _, _, _, _, _⟩) rfl (fun K hK => ?_) AllReadyH.nil)
    go_simp
    refine (HRO.out A6 c6 Z3 HR6.out).mono ?_
    rintro e Z4 ⟨rfl, hb⟩
    have HZ4 := Lib.hid (hHeld.trans (hb.mono hHeld.size))
    refine hK.out _ _ (HZ4.out) (fun hHeld => ?_)
    clear hK K hb HR6
    refine tk 17 33 (.bool true) rfl hHeld ?_
    simp only [Act.put, sA, sZ, sS]
    refine tk 18 34 (.bool true) rfl hHeld ?_
    simp only [Act.put, sA, sZ, sS]
    refine tk 19 4 (.bool true) rfl hHeld ?_
    simp only [Act.put, sA, sZ, sS]
    refine wpAnyH_done (by kernel_rfl) ?_ _
    go_wp2_with fail
    go_ret
    exact ⟨rfl, HB4.out.trans (hHeld.mono HB4.out.size)⟩
end Go.Proofs.Ythfeamkomhiemaa
