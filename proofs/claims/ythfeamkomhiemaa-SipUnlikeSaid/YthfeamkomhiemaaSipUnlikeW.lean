/-
  SipUnlike: its walk, the program's contracts a premise.
-/
import Derived.Test.YthfeamkomhiemaaHEq
namespace Go.Proofs.Ythfeamkomhiemaa
set_option maxRecDepth 100000
open Go.RowKit Go.Lib Go.ChangeShapes Go.WideShapes Go.ChangeAt

set_option maxHeartbeats 16000000 in
theorem sipUnlike_walkW (S : SipC) (t : Tu) (ho : t.Ok) (u : Tu) (ko : u.Ok) (w : World) :
    Calls Try.prog 6 #[tuC t, tuC u] w fun e w' => e = .returned (.bool true) ∧ Below w.heap.size w w' := by
  obtain ⟨C0, hC0⟩ : ∃ C, (tuL t).toArray = C := ⟨_, rfl⟩
  obtain ⟨C1, hC1⟩ : ∃ C, (tuL u).toArray = C := ⟨_, rfl⟩
  obtain ⟨Y, hY⟩ : ∃ Y, (w.alloc (.cells C0 34)).alloc (.cells C1 34) = Y := ⟨_, rfl⟩
  have HT0 := Lib.hid (show Blk Y 34 w.heap.size (tuL t) by rw [← hY, ← hC0]; exact Blk_10.alloc (Blk_10.new w _ _) _)
  have HU0 := Lib.hid (show Blk Y 34 (w.heap.size + 1) (tuL u) by
    rw [← hY, ← hC1]
    have := Blk_10.new (w.alloc (.cells C0 34)) 34 (tuL u)
    rwa [World.size_alloc] at this)
  have HB0 := Lib.hid (show Below w.heap.size w Y by rw [← hY]; exact ((Below.refl w.heap.size w).alloc (Nat.le_refl _) _).alloc (by simp) _)
  have HY := Lib.hid hY
  have HTE : Hid (tuC t = .agg C0) := Lib.hid (by rw [← hC0]; rfl)
  have HUE : Hid (tuC u = .agg C1) := Lib.hid (by rw [← hC1]; rfl)
  have HQ := Lib.hid (fun W => run_eqls_tu W ho ko)
  rw [HTE.out, HUE.out]
  have HOK := Lib.hid ho
  have KOK := Lib.hid ko
  clear hY hC0 hC1 ho ko
  go_enter Try.func6, Try.ntmps6
  have HF := Lib.hid (fun W => rfit_any HOK.out W)
  have KF := Lib.hid (fun W => rfit_any KOK.out W)
  go_wp2_with fail
  rw [HY.out]
  refine (awake_any S _).mono ?_
  rintro e w1 ⟨rfl, hb1⟩
  have HB1 := Lib.hid (HB0.out.trans (hb1.mono HB0.out.size))
  have HT1 := Lib.hid (Blk_10.below HT0.out (Blk_10.lt HT0.out) hb1)
  have HU1 := Lib.hid (Blk_10.below HU0.out (Blk_10.lt HU0.out) hb1)
  clear hb1
  cases hfit : fitT t
  · rw [hfit] at HF
    clear hfit
    go_wp2_with (first
      | ((with_reducible show wpList _ _ _ (⟨some 8, _, _, _, _, _⟩ :: _) _ _); refine wpList_loadTu (op := ⟨some 8, _, _, _, _, _⟩) _ rfl (by rfl) w.heap.size 0 (by rfl) t HOK.out (Blk_10.range HT1.out) ?_)
      | (with_reducible refine (HF.out w1).mono ?_; rintro e w2 ⟨rfl, hb2⟩; have HB2 := Lib.hid (HB1.out.trans (hb2.mono HB1.out.size)); have HT2 := Lib.hid (Blk_10.below HT1.out (Blk_10.lt HT1.out) hb2); have HU2 := Lib.hid (Blk_10.below HU1.out (Blk_10.lt HU1.out) hb2); clear hb2))
    refine (awake_any S _).mono ?_
    rintro e w9 ⟨rfl, hb9⟩
    go_wp2_with fail
    go_ret
    exact ⟨rfl, HB2.out.trans (hb9.mono HB2.out.size)⟩
  · rw [hfit] at HF
    have HFI := Lib.hid (fitT_yes hfit)
    clear hfit
    cases kfit : fitT u
    · rw [kfit] at KF
      clear kfit
      go_wp2_with (first
        | ((with_reducible show wpList _ _ _ (⟨some 8, _, _, _, _, _⟩ :: _) _ _); refine wpList_loadTu (op := ⟨some 8, _, _, _, _, _⟩) _ rfl (by rfl) w.heap.size 0 (by rfl) t HOK.out (Blk_10.range HT1.out) ?_)
        | (with_reducible refine (HF.out w1).mono ?_; rintro e w2 ⟨rfl, hb2⟩; have HB2 := Lib.hid (HB1.out.trans (hb2.mono HB1.out.size)); have HT2 := Lib.hid (Blk_10.below HT1.out (Blk_10.lt HT1.out) hb2); have HU2 := Lib.hid (Blk_10.below HU1.out (Blk_10.lt HU1.out) hb2); clear hb2)
        | ((with_reducible show wpList _ _ _ (⟨some 13, _, _, _, _, _⟩ :: _) _ _); refine wpList_loadTu (op := ⟨some 13, _, _, _, _, _⟩) _ rfl (by rfl) (w.heap.size + 1) 0 (by rfl) u KOK.out (Blk_10.range HU2.out) ?_)
        | (with_reducible refine (KF.out w2).mono ?_; rintro e w3 ⟨rfl, hb3⟩; have HB3 := Lib.hid (HB2.out.trans (hb3.mono HB2.out.size)); have HT3 := Lib.hid (Blk_10.below HT2.out (Blk_10.lt HT2.out) hb3); have HU3 := Lib.hid (Blk_10.below HU2.out (Blk_10.lt HU2.out) hb3); clear hb3))
      refine (awake_any S _).mono ?_
      rintro e w9 ⟨rfl, hb9⟩
      go_wp2_with fail
      go_ret
      exact ⟨rfl, HB3.out.trans (hb9.mono HB3.out.size)⟩
    · rw [kfit] at KF
      have KFI := Lib.hid (fitT_yes kfit)
      clear kfit
      have HSB := Lib.hid (fun W => S.bytes t HOK.out HFI.out W)
      have KSB := Lib.hid (fun W => S.bytes u KOK.out KFI.out W)
      have HTL := Lib.hid (tuB_len HOK.out)
      have KTL := Lib.hid (tuB_len KOK.out)
      go_wp2_with (first
        | ((with_reducible show wpList _ _ _ (⟨some 8, _, _, _, _, _⟩ :: _) _ _); refine wpList_loadTu (op := ⟨some 8, _, _, _, _, _⟩) _ rfl (by rfl) w.heap.size 0 (by rfl) t HOK.out (Blk_10.range HT1.out) ?_)
        | (with_reducible refine (HF.out w1).mono ?_; rintro e w2 ⟨rfl, hb2⟩; have HB2 := Lib.hid (HB1.out.trans (hb2.mono HB1.out.size)); have HT2 := Lib.hid (Blk_10.below HT1.out (Blk_10.lt HT1.out) hb2); have HU2 := Lib.hid (Blk_10.below HU1.out (Blk_10.lt HU1.out) hb2); clear hb2)
        | ((with_reducible show wpList _ _ _ (⟨some 13, _, _, _, _, _⟩ :: _) _ _); refine wpList_loadTu (op := ⟨some 13, _, _, _, _, _⟩) _ rfl (by rfl) (w.heap.size + 1) 0 (by rfl) u KOK.out (Blk_10.range HU2.out) ?_)
        | (with_reducible refine (KF.out w2).mono ?_; rintro e w3 ⟨rfl, hb3⟩; have HB3 := Lib.hid (HB2.out.trans (hb3.mono HB2.out.size)); have HT3 := Lib.hid (Blk_10.below HT2.out (Blk_10.lt HT2.out) hb3); have HU3 := Lib.hid (Blk_10.below HU2.out (Blk_10.lt HU2.out) hb3); clear hb3))
      by_cases htu : t = u
      · have hq : tuQ t u = true := by rw [htu]; exact tuQ_self u
        have HTB := Lib.hid (congrArg tuB htu)
        have hQ := HQ.out
        rw [hq] at hQ
        have HQQ := Lib.hid hQ
        clear hQ hq htu
        refine wp_region_held_drew (S := fun W => Below w3.heap.size w3 W) (by kernel_rfl) ((Below.refl _ _).drew) (fun hHeld => ?_)
        obtain ⟨X, hX⟩ : ∃ X, w3.drew = X := ⟨_, rfl⟩
        rw [hX] at hHeld ⊢
        clear hX
        refine tkY 0 18 (tuC t) rfl (yields_tu (by rfl) _ rfl w.heap.size rfl t HOK.out (fun W hW => Blk_10.below HT3.out (Blk_10.lt HT3.out) hW)) hHeld ?_
        simp only [Act.put, sA, sZ, sS]
        refine tkY 2 20 (tuC u) rfl (yields_tu (by rfl) _ rfl (w.heap.size + 1) rfl u KOK.out (fun W hW => Blk_10.below HU3.out (Blk_10.lt HU3.out) hW)) hHeld ?_
        simp only [Act.put, sA, sZ, sS]
        refine tkY 5 23 (tuC t) rfl (yields_tu (by rfl) _ rfl w.heap.size rfl t HOK.out (fun W hW => Blk_10.below HT3.out (Blk_10.lt HT3.out) hW)) hHeld ?_
        simp only [Act.put, sA, sZ, sS]
        refine tkY 6 24 (tuC u) rfl (yields_tu (by rfl) _ rfl (w.heap.size + 1) rfl u KOK.out (fun W hW => Blk_10.below HU3.out (Blk_10.lt HU3.out) hW)) hHeld ?_
        simp only [Act.put, sA, sZ, sS]
        refine tkY 7 25 (.bool true) rfl (yields_eql (by rfl) 34 _ _ _ rfl (tuL t).toArray (tuL u).toArray rfl rfl guard_tu true HQQ.out) hHeld ?_
        simp only [Act.put, sA, sZ, sS]
        refine wpAnyH_ready (rs := [1]) (by kernel_rfl) (by simp) (AllReadyH.cons (o := ⟨some 19, _, _, _, _, _⟩) rfl (fun K hK => ?_) AllReadyH.nil)
        go_simp
        refine (HSB.out _).mono ?_
        rintro e Z1 ⟨v, rfl, hown, hb⟩
        have HZ1 := Lib.hid (hHeld.trans (hb.mono hHeld.size))
        obtain ⟨A4, c4, rfl, _, _, hr⟩ := hown.formN HTL.out
        have HR4 := Lib.hid hr
        refine hK.out _ _ (HZ1.out) (fun hHeld => ?_)
        clear hK K hb hown hr
        refine wpAnyH_ready (rs := [3]) (by kernel_rfl) (by simp) (AllReadyH.cons (o := ⟨some 21, _, _, _, _, _⟩) rfl (fun K hK => ?_) AllReadyH.nil)
        go_simp
        refine (KSB.out _).mono ?_
        rintro e Z2 ⟨v, rfl, hown, hb⟩
        have HZ2 := Lib.hid (hHeld.trans (hb.mono hHeld.size))
        obtain ⟨A5, c5, rfl, _, _, hr⟩ := hown.formN KTL.out
        have HR5 := Lib.hid hr
        have HR6 := Lib.hid (HR4.out.below hb)
        refine hK.out _ _ (HZ2.out) (fun hHeld => ?_)
        clear hK K hb hown hr
        refine wpAnyH_ready (rs := [4]) (by kernel_rfl) (by simp) (AllReadyH.cons (o := ⟨some 22, _, _, _, _, _⟩) rfl (fun K hK => ?_) AllReadyH.nil)
        go_simp
        have hrr := HR6.out
        rw [HTB.out] at hrr
        refine (same_any Z2 c4 c5 hrr HR5.out).mono ?_
        clear hrr
        rintro e W ⟨rfl, rfl⟩
        refine hK.out _ _ (hHeld) (fun hHeld => ?_)
        clear hK K 
        refine tk 8 26 (.bool true) rfl hHeld ?_
        simp only [Act.put, sA, sZ, sS]
        refine tk 9 4 (.bool true) rfl hHeld ?_
        simp only [Act.put, sA, sZ, sS]
        refine wpAnyH_done (by kernel_rfl) ?_ _
        go_wp2_with fail
        go_ret
        exact ⟨rfl, HB3.out.trans (hHeld.mono HB3.out.size)⟩
      · have hq : tuQ t u = false := tuQ_ne htu
        have HTB := Lib.hid (fun e => htu (tuB_inj HOK.out KOK.out HFI.out KFI.out e))
        have hQ := HQ.out
        rw [hq] at hQ
        have HQQ := Lib.hid hQ
        clear hQ hq htu
        refine wp_region_held_drew (S := fun W => Below w3.heap.size w3 W) (by kernel_rfl) ((Below.refl _ _).drew) (fun hHeld => ?_)
        obtain ⟨X, hX⟩ : ∃ X, w3.drew = X := ⟨_, rfl⟩
        rw [hX] at hHeld ⊢
        clear hX
        refine tkY 0 18 (tuC t) rfl (yields_tu (by rfl) _ rfl w.heap.size rfl t HOK.out (fun W hW => Blk_10.below HT3.out (Blk_10.lt HT3.out) hW)) hHeld ?_
        simp only [Act.put, sA, sZ, sS]
        refine tkY 2 20 (tuC u) rfl (yields_tu (by rfl) _ rfl (w.heap.size + 1) rfl u KOK.out (fun W hW => Blk_10.below HU3.out (Blk_10.lt HU3.out) hW)) hHeld ?_
        simp only [Act.put, sA, sZ, sS]
        refine tkY 5 23 (tuC t) rfl (yields_tu (by rfl) _ rfl w.heap.size rfl t HOK.out (fun W hW => Blk_10.below HT3.out (Blk_10.lt HT3.out) hW)) hHeld ?_
        simp only [Act.put, sA, sZ, sS]
        refine tkY 6 24 (tuC u) rfl (yields_tu (by rfl) _ rfl (w.heap.size + 1) rfl u KOK.out (fun W hW => Blk_10.below HU3.out (Blk_10.lt HU3.out) hW)) hHeld ?_
        simp only [Act.put, sA, sZ, sS]
        refine tkY 7 25 (.bool false) rfl (yields_eql (by rfl) 34 _ _ _ rfl (tuL t).toArray (tuL u).toArray rfl rfl guard_tu false HQQ.out) hHeld ?_
        simp only [Act.put, sA, sZ, sS]
        refine wpAnyH_ready (rs := [1]) (by kernel_rfl) (by simp) (AllReadyH.cons (o := ⟨some 19, _, _, _, _, _⟩) rfl (fun K hK => ?_) AllReadyH.nil)
        go_simp
        refine (HSB.out _).mono ?_
        rintro e Z1 ⟨v, rfl, hown, hb⟩
        have HZ1 := Lib.hid (hHeld.trans (hb.mono hHeld.size))
        obtain ⟨A4, c4, rfl, _, _, hr⟩ := hown.formN HTL.out
        have HR4 := Lib.hid hr
        refine hK.out _ _ (HZ1.out) (fun hHeld => ?_)
        clear hK K hb hown hr
        refine wpAnyH_ready (rs := [3]) (by kernel_rfl) (by simp) (AllReadyH.cons (o := ⟨some 21, _, _, _, _, _⟩) rfl (fun K hK => ?_) AllReadyH.nil)
        go_simp
        refine (KSB.out _).mono ?_
        rintro e Z2 ⟨v, rfl, hown, hb⟩
        have HZ2 := Lib.hid (hHeld.trans (hb.mono hHeld.size))
        obtain ⟨A5, c5, rfl, _, _, hr⟩ := hown.formN KTL.out
        have HR5 := Lib.hid hr
        have HR6 := Lib.hid (HR4.out.below hb)
        refine hK.out _ _ (HZ2.out) (fun hHeld => ?_)
        clear hK K hb hown hr
        refine wpAnyH_ready (rs := [4]) (by kernel_rfl) (by simp) (AllReadyH.cons (o := ⟨some 22, _, _, _, _, _⟩) rfl (fun K hK => ?_) AllReadyH.nil)
        go_simp
        refine (differ_any Z2 c4 c5 HR6.out HR5.out HTB.out).mono ?_
        rintro e W ⟨rfl, rfl⟩
        refine hK.out _ _ (hHeld) (fun hHeld => ?_)
        clear hK K 
        refine tk 8 26 (.bool true) rfl hHeld ?_
        simp only [Act.put, sA, sZ, sS]
        refine tk 9 4 (.bool true) rfl hHeld ?_
        simp only [Act.put, sA, sZ, sS]
        refine wpAnyH_done (by kernel_rfl) ?_ _
        go_wp2_with fail
        go_ret
        exact ⟨rfl, HB3.out.trans (hHeld.mono HB3.out.size)⟩
end Go.Proofs.Ythfeamkomhiemaa
