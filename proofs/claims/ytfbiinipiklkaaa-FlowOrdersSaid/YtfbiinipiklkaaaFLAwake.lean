/-
  awake of stage 21's laws, the program's contracts a premise.
-/
import Derived.Test.YtfbiinipiklkaaaFLEx
namespace Go.Proofs.Ytfbiinipiklkaaa
set_option maxRecDepth 100000
open Go.RowKit Go.Lib

set_option maxHeartbeats 16000000 in
theorem awake_any {Rep : RepF} (S : FlowC Rep) (w : World) : Calls Try.prog 10 #[] w fun e w' => e = .returned (.bool true) ∧ Below w.heap.size w w' := by
  obtain ⟨O0, hO0⟩ : ∃ O, (fwL fw0).toArray = O := ⟨_, rfl⟩
  have HO0 := Lib.hid (show fwC fw0 = .agg O0 by rw [← hO0]; rfl)
  have HA0 := Lib.hid hO0
  obtain ⟨O1, hO1⟩ : ∃ O, (fwL (oneF 1)).toArray = O := ⟨_, rfl⟩
  have HO1 := Lib.hid (show fwC (oneF 1) = .agg O1 by rw [← hO1]; rfl)
  have HA1 := Lib.hid hO1
  obtain ⟨O2, hO2⟩ : ∃ O, (fwL (oneF 2)).toArray = O := ⟨_, rfl⟩
  have HO2 := Lib.hid (show fwC (oneF 2) = .agg O2 by rw [← hO2]; rfl)
  have HA2 := Lib.hid hO2
  obtain ⟨O3, hO3⟩ : ∃ O, (fwL (oneF 3)).toArray = O := ⟨_, rfl⟩
  have HO3 := Lib.hid (show fwC (oneF 3) = .agg O3 by rw [← hO3]; rfl)
  have HA3 := Lib.hid hO3
  obtain ⟨O5, hO5⟩ : ∃ O, (fwL (oneF 5)).toArray = O := ⟨_, rfl⟩
  have HO5 := Lib.hid (show fwC (oneF 5) = .agg O5 by rw [← hO5]; rfl)
  have HA5 := Lib.hid hO5
  obtain ⟨O9, hO9⟩ : ∃ O, (fwL (oneF 9)).toArray = O := ⟨_, rfl⟩
  have HO9 := Lib.hid (show fwC (oneF 9) = .agg O9 by rw [← hO9]; rfl)
  have HA9 := Lib.hid hO9
  obtain ⟨K3, hK3⟩ : ∃ K, (tuL (oneF 3).k).toArray = K := ⟨_, rfl⟩
  have HK3 := Lib.hid (show tuC (oneF 3).k = .agg K3 by rw [← hK3]; rfl)
  have fl3 : ∀ W, (Instr.field 28 (.agg O3) 0).run Try.prog W = .ok (.agg K3) W := fun W => by have h := field_fw (oneF 3) W; rw [HO3.out, HK3.out] at h; exact h
  obtain ⟨K5, hK5⟩ : ∃ K, (tuL (oneF 5).k).toArray = K := ⟨_, rfl⟩
  have HK5 := Lib.hid (show tuC (oneF 5).k = .agg K5 by rw [← hK5]; rfl)
  have fl5 : ∀ W, (Instr.field 28 (.agg O5) 0).run Try.prog W = .ok (.agg K5) W := fun W => by have h := field_fw (oneF 5) W; rw [HO5.out, HK5.out] at h; exact h
  obtain ⟨K9, hK9⟩ : ∃ K, (tuL (oneF 9).k).toArray = K := ⟨_, rfl⟩
  have HK9 := Lib.hid (show tuC (oneF 9).k = .agg K9 by rw [← hK9]; rfl)
  have fl9 : ∀ W, (Instr.field 28 (.agg O9) 0).run Try.prog W = .ok (.agg K9) W := fun W => by have h := field_fw (oneF 9) W; rw [HO9.out, HK9.out] at h; exact h
  have C1 : Hid (∀ W, Calls Try.prog 31 #[.int .i64 1] W fun e w' => e = .returned (.agg O1) ∧ Below W.heap.size W w') := Lib.hid (fun W => by have h := rone_any 1 (by decide) W; rw [HO1.out] at h; exact h)
  have C2 : Hid (∀ W, Calls Try.prog 31 #[.int .i64 2] W fun e w' => e = .returned (.agg O2) ∧ Below W.heap.size W w') := Lib.hid (fun W => by have h := rone_any 2 (by decide) W; rw [HO2.out] at h; exact h)
  have C3 : Hid (∀ W, Calls Try.prog 31 #[.int .i64 3] W fun e w' => e = .returned (.agg O3) ∧ Below W.heap.size W w') := Lib.hid (fun W => by have h := rone_any 3 (by decide) W; rw [HO3.out] at h; exact h)
  have C5 : Hid (∀ W, Calls Try.prog 31 #[.int .i64 5] W fun e w' => e = .returned (.agg O5) ∧ Below W.heap.size W w') := Lib.hid (fun W => by have h := rone_any 5 (by decide) W; rw [HO5.out] at h; exact h)
  have C9 : Hid (∀ W, Calls Try.prog 31 #[.int .i64 9] W fun e w' => e = .returned (.agg O9) ∧ Below W.heap.size W w') := Lib.hid (fun W => by have h := rone_any 9 (by decide) W; rw [HO9.out] at h; exact h)
  have EQ3 : Hid (∀ W, (binOp .eql 28 (.agg O3) (.agg O3)).run Try.prog W = .ok (.bool true) W) := Lib.hid (fun W => by have h := run_eql_fw (oneF 3) (oneF 3) W; rw [HO3.out, fwQ_self] at h; exact h)
  have EQ9 : Hid (∀ W, (binOp .eql 28 (.agg O9) (.agg O9)).run Try.prog W = .ok (.bool true) W) := Lib.hid (fun W => by have h := run_eql_fw (oneF 9) (oneF 9) W; rw [HO9.out, fwQ_self] at h; exact h)
  have EQ5 : Hid (∀ W, (binOp .eql 28 (.agg O5) (.agg O5)).run Try.prog W = .ok (.bool true) W) := Lib.hid (fun W => by have h := run_eql_fw (oneF 5) (oneF 5) W; rw [HO5.out, fwQ_self] at h; exact h)
  have N1 : Hid (Calls Try.prog 11 #[.agg #[.int .u8 0, .int .u8 0, .int .u8 0, .int .u8 0, .int .u8 0, .int .u8 0, .int .u8 0, .int .u8 0, .int .u8 0, .int .u8 0, .int .u8 0, .int .u8 0, .int .u8 0, .int .u8 0, .int .u8 0, .int .u8 0], .int .i64 2] w (NewGave Rep w w.heap.size 2 w)) := Lib.hid (tb_new S (key := zer16) (r := 2) rfl (by decide) (by decide) (Nat.le_refl _) (Below.refl _ _))
  have N2 : Hid (∀ W, Calls Try.prog 11 #[.agg #[.int .u8 0, .int .u8 0, .int .u8 0, .int .u8 0, .int .u8 0, .int .u8 0, .int .u8 0, .int .u8 0, .int .u8 0, .int .u8 0, .int .u8 0, .int .u8 0, .int .u8 0, .int .u8 0, .int .u8 0, .int .u8 0], .int .i64 0] W fun e w' => e = .returned (.tuple #[.pointer none, .int .i64 1]) ∧ Below W.heap.size W w') := Lib.hid (fun W => S.none_ zer16 0 W rfl (in64_lo (by decide) (by decide)) (.inl (by decide)))
  have OL : Hid (∀ W, Calls Try.prog 15 #[.agg O1, .agg O2] W fun e w' => e = .returned (.bool true) ∧ Below W.heap.size W w') := Lib.hid (fun W => by have h := S.older (oneF 1) (oneF 2) W aw9.2.1 aw9.2.2; rw [HO1.out, HO2.out, aw9.1] at h; exact h)
  have RI : Hid (∀ W, Calls Try.prog 13 #[.agg O1] W fun e w' => e = .returned (.bool true) ∧ Below W.heap.size W w') := Lib.hid (fun W => by have h := S.right (oneF 1) W (one_in (by decide)); rw [HO1.out, aw9.2.1] at h; exact h)
  have HBZ : Hid (Try.prog.built 28 [] = some O0) := Lib.hid (by rw [← HA0.out]; kernel_rfl)
  clear hO0 hO1 hO2 hO3 hO5 hO9 hK3 hK5 hK9
  go_enter Try.func10, Try.ntmps10
  go_upto_region 2 with ((with_reducible refine (N1.out).mono ?_); rintro e w1 ⟨g, fp1, rfl, hT1, _, _⟩; have T1 := Lib.hid hT1; clear hT1)
  go_upto_region 3 with ((with_reducible refine (N2.out _).mono ?_); rintro e w2 ⟨rfl, hb2⟩; have T2 := Lib.hid (T1.out.below S hb2); clear hb2 T1)
  go_upto_region 5 with (fail)
  go_upto_region 6 with (first
    | ((with_reducible refine (C5.out w2).mono ?_); rintro e w3 ⟨rfl, hb3⟩; have T3 := Lib.hid (T2.out.below S hb3); clear hb3 T2)
    | ((have hq := tPut1 S T3.out); rw [HO5.out] at hq; rw [HO0.out] at hq; (with_reducible refine hq.mono ?_); clear hq; rintro e w4 ⟨rfl, fp4, hT4, hk4, hs4⟩; have T4 := Lib.hid hT4; clear hT4 hk4 hs4 T3)
    | ((with_reducible show wpList _ _ _ (⟨none, .store _ (.tmp 5) _, _, _, _, _⟩ :: _) _ _); refine wpList_storeNewG rfl 28 _ _ rfl (by rfl) (fwL fw0) (by rw [HA0.out]; rfl) (by rw [fwL_len]; rfl) (sizeFwL _) (fwL_one _) ?_; intro w5 hb5 hB5 _; have T5 := Lib.hid (T4.out.below S hB5); clear hb5 hB5 T4))
  go_upto_region 7 with (first
    | ((with_reducible refine (C3.out w5).mono ?_); rintro e w6 ⟨rfl, hb6⟩; have T6 := Lib.hid (T5.out.below S hb6); clear hb6 T5)
    | ((have hq := tPut2 S T6.out); rw [HO3.out] at hq; rw [HO0.out] at hq; (with_reducible refine hq.mono ?_); clear hq; rintro e w7 ⟨rfl, fp7, hT7, hk7, hs7⟩; have T7 := Lib.hid hT7; clear hT7 hk7 hs7 T6)
    | ((with_reducible show wpList _ _ _ (⟨none, .store _ (.tmp 8) _, _, _, _, _⟩ :: _) _ _); refine wpList_storeNewG rfl 28 _ _ rfl (by rfl) (fwL fw0) (by rw [HA0.out]; rfl) (by rw [fwL_len]; rfl) (sizeFwL _) (fwL_one _) ?_; intro w8 hb8 hB8 _; have T8 := Lib.hid (T7.out.below S hB8); clear hb8 hB8 T7))
  go_upto_region 8 with (first
    | ((with_reducible refine (C9.out w8).mono ?_); rintro e w9 ⟨rfl, hb9⟩; have T9 := Lib.hid (T8.out.below S hb9); clear hb9 T8)
    | ((have hq := tPut3 S T9.out); rw [HO9.out] at hq; rw [HO3.out] at hq; (with_reducible refine hq.mono ?_); clear hq; rintro e w10 ⟨rfl, fp10, hT10, hk10, hs10⟩; have T10 := Lib.hid hT10; clear hT10 hk10 hs10 T9)
    | ((with_reducible show wpList _ _ _ (⟨none, .store _ (.tmp 11) _, _, _, _, _⟩ :: _) _ _); refine wpList_storeNewG rfl 28 _ _ rfl (by rfl) (fwL (oneF 3)) (by rw [HA3.out]; rfl) (by rw [fwL_len]; rfl) (sizeFwL _) (fwL_one _) ?_; intro w11 hb11 hB11 _; have T11 := Lib.hid (T10.out.below S hB11); have G_11 : Hid (Out w11 fp10 w10.heap.size (oneF 3)) := Lib.hid ⟨hb11, T10.out.new_off S (Nat.le_refl _)⟩; clear hb11 hB11 T10))
  go_upto_region 9 with (first
    | ((have hq : Calls Try.prog 19 #[(.pointer (some ⟨g, 0, none⟩)), .agg #[.bool false, .int .u8 0, .int .u8 0, .int .u8 0, .int .u8 0, .int .u8 0, .int .u8 0, .int .u8 0, .int .u8 0, .int .u8 0, .int .u8 0, .int .u8 0, .int .u8 0, .int .u8 0, .int .u8 0, .int .u8 0, .int .u8 0, .bool false, .int .u8 0, .int .u8 0, .int .u8 0, .int .u8 0, .int .u8 0, .int .u8 0, .int .u8 0, .int .u8 0, .int .u8 0, .int .u8 0, .int .u8 0, .int .u8 0, .int .u8 0, .int .u8 0, .int .u8 0, .int .u8 0, .int .i64 0, .int .i64 0, .int .i64 0, .string ⟨#[]⟩, .int .i64 0, .int .i64 0, .int .i64 0]] w11 (MovGave Rep w w.heap.size (.pointer (some ⟨g, 0, none⟩)) 2 [oneF 5, oneF 9] w11 fp10 (.tuple #[fwC fw0, .bool false, .int .i64 1])) := tPut4 S T11.out); rw [HO0.out] at hq; (with_reducible refine hq.mono ?_); clear hq; rintro e w12 ⟨rfl, fp12, hT12, hk12, hs12⟩; have T12 := Lib.hid hT12; have G_12 := Lib.hid (G_11.out.left hk12 hs12); clear hT12 hk12 hs12 T11 G_11)
    | ((with_reducible show wpList _ _ _ (⟨none, .store _ (.tmp 14) _, _, _, _, _⟩ :: _) _ _); refine wpList_storeNewG rfl 28 _ _ rfl (by rfl) (fwL fw0) (by rw [HA0.out]; rfl) (by rw [fwL_len]; rfl) (sizeFwL _) (fwL_one _) ?_; intro w13 hb13 hB13 _; have T13 := Lib.hid (T12.out.below S hB13); have G_13 := Lib.hid (G_12.out.below hB13); clear hb13 hB13 T12 G_12))
  go_upto_region 10 with (first
    | ((with_reducible refine (C9.out w13).mono ?_); rintro e w14 ⟨rfl, hb14⟩; have T14 := Lib.hid (T13.out.below S hb14); have G_14 := Lib.hid (G_13.out.below hb14); clear hb14 T13 G_13)
    | ((have hq := tGet1 S T14.out); rw [HK9.out] at hq; rw [HO9.out] at hq; (with_reducible refine hq.mono ?_); clear hq; rintro e w15 ⟨rfl, fp15, hT15, hk15, hs15⟩; have T15 := Lib.hid hT15; have G_15 := Lib.hid (G_14.out.left hk15 hs15); clear hT15 hk15 hs15 T14 G_14)
    | ((with_reducible show wpList _ _ _ (⟨none, .store _ (.tmp 17) _, _, _, _, _⟩ :: _) _ _); refine wpList_storeNewG rfl 28 _ _ rfl (by rfl) (fwL (oneF 9)) (by rw [HA9.out]; rfl) (by rw [fwL_len]; rfl) (sizeFwL _) (fwL_one _) ?_; intro w16 hb16 hB16 _; have T16 := Lib.hid (T15.out.below S hB16); have G_16 := Lib.hid (G_15.out.below hB16); have H_16 : Hid (Out w16 fp15 w15.heap.size (oneF 9)) := Lib.hid ⟨hb16, T15.out.new_off S (Nat.le_refl _)⟩; clear hb16 hB16 T15 G_15))
  go_upto_region 11 with (first
    | ((with_reducible refine (C3.out w16).mono ?_); rintro e w17 ⟨rfl, hb17⟩; have T17 := Lib.hid (T16.out.below S hb17); have G_17 := Lib.hid (G_16.out.below hb17); have H_17 := Lib.hid (H_16.out.below hb17); clear hb17 T16 G_16 H_16)
    | ((have hq := tGet2 S T17.out); rw [HK3.out] at hq; rw [HO0.out] at hq; (with_reducible refine hq.mono ?_); clear hq; rintro e w18 ⟨rfl, fp18, hT18, hk18, hs18⟩; have T18 := Lib.hid hT18; have G_18 := Lib.hid (G_17.out.left hk18 hs18); have H_18 := Lib.hid (H_17.out.left hk18 hs18); clear hT18 hk18 hs18 T17 G_17 H_17)
    | ((with_reducible show wpList _ _ _ (⟨none, .store _ (.tmp 19) _, _, _, _, _⟩ :: _) _ _); refine wpList_storeNewG rfl 28 _ _ rfl (by rfl) (fwL fw0) (by rw [HA0.out]; rfl) (by rw [fwL_len]; rfl) (sizeFwL _) (fwL_one _) ?_; intro w19 hb19 hB19 _; have T19 := Lib.hid (T18.out.below S hB19); have G_19 := Lib.hid (G_18.out.below hB19); have H_19 := Lib.hid (H_18.out.below hB19); clear hb19 hB19 T18 G_18 H_18))
  go_upto_region 12 with ((have hq := T19.out.list S); (with_reducible refine hq.mono ?_); clear hq; rintro e w20 ⟨A, n, c, rfl, hn, hc, hm, ho, fp20, hT20, hk20, hs20, hd20⟩; have T20 := Lib.hid hT20; have X_20 : Hid (OutS w20 fp20 w19.heap.size (.slice A n c) [oneF 5, oneF 9]) := Lib.hid ⟨ho, hd20⟩; have G_20 := Lib.hid (G_19.out.left hk20 hs20); have H_20 := Lib.hid (H_19.out.left hk20 hs20); have HLN : Hid (n = 2) := Lib.hid hn; clear hT20 hk20 hs20 hd20 ho hn hc hm T19 G_19 H_19)
  obtain ⟨gx, cx, eX, _⟩ := X_20.out.1.form (by decide)
  have eA : A = some ⟨gx, 0, none⟩ := (by cases eX; rfl)
  subst eA
  have eN := HLN.out
  subst eN
  clear eX
  refine wp_region_held_drew (S := fun W => W.rangeAt w10.heap.size 0 (fwL (oneF 3)) ∧ W.rangeAt w15.heap.size 0 (fwL (oneF 9)) ∧ W.rangeAt gx 0 (fwL (oneF 5))) (by kernel_rfl) (⟨Blk_10.range G_20.out.1, Blk_10.range H_20.out.1, X_20.out.range⟩) (fun hHeld => ?_)
  have T21 := Lib.hid (T20.out.drew S)
  have G_21 := Lib.hid (show Out w20.drew fp20 w10.heap.size (oneF 3) from G_20.out)
  have H_21 := Lib.hid (show Out w20.drew fp20 w15.heap.size (oneF 9) from H_20.out)
  have X_21 := Lib.hid (show OutS w20.drew fp20 w19.heap.size (.slice (some ⟨gx, 0, none⟩) 2 c) [oneF 5, oneF 9] from X_20.out)
  clear T20 G_20 H_20 X_20
  generalize w20.drew = w21 at *
  refine tk 0 82 (.int .i64 1) rfl hHeld ?_
  simp only [Act.put, sA, sZ, sS]
  refine tk 1 83 (.bool true) rfl hHeld ?_
  simp only [Act.put, sA, sZ, sS]
  refine tk 2 84 (.bool true) rfl hHeld ?_
  simp only [Act.put, sA, sZ, sS]
  refine tk 3 85 (.bool false) rfl hHeld ?_
  simp only [Act.put, sA, sZ, sS]
  refine tk 4 86 (.bool true) rfl hHeld ?_
  simp only [Act.put, sA, sZ, sS]
  refine tk 5 87 (.bool true) rfl hHeld ?_
  simp only [Act.put, sA, sZ, sS]
  refine tk 6 88 (.bool true) rfl hHeld ?_
  simp only [Act.put, sA, sZ, sS]
  refine tk 7 89 (.bool false) rfl hHeld ?_
  simp only [Act.put, sA, sZ, sS]
  refine tk 8 90 (.bool true) rfl hHeld ?_
  simp only [Act.put, sA, sZ, sS]
  refine tk 9 91 (.bool true) rfl hHeld ?_
  simp only [Act.put, sA, sZ, sS]
  refine tk 10 92 (.bool true) rfl hHeld ?_
  simp only [Act.put, sA, sZ, sS]
  refine tk 11 93 (.bool true) rfl hHeld ?_
  simp only [Act.put, sA, sZ, sS]
  refine tk 12 94 (.bool true) rfl hHeld ?_
  simp only [Act.put, sA, sZ, sS]
  refine tk 13 95 (.bool true) rfl hHeld ?_
  simp only [Act.put, sA, sZ, sS]
  refine tk 14 96 (.int .i64 0) rfl hHeld ?_
  simp only [Act.put, sA, sZ, sS]
  refine tk 15 97 (.bool true) rfl hHeld ?_
  simp only [Act.put, sA, sZ, sS]
  refine tk 16 98 (.bool true) rfl hHeld ?_
  simp only [Act.put, sA, sZ, sS]
  refine tk 17 99 (.bool true) rfl hHeld ?_
  simp only [Act.put, sA, sZ, sS]
  refine tk 18 100 (.int .i64 1) rfl hHeld ?_
  simp only [Act.put, sA, sZ, sS]
  refine tk 19 101 (.bool true) rfl hHeld ?_
  simp only [Act.put, sA, sZ, sS]
  refine tk 20 102 (.bool true) rfl hHeld ?_
  simp only [Act.put, sA, sZ, sS]
  refine tk 21 103 (.bool true) rfl hHeld ?_
  simp only [Act.put, sA, sZ, sS]
  refine tkY 22 104 (.agg O3) rfl (by rw [← HA3.out]; exact yieldsIf_load_mid (by rfl) 28 _ rfl w10.heap.size 0 (by rfl) (fwL (oneF 3)) _ (fun W hW => hW.1) Try.underlying28 rfl (sizeFwL _)) hHeld ?_
  simp only [Act.put, sA, sZ, sS]
  refine wpAnyH_ready (rs := [23]) (by kernel_rfl) (by simp) (AllReadyH.cons (o := ⟨some 105, _, _, _, _, _⟩) rfl (fun K hK => ?_) AllReadyH.nil)
  go_simp
  refine (C3.out w21).mono ?_
  rintro e w22 ⟨rfl, hb⟩
  have T22 := Lib.hid (T21.out.below S hb)
  have G_22 := Lib.hid (G_21.out.below hb)
  have H_22 := Lib.hid (H_21.out.below hb)
  have X_22 := Lib.hid (X_21.out.below hb)
  clear hb T21 G_21 H_21 X_21
  refine hK.out _ _ (⟨Blk_10.range G_22.out.1, Blk_10.range H_22.out.1, X_22.out.range⟩) (fun hHeld => ?_)
  clear hK K 
  refine tkY 24 106 (.bool true) rfl (yields_cmpS (by rfl) .eql 28 _ _ _ rfl _ _ (by rfl) (by rfl) guard_fw true EQ3.out) hHeld ?_
  simp only [Act.put, sA, sZ, sS]
  refine tk 25 107 (.bool true) rfl hHeld ?_
  simp only [Act.put, sA, sZ, sS]
  refine tk 26 108 (.bool true) rfl hHeld ?_
  simp only [Act.put, sA, sZ, sS]
  refine tk 27 109 (.bool true) rfl hHeld ?_
  simp only [Act.put, sA, sZ, sS]
  refine tk 28 110 (.bool true) rfl hHeld ?_
  simp only [Act.put, sA, sZ, sS]
  refine tk 29 111 (.bool true) rfl hHeld ?_
  simp only [Act.put, sA, sZ, sS]
  refine tkY 30 112 (.agg O9) rfl (by rw [← HA9.out]; exact yieldsIf_load_mid (by rfl) 28 _ rfl w15.heap.size 0 (by rfl) (fwL (oneF 9)) _ (fun W hW => hW.2.1) Try.underlying28 rfl (sizeFwL _)) hHeld ?_
  simp only [Act.put, sA, sZ, sS]
  refine wpAnyH_ready (rs := [31]) (by kernel_rfl) (by simp) (AllReadyH.cons (o := ⟨some 113, _, _, _, _, _⟩) rfl (fun K hK => ?_) AllReadyH.nil)
  go_simp
  refine (C9.out w22).mono ?_
  rintro e w23 ⟨rfl, hb⟩
  have T23 := Lib.hid (T22.out.below S hb)
  have G_23 := Lib.hid (G_22.out.below hb)
  have H_23 := Lib.hid (H_22.out.below hb)
  have X_23 := Lib.hid (X_22.out.below hb)
  clear hb T22 G_22 H_22 X_22
  refine hK.out _ _ (⟨Blk_10.range G_23.out.1, Blk_10.range H_23.out.1, X_23.out.range⟩) (fun hHeld => ?_)
  clear hK K 
  refine tkY 32 114 (.bool true) rfl (yields_cmpS (by rfl) .eql 28 _ _ _ rfl _ _ (by rfl) (by rfl) guard_fw true EQ9.out) hHeld ?_
  simp only [Act.put, sA, sZ, sS]
  refine tk 33 115 (.bool true) rfl hHeld ?_
  simp only [Act.put, sA, sZ, sS]
  refine tk 34 116 (.bool true) rfl hHeld ?_
  simp only [Act.put, sA, sZ, sS]
  refine tk 35 117 (.bool false) rfl hHeld ?_
  simp only [Act.put, sA, sZ, sS]
  refine tk 36 118 (.bool true) rfl hHeld ?_
  simp only [Act.put, sA, sZ, sS]
  refine tk 37 119 (.bool true) rfl hHeld ?_
  simp only [Act.put, sA, sZ, sS]
  refine tk 38 120 (.bool true) rfl hHeld ?_
  simp only [Act.put, sA, sZ, sS]
  refine tk 39 121 (.pointer (some ⟨g, 0, none⟩)) rfl hHeld ?_
  simp only [Act.put, sA, sZ, sS]
  refine wpAnyH_ready (rs := [40]) (by kernel_rfl) (by simp) (AllReadyH.cons (o := ⟨some 122, _, _, _, _, _⟩) rfl (fun K hK => ?_) AllReadyH.nil)
  go_simp
  have hq := T23.out.len S
  refine hq.mono ?_
  clear hq
  rintro e w24 ⟨rfl, fp24, hT, hk, hs⟩
  have T24 := Lib.hid hT
  have G_24 := Lib.hid (G_23.out.left hk hs)
  have H_24 := Lib.hid (H_23.out.left hk hs)
  have X_24 := Lib.hid (X_23.out.left hk hs)
  clear hT hk hs T23 G_23 H_23 X_23
  refine hK.out _ _ (⟨Blk_10.range G_24.out.1, Blk_10.range H_24.out.1, X_24.out.range⟩) (fun hHeld => ?_)
  clear hK K 
  refine tk 41 123 (.bool true) rfl hHeld ?_
  simp only [Act.put, sA, sZ, sS]
  refine tk 42 124 (.bool true) rfl hHeld ?_
  simp only [Act.put, sA, sZ, sS]
  refine tk 43 125 (.bool true) rfl hHeld ?_
  simp only [Act.put, sA, sZ, sS]
  refine tk 44 126 (.slice (some ⟨gx, 0, none⟩) 2 c) rfl hHeld ?_
  simp only [Act.put, sA, sZ, sS]
  refine tk 45 127 (.int .i64 2) rfl hHeld ?_
  simp only [Act.put, sA, sZ, sS]
  refine tk 46 128 (.bool true) rfl hHeld ?_
  simp only [Act.put, sA, sZ, sS]
  refine tk 47 129 (.bool true) rfl hHeld ?_
  simp only [Act.put, sA, sZ, sS]
  refine tk 48 130 (.bool true) rfl hHeld ?_
  simp only [Act.put, sA, sZ, sS]
  refine tk 49 131 (.slice (some ⟨gx, 0, none⟩) 2 c) rfl hHeld ?_
  simp only [Act.put, sA, sZ, sS]
  refine tk 50 132 (.pointer (some ⟨gx, 0, none⟩)) rfl hHeld ?_
  simp only [Act.put, sA, sZ, sS]
  refine tkY 51 133 (.agg O5) rfl (by rw [← HA5.out]; exact yieldsIf_load_mid (by rfl) 28 _ rfl gx 0 (by rfl) (fwL (oneF 5)) _ (fun W hW => hW.2.2) Try.underlying28 rfl (sizeFwL _)) hHeld ?_
  simp only [Act.put, sA, sZ, sS]
  refine wpAnyH_ready (rs := [52]) (by kernel_rfl) (by simp) (AllReadyH.cons (o := ⟨some 134, _, _, _, _, _⟩) rfl (fun K hK => ?_) AllReadyH.nil)
  go_simp
  refine (C5.out w24).mono ?_
  rintro e w25 ⟨rfl, hb⟩
  have T25 := Lib.hid (T24.out.below S hb)
  have G_25 := Lib.hid (G_24.out.below hb)
  have H_25 := Lib.hid (H_24.out.below hb)
  have X_25 := Lib.hid (X_24.out.below hb)
  clear hb T24 G_24 H_24 X_24
  refine hK.out _ _ (⟨Blk_10.range G_25.out.1, Blk_10.range H_25.out.1, X_25.out.range⟩) (fun hHeld => ?_)
  clear hK K 
  refine tkY 53 135 (.bool true) rfl (yields_cmpS (by rfl) .eql 28 _ _ _ rfl _ _ (by rfl) (by rfl) guard_fw true EQ5.out) hHeld ?_
  simp only [Act.put, sA, sZ, sS]
  refine tk 54 136 (.bool true) rfl hHeld ?_
  simp only [Act.put, sA, sZ, sS]
  refine tk 55 137 (.bool true) rfl hHeld ?_
  simp only [Act.put, sA, sZ, sS]
  refine wpAnyH_ready (rs := [56]) (by kernel_rfl) (by simp) (AllReadyH.cons (o := ⟨some 138, _, _, _, _, _⟩) rfl (fun K hK => ?_) AllReadyH.nil)
  go_simp
  refine (C1.out w25).mono ?_
  rintro e w26 ⟨rfl, hb⟩
  have T26 := Lib.hid (T25.out.below S hb)
  have G_26 := Lib.hid (G_25.out.below hb)
  have H_26 := Lib.hid (H_25.out.below hb)
  have X_26 := Lib.hid (X_25.out.below hb)
  clear hb T25 G_25 H_25 X_25
  refine hK.out _ _ (⟨Blk_10.range G_26.out.1, Blk_10.range H_26.out.1, X_26.out.range⟩) (fun hHeld => ?_)
  clear hK K 
  refine wpAnyH_ready (rs := [57]) (by kernel_rfl) (by simp) (AllReadyH.cons (o := ⟨some 139, _, _, _, _, _⟩) rfl (fun K hK => ?_) AllReadyH.nil)
  go_simp
  refine (C2.out w26).mono ?_
  rintro e w27 ⟨rfl, hb⟩
  have T27 := Lib.hid (T26.out.below S hb)
  have G_27 := Lib.hid (G_26.out.below hb)
  have H_27 := Lib.hid (H_26.out.below hb)
  have X_27 := Lib.hid (X_26.out.below hb)
  clear hb T26 G_26 H_26 X_26
  refine hK.out _ _ (⟨Blk_10.range G_27.out.1, Blk_10.range H_27.out.1, X_27.out.range⟩) (fun hHeld => ?_)
  clear hK K 
  refine wpAnyH_ready (rs := [58]) (by kernel_rfl) (by simp) (AllReadyH.cons (o := ⟨some 140, _, _, _, _, _⟩) rfl (fun K hK => ?_) AllReadyH.nil)
  go_simp
  refine (OL.out w27).mono ?_
  rintro e w28 ⟨rfl, hb⟩
  have T28 := Lib.hid (T27.out.below S hb)
  have G_28 := Lib.hid (G_27.out.below hb)
  have H_28 := Lib.hid (H_27.out.below hb)
  have X_28 := Lib.hid (X_27.out.below hb)
  clear hb T27 G_27 H_27 X_27
  refine hK.out _ _ (⟨Blk_10.range G_28.out.1, Blk_10.range H_28.out.1, X_28.out.range⟩) (fun hHeld => ?_)
  clear hK K 
  refine tk 59 141 (.bool true) rfl hHeld ?_
  simp only [Act.put, sA, sZ, sS]
  refine tk 60 142 (.bool true) rfl hHeld ?_
  simp only [Act.put, sA, sZ, sS]
  refine wpAnyH_ready (rs := [61]) (by kernel_rfl) (by simp) (AllReadyH.cons (o := ⟨some 143, _, _, _, _, _⟩) rfl (fun K hK => ?_) AllReadyH.nil)
  go_simp
  refine (C1.out w28).mono ?_
  rintro e w29 ⟨rfl, hb⟩
  have T29 := Lib.hid (T28.out.below S hb)
  have G_29 := Lib.hid (G_28.out.below hb)
  have H_29 := Lib.hid (H_28.out.below hb)
  have X_29 := Lib.hid (X_28.out.below hb)
  clear hb T28 G_28 H_28 X_28
  refine hK.out _ _ (⟨Blk_10.range G_29.out.1, Blk_10.range H_29.out.1, X_29.out.range⟩) (fun hHeld => ?_)
  clear hK K 
  refine wpAnyH_ready (rs := [62]) (by kernel_rfl) (by simp) (AllReadyH.cons (o := ⟨some 144, _, _, _, _, _⟩) rfl (fun K hK => ?_) AllReadyH.nil)
  go_simp
  refine (RI.out w29).mono ?_
  rintro e w30 ⟨rfl, hb⟩
  have T30 := Lib.hid (T29.out.below S hb)
  have G_30 := Lib.hid (G_29.out.below hb)
  have H_30 := Lib.hid (H_29.out.below hb)
  have X_30 := Lib.hid (X_29.out.below hb)
  clear hb T29 G_29 H_29 X_29
  refine hK.out _ _ (⟨Blk_10.range G_30.out.1, Blk_10.range H_30.out.1, X_30.out.range⟩) (fun hHeld => ?_)
  clear hK K 
  refine tk 63 145 (.bool true) rfl hHeld ?_
  simp only [Act.put, sA, sZ, sS]
  refine tk 64 146 (.bool true) rfl hHeld ?_
  simp only [Act.put, sA, sZ, sS]
  refine tk 65 147 (.pointer (some ⟨g, 0, none⟩)) rfl hHeld ?_
  simp only [Act.put, sA, sZ, sS]
  refine wpAnyH_ready (rs := [66]) (by kernel_rfl) (by simp) (AllReadyH.cons (o := ⟨some 148, _, _, _, _, _⟩) rfl (fun K hK => ?_) AllReadyH.nil)
  go_simp
  refine (C5.out w30).mono ?_
  rintro e w31 ⟨rfl, hb⟩
  have T31 := Lib.hid (T30.out.below S hb)
  have G_31 := Lib.hid (G_30.out.below hb)
  have H_31 := Lib.hid (H_30.out.below hb)
  have X_31 := Lib.hid (X_30.out.below hb)
  clear hb T30 G_30 H_30 X_30
  refine hK.out _ _ (⟨Blk_10.range G_31.out.1, Blk_10.range H_31.out.1, X_31.out.range⟩) (fun hHeld => ?_)
  clear hK K 
  refine tk 67 149 (.agg K5) rfl hHeld ?_
  simp only [Act.put, sA, sZ, sS]
  refine wpAnyH_ready (rs := [68]) (by kernel_rfl) (by simp) (AllReadyH.cons (o := ⟨some 150, _, _, _, _, _⟩) rfl (fun K hK => ?_) AllReadyH.nil)
  go_simp
  have hq := tDrop1 S T31.out
  rw [HK5.out] at hq
  refine hq.mono ?_
  clear hq
  rintro e w32 ⟨rfl, fp32, hT, hk, hs⟩
  have T32 := Lib.hid hT
  have G_32 := Lib.hid (G_31.out.left hk hs)
  have H_32 := Lib.hid (H_31.out.left hk hs)
  have X_32 := Lib.hid (X_31.out.left hk hs)
  clear hT hk hs T31 G_31 H_31 X_31
  refine hK.out _ _ (⟨Blk_10.range G_32.out.1, Blk_10.range H_32.out.1, X_32.out.range⟩) (fun hHeld => ?_)
  clear hK K 
  refine tk 69 151 (.bool true) rfl hHeld ?_
  simp only [Act.put, sA, sZ, sS]
  refine tk 70 152 (.bool true) rfl hHeld ?_
  simp only [Act.put, sA, sZ, sS]
  refine tk 71 153 (.pointer (some ⟨g, 0, none⟩)) rfl hHeld ?_
  simp only [Act.put, sA, sZ, sS]
  refine wpAnyH_ready (rs := [72]) (by kernel_rfl) (by simp) (AllReadyH.cons (o := ⟨some 154, _, _, _, _, _⟩) rfl (fun K hK => ?_) AllReadyH.nil)
  go_simp
  refine (C5.out w32).mono ?_
  rintro e w33 ⟨rfl, hb⟩
  have T33 := Lib.hid (T32.out.below S hb)
  have G_33 := Lib.hid (G_32.out.below hb)
  have H_33 := Lib.hid (H_32.out.below hb)
  have X_33 := Lib.hid (X_32.out.below hb)
  clear hb T32 G_32 H_32 X_32
  refine hK.out _ _ (⟨Blk_10.range G_33.out.1, Blk_10.range H_33.out.1, X_33.out.range⟩) (fun hHeld => ?_)
  clear hK K 
  refine tk 73 155 (.agg K5) rfl hHeld ?_
  simp only [Act.put, sA, sZ, sS]
  refine wpAnyH_ready (rs := [74]) (by kernel_rfl) (by simp) (AllReadyH.cons (o := ⟨some 156, _, _, _, _, _⟩) rfl (fun K hK => ?_) AllReadyH.nil)
  go_simp
  have hq := tDrop2 S T33.out
  rw [HK5.out] at hq
  refine hq.mono ?_
  clear hq
  rintro e w34 ⟨rfl, fp34, hT, hk, hs⟩
  have T34 := Lib.hid hT
  have G_34 := Lib.hid (G_33.out.left hk hs)
  have H_34 := Lib.hid (H_33.out.left hk hs)
  have X_34 := Lib.hid (X_33.out.left hk hs)
  clear hT hk hs T33 G_33 H_33 X_33
  refine hK.out _ _ (⟨Blk_10.range G_34.out.1, Blk_10.range H_34.out.1, X_34.out.range⟩) (fun hHeld => ?_)
  clear hK K 
  refine tk 75 157 (.bool true) rfl hHeld ?_
  simp only [Act.put, sA, sZ, sS]
  refine tk 76 158 (.bool true) rfl hHeld ?_
  simp only [Act.put, sA, sZ, sS]
  refine tk 77 159 (.bool true) rfl hHeld ?_
  simp only [Act.put, sA, sZ, sS]
  refine tk 78 160 (.pointer (some ⟨g, 0, none⟩)) rfl hHeld ?_
  simp only [Act.put, sA, sZ, sS]
  refine wpAnyH_ready (rs := [79]) (by kernel_rfl) (by simp) (AllReadyH.cons (o := ⟨some 161, _, _, _, _, _⟩) rfl (fun K hK => ?_) AllReadyH.nil)
  go_simp
  have hq := T34.out.len S
  refine hq.mono ?_
  clear hq
  rintro e w35 ⟨rfl, fp35, hT, hk, hs⟩
  have T35 := Lib.hid hT
  have G_35 := Lib.hid (G_34.out.left hk hs)
  have H_35 := Lib.hid (H_34.out.left hk hs)
  have X_35 := Lib.hid (X_34.out.left hk hs)
  clear hT hk hs T34 G_34 H_34 X_34
  refine hK.out _ _ (⟨Blk_10.range G_35.out.1, Blk_10.range H_35.out.1, X_35.out.range⟩) (fun hHeld => ?_)
  clear hK K 
  refine tk 80 162 (.bool true) rfl hHeld ?_
  simp only [Act.put, sA, sZ, sS]
  refine tk 81 163 (.bool true) rfl hHeld ?_
  simp only [Act.put, sA, sZ, sS]
  refine tk 82 0 (.bool true) rfl hHeld ?_
  simp only [Act.put, sA, sZ]
  refine wpAnyH_done (by kernel_rfl) ?_ _
  go_wp2_with fail
  go_ret
  exact ⟨rfl, T35.out.bel⟩
end Go.Proofs.Ytfbiinipiklkaaa
