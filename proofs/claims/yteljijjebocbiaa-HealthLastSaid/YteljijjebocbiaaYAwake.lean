/-
  awake of stage 19's laws, the program's contracts a premise.
-/
import Derived.Test.YteljijjebocbiaaYC
import Derived.BigQuiet
import Derived.Deep.QuietTactic
namespace Go.Proofs.Yteljijjebocbiaa
set_option maxRecDepth 100000
open Go.RowKit Go.Lib

set_option maxHeartbeats 16000000 in
theorem awake_any (S : HealthC) (w : World) : Calls Try.prog 10 #[] w fun e w' => e = .returned (.bool true) ∧ Below w.heap.size w w' := by
  have HRU : Hid (∀ W : World, Calls Try.prog 13 #[.agg #[.string ⟨#[97]⟩, .bool false, .int .i64 0], .slice (some ⟨W.heap.size, 0, none⟩) 5 5, .int .i64 2, .int .i64 3] (W.alloc (.cells #[.bool false, .bool false, .bool true, .bool false, .bool false] 4)) fun e w' => e = .returned (.tuple #[.agg #[.string ⟨#[97]⟩, .bool false, .int .i64 2], .int .i64 0]) ∧ Below W.heap.size W w') := Lib.hid (fun W => by
    have h := S.run (⟨[97], false, 0⟩ : Hl) _ 5 5 [false, false, true, false, false] 2 3 (W.alloc (.cells #[.bool false, .bool false, .bool true, .bool false, .bool false] 4)) (in0 _ _ _ (by decide) (by decide)) (by decide) (by decide) (by decide) (by decide) (by decide) (by decide) (by decide) (by decide) (by rw [World.size_alloc]; exact RdG.laid eT W [false, false, true, false, false] 5 rfl _ rfl)
    unfold RunGave at h
    rw [exRun] at h
    exact h.mono (fun e w' ⟨h1, h2⟩ => ⟨h1, ((Below.refl W.heap.size W).alloc (Nat.le_refl _) _).trans (h2.mono (by rw [World.size_alloc]; exact Nat.le_succ _))⟩))
  have HS1 : Hid (∀ W : World, Calls Try.prog 11 #[.agg #[.string ⟨#[97]⟩, .bool false, .int .i64 2], .bool false, .int .i64 2, .int .i64 3] W fun e w' => e = .returned (.tuple #[.agg #[.string ⟨#[97]⟩, .bool true, .int .i64 0], .bool true]) ∧ Below W.heap.size W w') := Lib.hid (fun W => by
    have h := S.step (⟨[97], false, 2⟩ : Hl) false 2 3 W (in0 _ _ _ (by decide) (by decide)) (by decide) (by decide) (by decide) (by decide) (by decide)
    unfold StepGave at h
    rw [exG] at h
    exact h)
  have HS2 : Hid (∀ W : World, Calls Try.prog 11 #[.agg #[.string ⟨#[97]⟩, .bool true, .int .i64 0], .bool true, .int .i64 2, .int .i64 3] W fun e w' => e = .returned (.tuple #[.agg #[.string ⟨#[97]⟩, .bool true, .int .i64 1], .bool false]) ∧ Below W.heap.size W w') := Lib.hid (fun W => by
    have h := S.step (⟨[97], true, 0⟩ : Hl) true 2 3 W (in0 _ _ _ (by decide) (by decide)) (by decide) (by decide) (by decide) (by decide) (by decide)
    unfold StepGave at h
    rw [exF] at h
    exact h)
  have HS3 : Hid (∀ W : World, Calls Try.prog 11 #[.agg #[.string ⟨#[97]⟩, .bool true, .int .i64 1], .bool true, .int .i64 2, .int .i64 3] W fun e w' => e = .returned (.tuple #[.agg #[.string ⟨#[97]⟩, .bool false, .int .i64 0], .bool true]) ∧ Below W.heap.size W w') := Lib.hid (fun W => by
    have h := S.step (⟨[97], true, 1⟩ : Hl) true 2 3 W (in0 _ _ _ (by decide) (by decide)) (by decide) (by decide) (by decide) (by decide) (by decide)
    unfold StepGave at h
    rw [exE] at h
    exact h)
  have HSY : Hid (∀ W : World, Calls Try.prog 17 #[.slice (some ⟨W.heap.size, 0, none⟩) 1 1, .slice (some ⟨W.heap.size + 1, 0, none⟩) 3 3] ((W.alloc (.cells #[.string ⟨#[97]⟩, .bool true, .int .i64 0] eH.T)).alloc (.cells #[.string ⟨#[98]⟩, .string ⟨#[97]⟩, .string ⟨#[98]⟩] 9)) fun e w' => ∃ v, e = .returned v ∧ OwnG eH w' W.heap.size v [(⟨[97], true, 0⟩ : Hl), (⟨[98], false, 0⟩ : Hl)] ∧ Below W.heap.size W w') := Lib.hid (fun W => by
    have hs : (W.alloc (.cells #[.string ⟨#[97]⟩, .bool true, .int .i64 0] eH.T)).heap.size = W.heap.size + 1 := World.size_alloc _ _
    obtain ⟨Y, hY⟩ : ∃ Y, (W.alloc (.cells #[.string ⟨#[97]⟩, .bool true, .int .i64 0] eH.T)).alloc (.cells #[.string ⟨#[98]⟩, .string ⟨#[97]⟩, .string ⟨#[98]⟩] 9) = Y := ⟨_, rfl⟩
    have hsY : Y.heap.size = W.heap.size + 1 + 1 := by rw [← hY, World.size_alloc, hs]
    have k1 : RdG eH Y Y.heap.size (some ⟨W.heap.size, 0, none⟩) 1 [(⟨[97], true, 0⟩ : Hl)] := by rw [hsY, ← hY]; exact ((RdG.laid eH W [(⟨[97], true, 0⟩ : Hl)] 1 rfl _ rfl).alloc (by rw [World.size_alloc]; exact Nat.le_refl _) _).more (Nat.le_succ _)
    have k2 : RdG eN Y Y.heap.size (some ⟨W.heap.size + 1, 0, none⟩) 3 [[98], [97], [98]] := by
      have := RdG.laid eN (W.alloc (.cells #[.string ⟨#[97]⟩, .bool true, .int .i64 0] eH.T)) [[98], [97], [98]] 3 rfl #[.string ⟨#[98]⟩, .string ⟨#[97]⟩, .string ⟨#[98]⟩] rfl
      rw [hs] at this
      rw [hsY, ← hY]
      exact this
    have hb : Below W.heap.size W Y := by rw [← hY]; exact ((Below.refl W.heap.size W).alloc (Nat.le_refl _) _).alloc (by rw [hs]; exact Nat.le_succ _) _
    rw [hY]
    have h := S.sync _ _ 1 3 1 3 [(⟨[97], true, 0⟩ : Hl)] [[98], [97], [98]] Y (by decide) (by decide) (by decide) (by decide) (by decide) (by decide) (fun x hx => by rw [List.mem_singleton.1 hx]; exact ⟨in0 _ _ _ (by decide) (by decide), by decide⟩) (by decide) k1 k2
    unfold SyncGave at h
    rw [exL] at h
    exact h.mono (fun e w' ⟨v, h1, h2, h3⟩ => ⟨v, h1, h2.base_le hb.size, hb.trans (h3.mono hb.size)⟩))
  have HE1 : Hid (∀ (W : World) (p c : Nat), 2 ≤ c → c ≤ maxLen → RdG eH W W.heap.size (some ⟨p, 0, none⟩) 2 [(⟨[97], true, 0⟩ : Hl), (⟨[98], false, 0⟩ : Hl)] → Calls Try.prog 23 #[.slice (some ⟨p, 0, none⟩) 2 c, .string ⟨#[98]⟩, .bool false, .int .i64 1, .int .i64 1] W fun e w' => ∃ v tn, e = .returned (.tuple #[v, .bool tn, .int .i64 0]) ∧ OwnG eH w' W.heap.size v [(⟨[97], true, 0⟩ : Hl), (⟨[98], true, 0⟩ : Hl)] ∧ Below W.heap.size W w') := Lib.hid (fun W p c hc hm hr => by
    have h := S.set _ 2 c [(⟨[97], true, 0⟩ : Hl), (⟨[98], false, 0⟩ : Hl)] [98] false 1 1 W (by decide) hc hm (fun x hx => (List.mem_cons.1 hx).elim (fun h => by rw [h]; exact ⟨in0 _ _ _ (by decide) (by decide), by decide⟩) (fun h => by rw [List.mem_singleton.1 h]; exact ⟨in0 _ _ _ (by decide) (by decide), by decide⟩)) (by decide) (by decide) (by decide) (by decide) (by decide) hr
    unfold SetGave at h
    rw [exP, exM] at h
    exact h.mono (fun e w' ⟨v, h1, h2, h3⟩ => ⟨v, _, h1, h2, h3⟩))
  have HE2 : Hid (∀ (W : World) (p c : Nat), 2 ≤ c → c ≤ maxLen → RdG eH W W.heap.size (some ⟨p, 0, none⟩) 2 [(⟨[97], true, 0⟩ : Hl), (⟨[98], false, 0⟩ : Hl)] → Calls Try.prog 23 #[.slice (some ⟨p, 0, none⟩) 2 c, .string ⟨#[99]⟩, .bool false, .int .i64 1, .int .i64 1] W fun e w' => ∃ v tn, e = .returned (.tuple #[v, .bool tn, .int .i64 5]) ∧  Below W.heap.size W w') := Lib.hid (fun W p c hc hm hr => by
    have h := S.set _ 2 c [(⟨[97], true, 0⟩ : Hl), (⟨[98], false, 0⟩ : Hl)] [99] false 1 1 W (by decide) hc hm (fun x hx => (List.mem_cons.1 hx).elim (fun h => by rw [h]; exact ⟨in0 _ _ _ (by decide) (by decide), by decide⟩) (fun h => by rw [List.mem_singleton.1 h]; exact ⟨in0 _ _ _ (by decide) (by decide), by decide⟩)) (by decide) (by decide) (by decide) (by decide) (by decide) hr
    unfold SetGave at h
    rw [exN] at h
    exact h.mono (fun e w' ⟨v, h1, h2, h3⟩ => ⟨v, _, h1, h3⟩))
  have HDN : Hid (∀ (W : World) (p c : Nat), 2 ≤ c → c ≤ maxLen → RdG eH W W.heap.size (some ⟨p, 0, none⟩) 2 [(⟨[97], true, 0⟩ : Hl), (⟨[98], true, 0⟩ : Hl)] → Calls Try.prog 21 #[.slice (some ⟨p, 0, none⟩) 2 c] W fun e w' => ∃ v, e = .returned v ∧ OwnG eN w' W.heap.size v [[97], [98]] ∧ Below W.heap.size W w') := Lib.hid (fun W p c hc hm hr => by
    have h := S.down _ 2 c [(⟨[97], true, 0⟩ : Hl), (⟨[98], true, 0⟩ : Hl)] W (by decide) hc hm (fun x hx => (List.mem_cons.1 hx).elim (fun h => by rw [h]; exact ⟨in0 _ _ _ (by decide) (by decide), by decide⟩) (fun h => by rw [List.mem_singleton.1 h]; exact ⟨in0 _ _ _ (by decide) (by decide), by decide⟩)) hr
    rw [exD] at h
    exact h)
  clear S
  go_enter Try.func10, Try.ntmps10
  go_upto_region 9 with (first
    | ((with_reducible refine (HRU.out w).mono ?_); rintro e w1 ⟨rfl, hb⟩; have D1 := Lib.hid (hb); clear hb)
    | ((with_reducible show wpList _ _ _ (⟨none, .store 23 (.tmp 1) _, _, _, _, _⟩ :: _) _ _); refine wpList_storeNewG rfl 23 (.tmp 1) _ rfl (by rfl) (hlL (⟨[97], false, 2⟩ : Hl)) (by rfl) (by rfl) hlSize (hl_one _) ?_; intro w2 hk hb hz; clear hz; have K2 := Lib.hid hk; have D2 := Lib.hid (bel2 D1.out hb); clear hk hb)
    | ((with_reducible show wpList _ _ _ (⟨some 24, _, _, _, _, _⟩ :: _) _ _); refine wpList_loadHl (op := ⟨some 24, _, _, _, _, _⟩) _ rfl (by rfl) w1.heap.size 0 (by rfl) (⟨[97], false, 2⟩ : Hl) (Blk_10.range K2.out) (#[.string ⟨#[97]⟩, .bool false, .int .i64 2]) rfl ?_)
    | ((with_reducible refine (HS1.out w2).mono ?_); rintro e w3 ⟨rfl, hb⟩; have K2 := Lib.hid (Blk_10.below K2.out (Blk_10.lt K2.out) hb); have D3 := Lib.hid (bel2 D2.out hb); clear hb)
    | ((with_reducible show wpList _ _ _ (⟨none, .store 23 (.tmp 3) _, _, _, _, _⟩ :: _) _ _); refine wpList_storeNewG rfl 23 (.tmp 3) _ rfl (by rfl) (hlL (⟨[97], true, 0⟩ : Hl)) (by rfl) (by rfl) hlSize (hl_one _) ?_; intro w4 hk hb hz; clear hz; have K2 := Lib.hid (Blk_10.below K2.out (Blk_10.lt K2.out) hb); have K4 := Lib.hid hk; have D4 := Lib.hid (bel2 D3.out hb); clear hk hb)
    | ((with_reducible show wpList _ _ _ (⟨some 29, _, _, _, _, _⟩ :: _) _ _); refine wpList_loadHl (op := ⟨some 29, _, _, _, _, _⟩) _ rfl (by rfl) w3.heap.size 0 (by rfl) (⟨[97], true, 0⟩ : Hl) (Blk_10.range K4.out) (#[.string ⟨#[97]⟩, .bool true, .int .i64 0]) rfl ?_)
    | ((with_reducible refine (HS2.out w4).mono ?_); rintro e w5 ⟨rfl, hb⟩; have K2 := Lib.hid (Blk_10.below K2.out (Blk_10.lt K2.out) hb); have K4 := Lib.hid (Blk_10.below K4.out (Blk_10.lt K4.out) hb); have D5 := Lib.hid (bel2 D4.out hb); clear hb)
    | ((with_reducible show wpList _ _ _ (⟨none, .store 23 (.tmp 5) _, _, _, _, _⟩ :: _) _ _); refine wpList_storeNewG rfl 23 (.tmp 5) _ rfl (by rfl) (hlL (⟨[97], true, 1⟩ : Hl)) (by rfl) (by rfl) hlSize (hl_one _) ?_; intro w6 hk hb hz; clear hz; have K2 := Lib.hid (Blk_10.below K2.out (Blk_10.lt K2.out) hb); have K4 := Lib.hid (Blk_10.below K4.out (Blk_10.lt K4.out) hb); have K6 := Lib.hid hk; have D6 := Lib.hid (bel2 D5.out hb); clear hk hb)
    | ((with_reducible show wpList _ _ _ (⟨some 34, _, _, _, _, _⟩ :: _) _ _); refine wpList_loadHl (op := ⟨some 34, _, _, _, _, _⟩) _ rfl (by rfl) w5.heap.size 0 (by rfl) (⟨[97], true, 1⟩ : Hl) (Blk_10.range K6.out) (#[.string ⟨#[97]⟩, .bool true, .int .i64 1]) rfl ?_)
    | ((with_reducible refine (HS3.out w6).mono ?_); rintro e w7 ⟨rfl, hb⟩; have K2 := Lib.hid (Blk_10.below K2.out (Blk_10.lt K2.out) hb); have K4 := Lib.hid (Blk_10.below K4.out (Blk_10.lt K4.out) hb); have K6 := Lib.hid (Blk_10.below K6.out (Blk_10.lt K6.out) hb); have D7 := Lib.hid (bel2 D6.out hb); clear hb)
    | ((with_reducible show wpList _ _ _ (⟨none, .store 23 (.tmp 7) _, _, _, _, _⟩ :: _) _ _); refine wpList_storeNewG rfl 23 (.tmp 7) _ rfl (by rfl) (hlL (⟨[97], false, 0⟩ : Hl)) (by rfl) (by rfl) hlSize (hl_one _) ?_; intro w8 hk hb hz; clear hz; have K2 := Lib.hid (Blk_10.below K2.out (Blk_10.lt K2.out) hb); have K4 := Lib.hid (Blk_10.below K4.out (Blk_10.lt K4.out) hb); have K6 := Lib.hid (Blk_10.below K6.out (Blk_10.lt K6.out) hb); have K8 := Lib.hid hk; have D8 := Lib.hid (bel2 D7.out hb); clear hk hb)
    | ((with_reducible show wpList _ _ _ (⟨some 38, _, _, _, _, _⟩ :: _) _ _); refine wpList_loadHl (op := ⟨some 38, _, _, _, _, _⟩) _ rfl (by rfl) w3.heap.size 0 (by rfl) (⟨[97], true, 0⟩ : Hl) (Blk_10.range K4.out) (#[.string ⟨#[97]⟩, .bool true, .int .i64 0]) rfl ?_)
    | ((with_reducible show wpList _ _ _ (⟨some 39, _, _, _, _, _⟩ :: _) _ _); refine wpList_build1 (o := ⟨some 39, _, _, _, _, _⟩) eH (by decide) (⟨[97], true, 0⟩ : Hl) rfl 38 rfl (#[.string ⟨#[97]⟩, .bool true, .int .i64 0]) rfl (by rfl) ?_)
    | ((with_reducible refine (HSY.out w8).mono ?_); rintro e w9 ⟨v9, rfl, ho, hb⟩; have K2 := Lib.hid (Blk_10.below K2.out (Blk_10.lt K2.out) hb); have K4 := Lib.hid (Blk_10.below K4.out (Blk_10.lt K4.out) hb); have K6 := Lib.hid (Blk_10.below K6.out (Blk_10.lt K6.out) hb); have K8 := Lib.hid (Blk_10.below K8.out (Blk_10.lt K8.out) hb); obtain ⟨p9, c9, hv9, hc9, hm9, _, _⟩ : ∃ g c, v9 = .slice (some ⟨g, 0, none⟩) 2 c ∧ 2 ≤ c ∧ c ≤ maxLen ∧ w8.heap.size ≤ g ∧ g < w9.heap.size := ho.form (by decide); subst hv9; have HC9 := Lib.hid hc9; have HM9 := Lib.hid hm9; clear hc9 hm9; have O9 := Lib.hid ho; clear ho; have D9 := Lib.hid (bel2 D8.out hb); clear hb)
    | ((with_reducible refine (HE1.out w9 p9 c9 HC9.out HM9.out O9.out.rd).mono ?_); rintro e w10 ⟨v10, tn10, rfl, ho, hb⟩; have K2 := Lib.hid (Blk_10.below K2.out (Blk_10.lt K2.out) hb); have K4 := Lib.hid (Blk_10.below K4.out (Blk_10.lt K4.out) hb); have K6 := Lib.hid (Blk_10.below K6.out (Blk_10.lt K6.out) hb); have K8 := Lib.hid (Blk_10.below K8.out (Blk_10.lt K8.out) hb); have O9 := Lib.hid (O9.out.below hb); obtain ⟨p10, c10, hv10, hc10, hm10, _, _⟩ : ∃ g c, v10 = .slice (some ⟨g, 0, none⟩) 2 c ∧ 2 ≤ c ∧ c ≤ maxLen ∧ w9.heap.size ≤ g ∧ g < w10.heap.size := ho.form (by decide); subst hv10; have HC10 := Lib.hid hc10; have HM10 := Lib.hid hm10; clear hc10 hm10; have O10 := Lib.hid ho; clear ho; have D10 := Lib.hid (bel2 D9.out hb); clear hb)
    | ((with_reducible refine (HE2.out w10 p9 c9 HC9.out HM9.out O9.out.rd).mono ?_); rintro e w11 ⟨v11, tn11, rfl, hb⟩; have K2 := Lib.hid (Blk_10.below K2.out (Blk_10.lt K2.out) hb); have K4 := Lib.hid (Blk_10.below K4.out (Blk_10.lt K4.out) hb); have K6 := Lib.hid (Blk_10.below K6.out (Blk_10.lt K6.out) hb); have K8 := Lib.hid (Blk_10.below K8.out (Blk_10.lt K8.out) hb); have O9 := Lib.hid (O9.out.below hb); have O10 := Lib.hid (O10.out.below hb); have D11 := Lib.hid (bel2 D10.out hb); clear hb)
    | ((with_reducible refine (HDN.out w11 p10 c10 HC10.out HM10.out O10.out.rd).mono ?_); rintro e w12 ⟨v12, rfl, ho, hb⟩; have K2 := Lib.hid (Blk_10.below K2.out (Blk_10.lt K2.out) hb); have K4 := Lib.hid (Blk_10.below K4.out (Blk_10.lt K4.out) hb); have K6 := Lib.hid (Blk_10.below K6.out (Blk_10.lt K6.out) hb); have K8 := Lib.hid (Blk_10.below K8.out (Blk_10.lt K8.out) hb); have O9 := Lib.hid (O9.out.below hb); have O10 := Lib.hid (O10.out.below hb); obtain ⟨p12, c12, hv12, hc12, hm12, _, _⟩ : ∃ g c, v12 = .slice (some ⟨g, 0, none⟩) 2 c ∧ 2 ≤ c ∧ c ≤ maxLen ∧ w11.heap.size ≤ g ∧ g < w12.heap.size := ho.form (by decide); subst hv12; have HC12 := Lib.hid hc12; have HM12 := Lib.hid hm12; clear hc12 hm12; have O12 := Lib.hid ho; clear ho; have D12 := Lib.hid (bel2 D11.out hb); clear hb))
  have a0 : w12.cell? ⟨w1.heap.size, 0, none⟩ = some (.string ⟨#[97]⟩) := Blk_10.cell K2.out (i := 0) rfl
  have a1 : w12.cell? ⟨w1.heap.size, 1, none⟩ = some (.bool false) := Blk_10.cell K2.out (i := 1) rfl
  have a2 : w12.cell? ⟨w1.heap.size, 2, none⟩ = some (.int .i64 2) := Blk_10.cell K2.out (i := 2) rfl
  have b0 : w12.cell? ⟨w3.heap.size, 0, none⟩ = some (.string ⟨#[97]⟩) := Blk_10.cell K4.out (i := 0) rfl
  have b1 : w12.cell? ⟨w3.heap.size, 1, none⟩ = some (.bool true) := Blk_10.cell K4.out (i := 1) rfl
  have b2 : w12.cell? ⟨w3.heap.size, 2, none⟩ = some (.int .i64 0) := Blk_10.cell K4.out (i := 2) rfl
  have c0 : w12.cell? ⟨w7.heap.size, 0, none⟩ = some (.string ⟨#[97]⟩) := Blk_10.cell K8.out (i := 0) rfl
  have c1 : w12.cell? ⟨w7.heap.size, 1, none⟩ = some (.bool false) := Blk_10.cell K8.out (i := 1) rfl
  have c2 : w12.cell? ⟨w7.heap.size, 2, none⟩ = some (.int .i64 0) := Blk_10.cell K8.out (i := 2) rfl
  have d0 : w12.cell? ⟨p9, 0, none⟩ = some (.string ⟨#[97]⟩) := by have h := O9.out.rd.cell (j := 0) rfl 0 rfl; exact h
  have d1 : w12.cell? ⟨p9, 1, none⟩ = some (.bool true) := by have h := O9.out.rd.cell (j := 0) rfl 1 rfl; exact h
  have d2 : w12.cell? ⟨p9, 2, none⟩ = some (.int .i64 0) := by have h := O9.out.rd.cell (j := 0) rfl 2 rfl; exact h
  have e0 : w12.cell? ⟨p9, 3, none⟩ = some (.string ⟨#[98]⟩) := by have h := O9.out.rd.cell (j := 1) rfl 0 rfl; exact h
  have e1 : w12.cell? ⟨p9, 4, none⟩ = some (.bool false) := by have h := O9.out.rd.cell (j := 1) rfl 1 rfl; exact h
  have e2 : w12.cell? ⟨p9, 5, none⟩ = some (.int .i64 0) := by have h := O9.out.rd.cell (j := 1) rfl 2 rfl; exact h
  have q12 : w12.cell? ⟨p12, 1, none⟩ = some (.string ⟨#[98]⟩) := by
      have h := O12.out.rd.cell (j := 1) rfl 0 rfl
      exact h
  have r5 : w12.cell? ⟨w5.heap.size, 2, none⟩ = some (.int .i64 1) := Blk_10.cell K6.out (i := 2) rfl
  have gh := guard_hl
  have eq1 : ∀ W : World, (Op.equalIn 10000 23 (.agg #[.string ⟨#[97]⟩, .bool false, .int .i64 2]) (.agg #[.string ⟨#[97]⟩, .bool false, .int .i64 2])).run Try.prog W = .ok true W := fun W => run_eq_hl W (⟨[97], false, 2⟩ : Hl) (⟨[97], false, 2⟩ : Hl)
  have eq2 : ∀ W : World, (Op.equalIn 10000 23 (.agg #[.string ⟨#[97]⟩, .bool true, .int .i64 0]) (.agg #[.string ⟨#[97]⟩, .bool true, .int .i64 0])).run Try.prog W = .ok true W := fun W => run_eq_hl W (⟨[97], true, 0⟩ : Hl) (⟨[97], true, 0⟩ : Hl)
  have eq3 : ∀ W : World, (Op.equalIn 10000 23 (.agg #[.string ⟨#[97]⟩, .bool false, .int .i64 0]) (.agg #[.string ⟨#[97]⟩, .bool false, .int .i64 0])).run Try.prog W = .ok true W := fun W => run_eq_hl W (⟨[97], false, 0⟩ : Hl) (⟨[97], false, 0⟩ : Hl)
  have eq4 : ∀ W : World, (Op.equalIn 10000 23 (.agg #[.string ⟨#[98]⟩, .bool false, .int .i64 0]) (.agg #[.string ⟨#[98]⟩, .bool false, .int .i64 0])).run Try.prog W = .ok true W := fun W => run_eq_hl W (⟨[98], false, 0⟩ : Hl) (⟨[98], false, 0⟩ : Hl)
  go_quiet (fail)
  go_wp2_with fail
  go_ret
  exact ⟨rfl, ⟨D12.out.os, D12.out.tape, D12.out.output, D12.out.size, D12.out.block⟩⟩
end Go.Proofs.Yteljijjebocbiaa
