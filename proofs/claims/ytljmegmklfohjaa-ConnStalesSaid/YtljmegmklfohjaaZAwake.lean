/-
  awake of stage 20's laws, the program's contracts a premise.
-/
import Derived.Test.YtljmegmklfohjaaZC
namespace Go.Proofs.Ytljmegmklfohjaa
set_option maxRecDepth 100000
open Go.RowKit Go.Lib

theorem bel2 {w w1 w2 : World} (h : Below w.heap.size w w1) (h1 : Below w1.heap.size w1 w2) : Below w.heap.size w w2 := h.trans (h1.mono h.size)
set_option maxHeartbeats 8000000 in
theorem awake_any (S : ConnC) (w : World) : Calls Try.prog 10 #[] w fun e w' => e = .returned (.bool true) ∧ Below w.heap.size w w' := by
  have L : ∀ z : Int, -1000 ≤ z → z ≤ 1000 → In64 z := in64_lit
  have B1 : Hid (∀ W, Calls Try.prog 11 #[.int .i64 6, .int .i64 2] W fun e w' => e = .returned (.int .i64 1) ∧ Below W.heap.size W w') := Lib.hid (fun W => by have h := S.begin_ 6 2 W (L _ (by decide) (by decide)) (L _ (by decide) (by decide)); rwa [exB1] at h)
  have B2 : Hid (∀ W, Calls Try.prog 11 #[.int .i64 17, .int .i64 0] W fun e w' => e = .returned (.int .i64 5) ∧ Below W.heap.size W w') := Lib.hid (fun W => by have h := S.begin_ 17 0 W (L _ (by decide) (by decide)) (L _ (by decide) (by decide)); rwa [exB2] at h)
  have B3 : Hid (∀ W, Calls Try.prog 11 #[.int .i64 1, .int .i64 0] W fun e w' => e = .returned (.int .i64 0) ∧ Below W.heap.size W w') := Lib.hid (fun W => by have h := S.begin_ 1 0 W (L _ (by decide) (by decide)) (L _ (by decide) (by decide)); rwa [exB3] at h)
  have N1 : Hid (∀ W, Calls Try.prog 13 #[.int .i64 1, .int .i64 18] W fun e w' => e = .returned (.int .i64 1) ∧ Below W.heap.size W w') := Lib.hid (fun W => by have h := S.next 1 18 W (L _ (by decide) (by decide)) (L _ (by decide) (by decide)); rwa [exN1] at h)
  have N2 : Hid (∀ W, Calls Try.prog 13 #[.int .i64 1, .int .i64 16] W fun e w' => e = .returned (.int .i64 2) ∧ Below W.heap.size W w') := Lib.hid (fun W => by have h := S.next 1 16 W (L _ (by decide) (by decide)) (L _ (by decide) (by decide)); rwa [exN2] at h)
  have N3 : Hid (∀ W, Calls Try.prog 13 #[.int .i64 2, .int .i64 1] W fun e w' => e = .returned (.int .i64 3) ∧ Below W.heap.size W w') := Lib.hid (fun W => by have h := S.next 2 1 W (L _ (by decide) (by decide)) (L _ (by decide) (by decide)); rwa [exN3] at h)
  have N4 : Hid (∀ W, Calls Try.prog 13 #[.int .i64 3, .int .i64 16] W fun e w' => e = .returned (.int .i64 3) ∧ Below W.heap.size W w') := Lib.hid (fun W => by have h := S.next 3 16 W (L _ (by decide) (by decide)) (L _ (by decide) (by decide)); rwa [exN4] at h)
  have R1 : Hid (∀ W : World, Calls Try.prog 15 #[.int .i64 1, .slice (some ⟨W.heap.size, 0, none⟩) 4 4] (W.alloc (.cells #[.int .i64 16, .int .i64 1, .int .i64 16, .int .i64 4] 3)) fun e w' => e = .returned (.int .i64 4) ∧ Below W.heap.size W w') := Lib.hid (fun W => by
    have h := S.run 1 (some ⟨W.heap.size, 0, none⟩) 4 4 [16, 1, 16, 4] (W.alloc (.cells #[.int .i64 16, .int .i64 1, .int .i64 16, .int .i64 4] 3)) (W.heap.size + 1) (L _ (by decide) (by decide)) (by decide) (by decide) (by decide) (fun z hz => by
      simp only [List.mem_cons, List.not_mem_nil, or_false] at hz
      rcases hz with rfl | rfl | rfl | rfl <;> exact L _ (by decide) (by decide)) (by rw [World.size_alloc]; exact Nat.le_refl _) (RdG.laid eZ W [16, 1, 16, 4] 4 rfl _ rfl)
    rw [exR] at h
    exact h.mono fun e w' ⟨h1, h2⟩ => ⟨h1, ((Below.refl W.heap.size W).alloc (Nat.le_refl _) _).trans (h2.mono (by rw [World.size_alloc]; exact Nat.le_succ _))⟩)
  have S1 : Hid (∀ W : World, Calls Try.prog 16 #[.int .i64 2, .int .i64 1, .int .i64 7, .agg #[.int .i64 0, .int .i64 5, .int .i64 5, .int .i64 5, .int .i64 5, .int .i64 5]] W fun e w' => e = .returned (.bool true) ∧ Below W.heap.size W w') := Lib.hid (fun W => by
    have h := S.stale 2 1 7 [0, 5, 5, 5, 5, 5] W (L _ (by decide) (by decide)) (L _ (by decide) (by decide)) (L _ (by decide) (by decide)) rfl (fun z hz => by
      simp only [List.mem_cons, List.not_mem_nil, or_false] at hz
      rcases hz with rfl | rfl | rfl | rfl | rfl | rfl <;> exact L _ (by decide) (by decide))
    rwa [exS1] at h)
  have S2 : Hid (∀ W : World, Calls Try.prog 16 #[.int .i64 2, .int .i64 1, .int .i64 6, .agg #[.int .i64 0, .int .i64 5, .int .i64 5, .int .i64 5, .int .i64 5, .int .i64 5]] W fun e w' => e = .returned (.bool false) ∧ Below W.heap.size W w') := Lib.hid (fun W => by
    have h := S.stale 2 1 6 [0, 5, 5, 5, 5, 5] W (L _ (by decide) (by decide)) (L _ (by decide) (by decide)) (L _ (by decide) (by decide)) rfl (fun z hz => by
      simp only [List.mem_cons, List.not_mem_nil, or_false] at hz
      rcases hz with rfl | rfl | rfl | rfl | rfl | rfl <;> exact L _ (by decide) (by decide))
    rwa [exS2] at h)
  clear L S
  go_enter Try.func10, Try.ntmps10
  go_wp2_with (first
    | ((with_reducible refine (B1.out _).mono ?_); rintro e w1 ⟨rfl, hb⟩; have D1 := Lib.hid hb; clear hb)
    | ((with_reducible refine (N1.out _).mono ?_); rintro e w2 ⟨rfl, hb⟩; have D2 := Lib.hid (bel2 D1.out hb); clear hb)
    | ((with_reducible refine (N2.out _).mono ?_); rintro e w3 ⟨rfl, hb⟩; have D3 := Lib.hid (bel2 D2.out hb); clear hb)
    | ((with_reducible refine (N3.out _).mono ?_); rintro e w4 ⟨rfl, hb⟩; have D4 := Lib.hid (bel2 D3.out hb); clear hb)
    | ((with_reducible refine (R1.out _).mono ?_); rintro e w5 ⟨rfl, hb⟩; have D5 := Lib.hid (bel2 D4.out hb); clear hb)
    | ((with_reducible refine (N4.out _).mono ?_); rintro e w6 ⟨rfl, hb⟩; have D6 := Lib.hid (D5.out.trans ((((Below.refl w5.heap.size w5).alloc (Nat.le_refl _) (.cells #[.int .i64 0, .int .i64 5, .int .i64 5, .int .i64 5, .int .i64 5, .int .i64 5] 30)).trans (hb.mono (by rw [World.size_alloc]; exact Nat.le_succ _))).mono D5.out.size)); have K6 := Lib.hid (Blk_10.below (Blk_10.new w5 30 [.int .i64 0, .int .i64 5, .int .i64 5, .int .i64 5, .int .i64 5, .int .i64 5]) (by rw [World.size_alloc]; exact Nat.lt_succ_self _) hb); clear hb)
    | ((with_reducible refine (B2.out _).mono ?_); rintro e w7 ⟨rfl, hb⟩; have D7 := Lib.hid (bel2 D6.out hb); have K7 := Lib.hid (Blk_10.below K6.out (Blk_10.lt K6.out) hb); clear hb)
    | ((with_reducible refine (B3.out _).mono ?_); rintro e w8 ⟨rfl, hb⟩; have D8 := Lib.hid (bel2 D7.out hb); have K8 := Lib.hid (Blk_10.below K7.out (Blk_10.lt K7.out) hb); clear hb)
    | ((with_reducible show wpList _ _ _ (⟨some 50, _, _, _, _, _⟩ :: _) _ _); refine wpList_loadM (op := ⟨some 50, _, _, _, _, _⟩) 30 _ rfl (by rfl) w5.heap.size 0 (by rfl) [.int .i64 0, .int .i64 5, .int .i64 5, .int .i64 5, .int .i64 5, .int .i64 5] (Blk_10.range K8.out) _ Try.underlying30 rfl size6 ?_)
    | ((with_reducible refine (S1.out _).mono ?_); rintro e w9 ⟨rfl, hb⟩; have D9 := Lib.hid (bel2 D8.out hb); have K9 := Lib.hid (Blk_10.below K8.out (Blk_10.lt K8.out) hb); clear hb)
    | ((with_reducible show wpList _ _ _ (⟨some 54, _, _, _, _, _⟩ :: _) _ _); refine wpList_loadM (op := ⟨some 54, _, _, _, _, _⟩) 30 _ rfl (by rfl) w5.heap.size 0 (by rfl) [.int .i64 0, .int .i64 5, .int .i64 5, .int .i64 5, .int .i64 5, .int .i64 5] (Blk_10.range K9.out) _ Try.underlying30 rfl size6 ?_)
    | ((with_reducible refine (S2.out _).mono ?_); rintro e w10 ⟨rfl, hb⟩; have D10 := Lib.hid (bel2 D9.out hb); clear hb))
  go_ret
  exact ⟨rfl, D10.out⟩
end Go.Proofs.Ytljmegmklfohjaa
