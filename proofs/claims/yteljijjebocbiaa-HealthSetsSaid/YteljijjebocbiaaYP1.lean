/-
  The program: bound, Step.
-/
import Derived.Test.YteljijjebocbiaaYRun
import Derived.BigQuiet
import Derived.Deep.QuietTactic
namespace Go.Proofs.Yteljijjebocbiaa
set_option maxRecDepth 100000
open Go.RowKit Go.Lib

theorem quietY {P : Program} {f : FuncId} {args : Array Value} {w : World} {n : Nat} {v : Value} (h : Calls P f args (w.drewN n) fun e w' => e = .returned v ∧ w.drewN n = w') :
    Calls P f args (w.drewN n) fun e w' => e = .returned v ∧ ∃ m, w' = w.drewN m :=
  h.mono fun _ _ g => ⟨g.1, n, g.2.symm⟩
theorem pbound_any (z : Int) (w : World) : Calls Try.prog 25 #[.int .i64 z] w fun e w' => e = .returned (.int .i64 (brZ z)) ∧ w = w' := by
  by_cases h1 : z < 1
  · have e : brZ z = 1 := if_pos h1
    rw [e]
    have h2 : ¬ 1 < z := by omega
    go_enter Try.func25, Try.ntmps25
    go_wp2_with fail
    go_ret
    exact ⟨by simp, rfl⟩
  · by_cases h2 : 100 < z
    · have e : brZ z = 100 := by unfold brZ; rw [if_neg h1, if_pos h2]
      rw [e]
      have h3 : ¬ z < 100 := by omega
      go_enter Try.func25, Try.ntmps25
      go_wp2_with fail
      go_ret
      exact ⟨by simp, rfl⟩
    · have e : brZ z = z := by unfold brZ; rw [if_neg h1, if_neg h2]
      rw [e]
      go_enter Try.func25, Try.ntmps25
      go_wp2_with fail
      go_ret
      exact ⟨by simp, rfl⟩
set_option maxHeartbeats 8000000 in
theorem pstep_any (h : Hl) (b : Bool) (rise fall : Int) (hr : -9223372036854775808 ≤ h.run) (hr2 : h.run ≤ 9223372036854775807) (w : World) : Calls Try.prog 11 #[hlC h, .bool b, .int .i64 rise, .int .i64 fall] w (StepGave w rise fall h b) := by
  unfold StepGave
  obtain ⟨nm, dn, run⟩ := h
  simp only at hr hr2
  obtain ⟨Y, hY⟩ : ∃ Y, (w.alloc (.cells #[strV nm, .bool dn, .int .i64 run] 23)).alloc (.cells #[.string ⟨#[]⟩, .bool false, .int .i64 0] 23) = Y := ⟨_, rfl⟩
  have hs := World.size_alloc w (.cells #[strV nm, .bool dn, .int .i64 run] 23)
  have HX := Lib.hid (show Blk Y 23 w.heap.size [strV nm, .bool dn, .int .i64 run] by rw [← hY]; exact Blk_10.alloc (Blk_10.new w _ [strV nm, .bool dn, .int .i64 run]) _)
  have HZ := Lib.hid (show Blk Y 23 (w.heap.size + 1) [.string ⟨#[]⟩, .bool false, .int .i64 0] by
    rw [← hY]
    have := Blk_10.new (w.alloc (.cells #[strV nm, .bool dn, .int .i64 run] 23)) 23 [.string ⟨#[]⟩, .bool false, .int .i64 0]
    rw [hs] at this
    exact this)
  have HB := Lib.hid (show Below w.heap.size w Y by rw [← hY]; exact ((Below.refl w.heap.size w).alloc (Nat.le_refl _) _).alloc (by rw [hs]; exact Nat.le_succ _) _)
  have HY := Lib.hid hY
  clear hY hs
  have c0 : Y.cell? ⟨w.heap.size, 0, none⟩ = some (.string ⟨nm.toArray⟩) := Blk_10.cell HX.out (i := 0) rfl
  have c1 : Y.cell? ⟨w.heap.size, 1, none⟩ = some (.bool dn) := Blk_10.cell HX.out (i := 1) rfl
  have c2 : Y.cell? ⟨w.heap.size, 2, none⟩ = some (.int .i64 run) := Blk_10.cell HX.out (i := 2) rfl
  obtain ⟨r, hrn⟩ : ∃ r, rnZ run = r := ⟨_, rfl⟩
  have hr0 : 0 ≤ r := by rw [← hrn]; exact rnZ_low run
  have hrm : r ≤ 9223372036854775807 := by rw [← hrn]; unfold rnZ; split <;> omega
  have HRN : Hid (if run < 0 then r = 0 else r = run) := Lib.hid (by rw [← hrn]; unfold rnZ; split <;> rfl)
  have HRR := Lib.hid hrn
  clear hrn
  have HBR := Lib.hid (fun z W => pbound_any z W)
  unfold hlC strV at *
  cases dn
  · cases b
    · skip
      obtain ⟨t, ht⟩ : ∃ t, brZ fall = t := ⟨_, rfl⟩
      have ht1 := brZ_low fall
      have HT := Lib.hid (fun W => HBR.out fall W)
      rw [ht] at ht1 HT
      have HTT := Lib.hid ht
      clear ht
      have wt : IntKind.i64.wrap (t - 1) = t - 1 := by rw [IntKind.wrap_i64]; omega
      by_cases hneg : run < 0
      · obtain rfl : r = 0 := by have := HRN.out; rw [if_pos hneg] at this; exact this
        have hng2 : ¬ 0 < run := by omega
        clear HRN
        by_cases hc : t - 1 ≤ 0
        · have HC := Lib.hid hc
          go_enter Try.func11, Try.ntmps11
          go_upto_region 1 with (fail)
          rw [HY.out]
          go_upto_region 8 with (((with_reducible show wpList _ _ _ (⟨none, .store _ (.tmp 24) _, _, _, _, _⟩ :: _) _ _); refine wpList_storeB1 rfl _ (.tmp 24) _ rfl w.heap.size 2 (by rfl) (.int .i64 0) (by rfl) 23 [.string ⟨nm.toArray⟩, .bool false, .int .i64 run] HX.out (show 2 < 3 by decide) (by kernel_rfl) rfl rfl ?_; intro w3 hb hg; have HXw3 : Hid (Blk w3 23 w.heap.size [.string ⟨nm.toArray⟩, .bool false, .int .i64 0]) := Lib.hid hb; have HZw3 := Lib.hid (Blk.gb HZ.out hg (by simp)); have HBw3 := Lib.hid (below_gb HB.out hg (Nat.le_refl _) HB.out.size); clear hb hg; have c0 : w3.cell? ⟨w.heap.size, 0, none⟩ = some (.string ⟨nm.toArray⟩) := Blk_10.cell HXw3.out (i := 0) rfl; have c1 : w3.cell? ⟨w.heap.size, 1, none⟩ = some (.bool false) := Blk_10.cell HXw3.out (i := 1) rfl; have c2 : w3.cell? ⟨w.heap.size, 2, none⟩ = some (.int .i64 0) := Blk_10.cell HXw3.out (i := 2) rfl))
          go_quiet ((go_at_call 25; exact quietY (HT.out _)))
          obtain ⟨wq, hwq⟩ : ∃ z, w3.drewN nq = z := ⟨_, rfl⟩
          have HXwq : Hid (Blk wq 23 w.heap.size [.string ⟨nm.toArray⟩, .bool false, .int .i64 0]) := Lib.hid (by rw [← hwq]; exact HXw3.out)
          have HZwq : Hid (Blk wq 23 (w.heap.size + 1) [.string ⟨#[]⟩, .bool false, .int .i64 0]) := Lib.hid (by rw [← hwq]; exact HZw3.out)
          have HBwq : Hid (Below w.heap.size w wq) := Lib.hid (by rw [← hwq]; exact ⟨HBw3.out.os, HBw3.out.tape, HBw3.out.output, HBw3.out.size, HBw3.out.block⟩)
          rw [hwq]
          clear hwq c0 c1 c2
          have c0 : wq.cell? ⟨w.heap.size, 0, none⟩ = some (.string ⟨nm.toArray⟩) := Blk_10.cell HXwq.out (i := 0) rfl
          have c1 : wq.cell? ⟨w.heap.size, 1, none⟩ = some (.bool false) := Blk_10.cell HXwq.out (i := 1) rfl
          have c2 : wq.cell? ⟨w.heap.size, 2, none⟩ = some (.int .i64 0) := Blk_10.cell HXwq.out (i := 2) rfl
          go_wp2_with (first | ((with_reducible show wpList _ _ _ (⟨none, .store _ (.tmp 34) _, _, _, _, _⟩ :: _) _ _); refine wpList_storeB1 rfl _ (.tmp 34) _ rfl w.heap.size 1 (by rfl) (.bool true) (by rfl) 23 [.string ⟨nm.toArray⟩, .bool false, .int .i64 0] HXwq.out (show 1 < 3 by decide) (by kernel_rfl) rfl rfl ?_; intro w4 hb hg; have HXw4 : Hid (Blk w4 23 w.heap.size [.string ⟨nm.toArray⟩, .bool true, .int .i64 0]) := Lib.hid hb; have HZw4 := Lib.hid (Blk.gb HZwq.out hg (by simp)); have HBw4 := Lib.hid (below_gb HBwq.out hg (Nat.le_refl _) HBwq.out.size); clear hb hg; have c0 : w4.cell? ⟨w.heap.size, 0, none⟩ = some (.string ⟨nm.toArray⟩) := Blk_10.cell HXw4.out (i := 0) rfl; have c1 : w4.cell? ⟨w.heap.size, 1, none⟩ = some (.bool true) := Blk_10.cell HXw4.out (i := 1) rfl; have c2 : w4.cell? ⟨w.heap.size, 2, none⟩ = some (.int .i64 0) := Blk_10.cell HXw4.out (i := 2) rfl) | ((with_reducible show wpList _ _ _ (⟨none, .store _ (.tmp 35) _, _, _, _, _⟩ :: _) _ _); refine wpList_storeB1 rfl _ (.tmp 35) _ rfl w.heap.size 2 (by rfl) (.int .i64 0) (by rfl) 23 [.string ⟨nm.toArray⟩, .bool true, .int .i64 0] HXw4.out (show 2 < 3 by decide) (by kernel_rfl) rfl rfl ?_; intro w5 hb hg; have HXw5 : Hid (Blk w5 23 w.heap.size [.string ⟨nm.toArray⟩, .bool true, .int .i64 0]) := Lib.hid hb; have HZw5 := Lib.hid (Blk.gb HZw4.out hg (by simp)); have HBw5 := Lib.hid (below_gb HBw4.out hg (Nat.le_refl _) HBw4.out.size); clear hb hg; have c0 : w5.cell? ⟨w.heap.size, 0, none⟩ = some (.string ⟨nm.toArray⟩) := Blk_10.cell HXw5.out (i := 0) rfl; have c1 : w5.cell? ⟨w.heap.size, 1, none⟩ = some (.bool true) := Blk_10.cell HXw5.out (i := 1) rfl; have c2 : w5.cell? ⟨w.heap.size, 2, none⟩ = some (.int .i64 0) := Blk_10.cell HXw5.out (i := 2) rfl) | ((with_reducible show wpList _ _ _ (⟨none, .store 23 (.tmp 8) _, _, _, _, _⟩ :: _) _ _); refine wpList_storeBA rfl 23 (.tmp 8) _ rfl (w.heap.size + 1) (by rfl) [.string ⟨nm.toArray⟩, .bool true, .int .i64 0] (by rfl) _ HZw5.out rfl hlSize (by simp [Value.oneCell']) ?_; intro w9 hb9 hg9; have HB9 := Lib.hid hb9; have HG9 := Lib.hid hg9; clear hb9 hg9))
          refine bodyPost_ret (v := .tuple #[.agg #[.string ⟨nm.toArray⟩, .bool true, .int .i64 0], .bool true]) (results_hl rfl _ _ (w.heap.size + 1) (by rfl) [.string ⟨nm.toArray⟩, .bool true, .int .i64 0] rfl HB9.out _ (by rfl)) rfl ?_
          refine ⟨?_, below_gb HBw5.out HG9.out (Nat.le_succ _) HBw5.out.size⟩
          rw [step_turn (h := ⟨nm, false, run⟩) (b := false) rfl (by show brZ fall ≤ rnZ run + 1; rw [HTT.out, HRR.out]; have := HC.out; omega)]
          rfl
        · have HC := Lib.hid hc
          go_enter Try.func11, Try.ntmps11
          go_upto_region 1 with (fail)
          rw [HY.out]
          go_upto_region 8 with (((with_reducible show wpList _ _ _ (⟨none, .store _ (.tmp 24) _, _, _, _, _⟩ :: _) _ _); refine wpList_storeB1 rfl _ (.tmp 24) _ rfl w.heap.size 2 (by rfl) (.int .i64 0) (by rfl) 23 [.string ⟨nm.toArray⟩, .bool false, .int .i64 run] HX.out (show 2 < 3 by decide) (by kernel_rfl) rfl rfl ?_; intro w3 hb hg; have HXw3 : Hid (Blk w3 23 w.heap.size [.string ⟨nm.toArray⟩, .bool false, .int .i64 0]) := Lib.hid hb; have HZw3 := Lib.hid (Blk.gb HZ.out hg (by simp)); have HBw3 := Lib.hid (below_gb HB.out hg (Nat.le_refl _) HB.out.size); clear hb hg; have c0 : w3.cell? ⟨w.heap.size, 0, none⟩ = some (.string ⟨nm.toArray⟩) := Blk_10.cell HXw3.out (i := 0) rfl; have c1 : w3.cell? ⟨w.heap.size, 1, none⟩ = some (.bool false) := Blk_10.cell HXw3.out (i := 1) rfl; have c2 : w3.cell? ⟨w.heap.size, 2, none⟩ = some (.int .i64 0) := Blk_10.cell HXw3.out (i := 2) rfl))
          go_quiet ((go_at_call 25; exact quietY (HT.out _)))
          obtain ⟨wq, hwq⟩ : ∃ z, w3.drewN nq = z := ⟨_, rfl⟩
          have HXwq : Hid (Blk wq 23 w.heap.size [.string ⟨nm.toArray⟩, .bool false, .int .i64 0]) := Lib.hid (by rw [← hwq]; exact HXw3.out)
          have HZwq : Hid (Blk wq 23 (w.heap.size + 1) [.string ⟨#[]⟩, .bool false, .int .i64 0]) := Lib.hid (by rw [← hwq]; exact HZw3.out)
          have HBwq : Hid (Below w.heap.size w wq) := Lib.hid (by rw [← hwq]; exact ⟨HBw3.out.os, HBw3.out.tape, HBw3.out.output, HBw3.out.size, HBw3.out.block⟩)
          rw [hwq]
          clear hwq c0 c1 c2
          have c0 : wq.cell? ⟨w.heap.size, 0, none⟩ = some (.string ⟨nm.toArray⟩) := Blk_10.cell HXwq.out (i := 0) rfl
          have c1 : wq.cell? ⟨w.heap.size, 1, none⟩ = some (.bool false) := Blk_10.cell HXwq.out (i := 1) rfl
          have c2 : wq.cell? ⟨w.heap.size, 2, none⟩ = some (.int .i64 0) := Blk_10.cell HXwq.out (i := 2) rfl
          go_wp2_with (first | ((with_reducible show wpList _ _ _ (⟨none, .store _ (.tmp 40) _, _, _, _, _⟩ :: _) _ _); refine wpList_storeB1 rfl _ (.tmp 40) _ rfl w.heap.size 2 (by rfl) (.int .i64 1) (by rfl) 23 [.string ⟨nm.toArray⟩, .bool false, .int .i64 0] HXwq.out (show 2 < 3 by decide) (by kernel_rfl) rfl rfl ?_; intro w4 hb hg; have HXw4 : Hid (Blk w4 23 w.heap.size [.string ⟨nm.toArray⟩, .bool false, .int .i64 1]) := Lib.hid hb; have HZw4 := Lib.hid (Blk.gb HZwq.out hg (by simp)); have HBw4 := Lib.hid (below_gb HBwq.out hg (Nat.le_refl _) HBwq.out.size); clear hb hg; have c0 : w4.cell? ⟨w.heap.size, 0, none⟩ = some (.string ⟨nm.toArray⟩) := Blk_10.cell HXw4.out (i := 0) rfl; have c1 : w4.cell? ⟨w.heap.size, 1, none⟩ = some (.bool false) := Blk_10.cell HXw4.out (i := 1) rfl; have c2 : w4.cell? ⟨w.heap.size, 2, none⟩ = some (.int .i64 1) := Blk_10.cell HXw4.out (i := 2) rfl) | ((with_reducible show wpList _ _ _ (⟨none, .store 23 (.tmp 8) _, _, _, _, _⟩ :: _) _ _); refine wpList_storeBA rfl 23 (.tmp 8) _ rfl (w.heap.size + 1) (by rfl) [.string ⟨nm.toArray⟩, .bool false, .int .i64 1] (by rfl) _ HZw4.out rfl hlSize (by simp [Value.oneCell']) ?_; intro w9 hb9 hg9; have HB9 := Lib.hid hb9; have HG9 := Lib.hid hg9; clear hb9 hg9))
          refine bodyPost_ret (v := .tuple #[.agg #[.string ⟨nm.toArray⟩, .bool false, .int .i64 1], .bool false]) (results_hl rfl _ _ (w.heap.size + 1) (by rfl) [.string ⟨nm.toArray⟩, .bool false, .int .i64 1] rfl HB9.out _ (by rfl)) rfl ?_
          refine ⟨?_, below_gb HBw4.out HG9.out (Nat.le_succ _) HBw4.out.size⟩
          rw [step_more (h := ⟨nm, false, run⟩) (b := false) rfl (by show ¬ brZ fall ≤ rnZ run + 1; rw [HTT.out, HRR.out]; have := HC.out; omega), HRR.out]
          rfl
      · obtain rfl : r = run := by have := HRN.out; rw [if_neg hneg] at this; exact this
        clear HRN
        by_cases hc : t - 1 ≤ r
        · have HC := Lib.hid hc
          go_enter Try.func11, Try.ntmps11
          go_upto_region 1 with (fail)
          rw [HY.out]
          go_upto_region 8 with (((with_reducible show wpList _ _ _ (⟨none, .store _ (.tmp 24) _, _, _, _, _⟩ :: _) _ _); refine wpList_storeB1 rfl _ (.tmp 24) _ rfl w.heap.size 2 (by rfl) (.int .i64 r) (by rfl) 23 [.string ⟨nm.toArray⟩, .bool false, .int .i64 r] HX.out (show 2 < 3 by decide) (by kernel_rfl) rfl rfl ?_; intro w3 hb hg; have HXw3 : Hid (Blk w3 23 w.heap.size [.string ⟨nm.toArray⟩, .bool false, .int .i64 r]) := Lib.hid hb; have HZw3 := Lib.hid (Blk.gb HZ.out hg (by simp)); have HBw3 := Lib.hid (below_gb HB.out hg (Nat.le_refl _) HB.out.size); clear hb hg; have c0 : w3.cell? ⟨w.heap.size, 0, none⟩ = some (.string ⟨nm.toArray⟩) := Blk_10.cell HXw3.out (i := 0) rfl; have c1 : w3.cell? ⟨w.heap.size, 1, none⟩ = some (.bool false) := Blk_10.cell HXw3.out (i := 1) rfl; have c2 : w3.cell? ⟨w.heap.size, 2, none⟩ = some (.int .i64 r) := Blk_10.cell HXw3.out (i := 2) rfl))
          go_quiet ((go_at_call 25; exact quietY (HT.out _)))
          obtain ⟨wq, hwq⟩ : ∃ z, w3.drewN nq = z := ⟨_, rfl⟩
          have HXwq : Hid (Blk wq 23 w.heap.size [.string ⟨nm.toArray⟩, .bool false, .int .i64 r]) := Lib.hid (by rw [← hwq]; exact HXw3.out)
          have HZwq : Hid (Blk wq 23 (w.heap.size + 1) [.string ⟨#[]⟩, .bool false, .int .i64 0]) := Lib.hid (by rw [← hwq]; exact HZw3.out)
          have HBwq : Hid (Below w.heap.size w wq) := Lib.hid (by rw [← hwq]; exact ⟨HBw3.out.os, HBw3.out.tape, HBw3.out.output, HBw3.out.size, HBw3.out.block⟩)
          rw [hwq]
          clear hwq c0 c1 c2
          have c0 : wq.cell? ⟨w.heap.size, 0, none⟩ = some (.string ⟨nm.toArray⟩) := Blk_10.cell HXwq.out (i := 0) rfl
          have c1 : wq.cell? ⟨w.heap.size, 1, none⟩ = some (.bool false) := Blk_10.cell HXwq.out (i := 1) rfl
          have c2 : wq.cell? ⟨w.heap.size, 2, none⟩ = some (.int .i64 r) := Blk_10.cell HXwq.out (i := 2) rfl
          go_wp2_with (first | ((with_reducible show wpList _ _ _ (⟨none, .store _ (.tmp 34) _, _, _, _, _⟩ :: _) _ _); refine wpList_storeB1 rfl _ (.tmp 34) _ rfl w.heap.size 1 (by rfl) (.bool true) (by rfl) 23 [.string ⟨nm.toArray⟩, .bool false, .int .i64 r] HXwq.out (show 1 < 3 by decide) (by kernel_rfl) rfl rfl ?_; intro w4 hb hg; have HXw4 : Hid (Blk w4 23 w.heap.size [.string ⟨nm.toArray⟩, .bool true, .int .i64 r]) := Lib.hid hb; have HZw4 := Lib.hid (Blk.gb HZwq.out hg (by simp)); have HBw4 := Lib.hid (below_gb HBwq.out hg (Nat.le_refl _) HBwq.out.size); clear hb hg; have c0 : w4.cell? ⟨w.heap.size, 0, none⟩ = some (.string ⟨nm.toArray⟩) := Blk_10.cell HXw4.out (i := 0) rfl; have c1 : w4.cell? ⟨w.heap.size, 1, none⟩ = some (.bool true) := Blk_10.cell HXw4.out (i := 1) rfl; have c2 : w4.cell? ⟨w.heap.size, 2, none⟩ = some (.int .i64 r) := Blk_10.cell HXw4.out (i := 2) rfl) | ((with_reducible show wpList _ _ _ (⟨none, .store _ (.tmp 35) _, _, _, _, _⟩ :: _) _ _); refine wpList_storeB1 rfl _ (.tmp 35) _ rfl w.heap.size 2 (by rfl) (.int .i64 0) (by rfl) 23 [.string ⟨nm.toArray⟩, .bool true, .int .i64 r] HXw4.out (show 2 < 3 by decide) (by kernel_rfl) rfl rfl ?_; intro w5 hb hg; have HXw5 : Hid (Blk w5 23 w.heap.size [.string ⟨nm.toArray⟩, .bool true, .int .i64 0]) := Lib.hid hb; have HZw5 := Lib.hid (Blk.gb HZw4.out hg (by simp)); have HBw5 := Lib.hid (below_gb HBw4.out hg (Nat.le_refl _) HBw4.out.size); clear hb hg; have c0 : w5.cell? ⟨w.heap.size, 0, none⟩ = some (.string ⟨nm.toArray⟩) := Blk_10.cell HXw5.out (i := 0) rfl; have c1 : w5.cell? ⟨w.heap.size, 1, none⟩ = some (.bool true) := Blk_10.cell HXw5.out (i := 1) rfl; have c2 : w5.cell? ⟨w.heap.size, 2, none⟩ = some (.int .i64 0) := Blk_10.cell HXw5.out (i := 2) rfl) | ((with_reducible show wpList _ _ _ (⟨none, .store 23 (.tmp 8) _, _, _, _, _⟩ :: _) _ _); refine wpList_storeBA rfl 23 (.tmp 8) _ rfl (w.heap.size + 1) (by rfl) [.string ⟨nm.toArray⟩, .bool true, .int .i64 0] (by rfl) _ HZw5.out rfl hlSize (by simp [Value.oneCell']) ?_; intro w9 hb9 hg9; have HB9 := Lib.hid hb9; have HG9 := Lib.hid hg9; clear hb9 hg9))
          refine bodyPost_ret (v := .tuple #[.agg #[.string ⟨nm.toArray⟩, .bool true, .int .i64 0], .bool true]) (results_hl rfl _ _ (w.heap.size + 1) (by rfl) [.string ⟨nm.toArray⟩, .bool true, .int .i64 0] rfl HB9.out _ (by rfl)) rfl ?_
          refine ⟨?_, below_gb HBw5.out HG9.out (Nat.le_succ _) HBw5.out.size⟩
          rw [step_turn (h := ⟨nm, false, r⟩) (b := false) rfl (by show brZ fall ≤ rnZ r + 1; rw [HTT.out, HRR.out]; have := HC.out; omega)]
          rfl
        · have HC := Lib.hid hc
          go_enter Try.func11, Try.ntmps11
          go_upto_region 1 with (fail)
          rw [HY.out]
          go_upto_region 8 with (((with_reducible show wpList _ _ _ (⟨none, .store _ (.tmp 24) _, _, _, _, _⟩ :: _) _ _); refine wpList_storeB1 rfl _ (.tmp 24) _ rfl w.heap.size 2 (by rfl) (.int .i64 r) (by rfl) 23 [.string ⟨nm.toArray⟩, .bool false, .int .i64 r] HX.out (show 2 < 3 by decide) (by kernel_rfl) rfl rfl ?_; intro w3 hb hg; have HXw3 : Hid (Blk w3 23 w.heap.size [.string ⟨nm.toArray⟩, .bool false, .int .i64 r]) := Lib.hid hb; have HZw3 := Lib.hid (Blk.gb HZ.out hg (by simp)); have HBw3 := Lib.hid (below_gb HB.out hg (Nat.le_refl _) HB.out.size); clear hb hg; have c0 : w3.cell? ⟨w.heap.size, 0, none⟩ = some (.string ⟨nm.toArray⟩) := Blk_10.cell HXw3.out (i := 0) rfl; have c1 : w3.cell? ⟨w.heap.size, 1, none⟩ = some (.bool false) := Blk_10.cell HXw3.out (i := 1) rfl; have c2 : w3.cell? ⟨w.heap.size, 2, none⟩ = some (.int .i64 r) := Blk_10.cell HXw3.out (i := 2) rfl))
          go_quiet ((go_at_call 25; exact quietY (HT.out _)))
          obtain ⟨wq, hwq⟩ : ∃ z, w3.drewN nq = z := ⟨_, rfl⟩
          have HXwq : Hid (Blk wq 23 w.heap.size [.string ⟨nm.toArray⟩, .bool false, .int .i64 r]) := Lib.hid (by rw [← hwq]; exact HXw3.out)
          have HZwq : Hid (Blk wq 23 (w.heap.size + 1) [.string ⟨#[]⟩, .bool false, .int .i64 0]) := Lib.hid (by rw [← hwq]; exact HZw3.out)
          have HBwq : Hid (Below w.heap.size w wq) := Lib.hid (by rw [← hwq]; exact ⟨HBw3.out.os, HBw3.out.tape, HBw3.out.output, HBw3.out.size, HBw3.out.block⟩)
          rw [hwq]
          clear hwq c0 c1 c2
          have c0 : wq.cell? ⟨w.heap.size, 0, none⟩ = some (.string ⟨nm.toArray⟩) := Blk_10.cell HXwq.out (i := 0) rfl
          have c1 : wq.cell? ⟨w.heap.size, 1, none⟩ = some (.bool false) := Blk_10.cell HXwq.out (i := 1) rfl
          have c2 : wq.cell? ⟨w.heap.size, 2, none⟩ = some (.int .i64 r) := Blk_10.cell HXwq.out (i := 2) rfl
          have w1 : IntKind.i64.wrap (r + 1) = r + 1 := by rw [IntKind.wrap_i64]; have := HC.out; omega
          go_wp2_with (first | ((with_reducible show wpList _ _ _ (⟨none, .store _ (.tmp 40) _, _, _, _, _⟩ :: _) _ _); refine wpList_storeB1 rfl _ (.tmp 40) _ rfl w.heap.size 2 (by rfl) (.int .i64 (r + 1)) (by rfl) 23 [.string ⟨nm.toArray⟩, .bool false, .int .i64 r] HXwq.out (show 2 < 3 by decide) (by kernel_rfl) rfl rfl ?_; intro w4 hb hg; have HXw4 : Hid (Blk w4 23 w.heap.size [.string ⟨nm.toArray⟩, .bool false, .int .i64 (r + 1)]) := Lib.hid hb; have HZw4 := Lib.hid (Blk.gb HZwq.out hg (by simp)); have HBw4 := Lib.hid (below_gb HBwq.out hg (Nat.le_refl _) HBwq.out.size); clear hb hg; have c0 : w4.cell? ⟨w.heap.size, 0, none⟩ = some (.string ⟨nm.toArray⟩) := Blk_10.cell HXw4.out (i := 0) rfl; have c1 : w4.cell? ⟨w.heap.size, 1, none⟩ = some (.bool false) := Blk_10.cell HXw4.out (i := 1) rfl; have c2 : w4.cell? ⟨w.heap.size, 2, none⟩ = some (.int .i64 (r + 1)) := Blk_10.cell HXw4.out (i := 2) rfl) | ((with_reducible show wpList _ _ _ (⟨none, .store 23 (.tmp 8) _, _, _, _, _⟩ :: _) _ _); refine wpList_storeBA rfl 23 (.tmp 8) _ rfl (w.heap.size + 1) (by rfl) [.string ⟨nm.toArray⟩, .bool false, .int .i64 (r + 1)] (by rfl) _ HZw4.out rfl hlSize (by simp [Value.oneCell']) ?_; intro w9 hb9 hg9; have HB9 := Lib.hid hb9; have HG9 := Lib.hid hg9; clear hb9 hg9))
          refine bodyPost_ret (v := .tuple #[.agg #[.string ⟨nm.toArray⟩, .bool false, .int .i64 (r + 1)], .bool false]) (results_hl rfl _ _ (w.heap.size + 1) (by rfl) [.string ⟨nm.toArray⟩, .bool false, .int .i64 (r + 1)] rfl HB9.out _ (by rfl)) rfl ?_
          refine ⟨?_, below_gb HBw4.out HG9.out (Nat.le_succ _) HBw4.out.size⟩
          rw [step_more (h := ⟨nm, false, r⟩) (b := false) rfl (by show ¬ brZ fall ≤ rnZ r + 1; rw [HTT.out, HRR.out]; have := HC.out; omega), HRR.out]
    · skip
      go_enter Try.func11, Try.ntmps11
      go_upto_region 1 with (fail)
      rw [HY.out]
      go_wp2_with (first | ((with_reducible show wpList _ _ _ (⟨none, .store _ (.tmp 15) _, _, _, _, _⟩ :: _) _ _); refine wpList_storeB1 rfl _ (.tmp 15) _ rfl w.heap.size 2 (by rfl) (.int .i64 0) (by rfl) 23 [.string ⟨nm.toArray⟩, .bool false, .int .i64 run] HX.out (show 2 < 3 by decide) (by kernel_rfl) rfl rfl ?_; intro w3 hb hg; have HXw3 : Hid (Blk w3 23 w.heap.size [.string ⟨nm.toArray⟩, .bool false, .int .i64 0]) := Lib.hid hb; have HZw3 := Lib.hid (Blk.gb HZ.out hg (by simp)); have HBw3 := Lib.hid (below_gb HB.out hg (Nat.le_refl _) HB.out.size); clear hb hg; have c0 : w3.cell? ⟨w.heap.size, 0, none⟩ = some (.string ⟨nm.toArray⟩) := Blk_10.cell HXw3.out (i := 0) rfl; have c1 : w3.cell? ⟨w.heap.size, 1, none⟩ = some (.bool false) := Blk_10.cell HXw3.out (i := 1) rfl; have c2 : w3.cell? ⟨w.heap.size, 2, none⟩ = some (.int .i64 0) := Blk_10.cell HXw3.out (i := 2) rfl) | ((with_reducible show wpList _ _ _ (⟨none, .store 23 (.tmp 8) _, _, _, _, _⟩ :: _) _ _); refine wpList_storeBA rfl 23 (.tmp 8) _ rfl (w.heap.size + 1) (by rfl) [.string ⟨nm.toArray⟩, .bool false, .int .i64 0] (by rfl) _ HZw3.out rfl hlSize (by simp [Value.oneCell']) ?_; intro w9 hb9 hg9; have HB9 := Lib.hid hb9; have HG9 := Lib.hid hg9; clear hb9 hg9))
      refine bodyPost_ret (v := .tuple #[.agg #[.string ⟨nm.toArray⟩, .bool false, .int .i64 0], .bool false]) (results_hl rfl _ _ (w.heap.size + 1) (by rfl) [.string ⟨nm.toArray⟩, .bool false, .int .i64 0] rfl HB9.out _ (by rfl)) rfl ?_
      refine ⟨?_, below_gb HBw3.out HG9.out (Nat.le_succ _) HBw3.out.size⟩
      rw [step_no (h := ⟨nm, false, run⟩) (b := true) (show (true : Bool) ≠ false by decide)]
  · cases b
    · skip
      go_enter Try.func11, Try.ntmps11
      go_upto_region 1 with (fail)
      rw [HY.out]
      go_wp2_with (first | ((with_reducible show wpList _ _ _ (⟨none, .store _ (.tmp 15) _, _, _, _, _⟩ :: _) _ _); refine wpList_storeB1 rfl _ (.tmp 15) _ rfl w.heap.size 2 (by rfl) (.int .i64 0) (by rfl) 23 [.string ⟨nm.toArray⟩, .bool true, .int .i64 run] HX.out (show 2 < 3 by decide) (by kernel_rfl) rfl rfl ?_; intro w3 hb hg; have HXw3 : Hid (Blk w3 23 w.heap.size [.string ⟨nm.toArray⟩, .bool true, .int .i64 0]) := Lib.hid hb; have HZw3 := Lib.hid (Blk.gb HZ.out hg (by simp)); have HBw3 := Lib.hid (below_gb HB.out hg (Nat.le_refl _) HB.out.size); clear hb hg; have c0 : w3.cell? ⟨w.heap.size, 0, none⟩ = some (.string ⟨nm.toArray⟩) := Blk_10.cell HXw3.out (i := 0) rfl; have c1 : w3.cell? ⟨w.heap.size, 1, none⟩ = some (.bool true) := Blk_10.cell HXw3.out (i := 1) rfl; have c2 : w3.cell? ⟨w.heap.size, 2, none⟩ = some (.int .i64 0) := Blk_10.cell HXw3.out (i := 2) rfl) | ((with_reducible show wpList _ _ _ (⟨none, .store 23 (.tmp 8) _, _, _, _, _⟩ :: _) _ _); refine wpList_storeBA rfl 23 (.tmp 8) _ rfl (w.heap.size + 1) (by rfl) [.string ⟨nm.toArray⟩, .bool true, .int .i64 0] (by rfl) _ HZw3.out rfl hlSize (by simp [Value.oneCell']) ?_; intro w9 hb9 hg9; have HB9 := Lib.hid hb9; have HG9 := Lib.hid hg9; clear hb9 hg9))
      refine bodyPost_ret (v := .tuple #[.agg #[.string ⟨nm.toArray⟩, .bool true, .int .i64 0], .bool false]) (results_hl rfl _ _ (w.heap.size + 1) (by rfl) [.string ⟨nm.toArray⟩, .bool true, .int .i64 0] rfl HB9.out _ (by rfl)) rfl ?_
      refine ⟨?_, below_gb HBw3.out HG9.out (Nat.le_succ _) HBw3.out.size⟩
      rw [step_no (h := ⟨nm, true, run⟩) (b := false) (show (false : Bool) ≠ true by decide)]
    · skip
      obtain ⟨t, ht⟩ : ∃ t, brZ rise = t := ⟨_, rfl⟩
      have ht1 := brZ_low rise
      have HT := Lib.hid (fun W => HBR.out rise W)
      rw [ht] at ht1 HT
      have HTT := Lib.hid ht
      clear ht
      have wt : IntKind.i64.wrap (t - 1) = t - 1 := by rw [IntKind.wrap_i64]; omega
      by_cases hneg : run < 0
      · obtain rfl : r = 0 := by have := HRN.out; rw [if_pos hneg] at this; exact this
        have hng2 : ¬ 0 < run := by omega
        clear HRN
        by_cases hc : t - 1 ≤ 0
        · have HC := Lib.hid hc
          go_enter Try.func11, Try.ntmps11
          go_upto_region 1 with (fail)
          rw [HY.out]
          go_upto_region 8 with (((with_reducible show wpList _ _ _ (⟨none, .store _ (.tmp 24) _, _, _, _, _⟩ :: _) _ _); refine wpList_storeB1 rfl _ (.tmp 24) _ rfl w.heap.size 2 (by rfl) (.int .i64 0) (by rfl) 23 [.string ⟨nm.toArray⟩, .bool true, .int .i64 run] HX.out (show 2 < 3 by decide) (by kernel_rfl) rfl rfl ?_; intro w3 hb hg; have HXw3 : Hid (Blk w3 23 w.heap.size [.string ⟨nm.toArray⟩, .bool true, .int .i64 0]) := Lib.hid hb; have HZw3 := Lib.hid (Blk.gb HZ.out hg (by simp)); have HBw3 := Lib.hid (below_gb HB.out hg (Nat.le_refl _) HB.out.size); clear hb hg; have c0 : w3.cell? ⟨w.heap.size, 0, none⟩ = some (.string ⟨nm.toArray⟩) := Blk_10.cell HXw3.out (i := 0) rfl; have c1 : w3.cell? ⟨w.heap.size, 1, none⟩ = some (.bool true) := Blk_10.cell HXw3.out (i := 1) rfl; have c2 : w3.cell? ⟨w.heap.size, 2, none⟩ = some (.int .i64 0) := Blk_10.cell HXw3.out (i := 2) rfl))
          go_quiet ((go_at_call 25; exact quietY (HT.out _)))
          obtain ⟨wq, hwq⟩ : ∃ z, w3.drewN nq = z := ⟨_, rfl⟩
          have HXwq : Hid (Blk wq 23 w.heap.size [.string ⟨nm.toArray⟩, .bool true, .int .i64 0]) := Lib.hid (by rw [← hwq]; exact HXw3.out)
          have HZwq : Hid (Blk wq 23 (w.heap.size + 1) [.string ⟨#[]⟩, .bool false, .int .i64 0]) := Lib.hid (by rw [← hwq]; exact HZw3.out)
          have HBwq : Hid (Below w.heap.size w wq) := Lib.hid (by rw [← hwq]; exact ⟨HBw3.out.os, HBw3.out.tape, HBw3.out.output, HBw3.out.size, HBw3.out.block⟩)
          rw [hwq]
          clear hwq c0 c1 c2
          have c0 : wq.cell? ⟨w.heap.size, 0, none⟩ = some (.string ⟨nm.toArray⟩) := Blk_10.cell HXwq.out (i := 0) rfl
          have c1 : wq.cell? ⟨w.heap.size, 1, none⟩ = some (.bool true) := Blk_10.cell HXwq.out (i := 1) rfl
          have c2 : wq.cell? ⟨w.heap.size, 2, none⟩ = some (.int .i64 0) := Blk_10.cell HXwq.out (i := 2) rfl
          go_wp2_with (first | ((with_reducible show wpList _ _ _ (⟨none, .store _ (.tmp 34) _, _, _, _, _⟩ :: _) _ _); refine wpList_storeB1 rfl _ (.tmp 34) _ rfl w.heap.size 1 (by rfl) (.bool false) (by rfl) 23 [.string ⟨nm.toArray⟩, .bool true, .int .i64 0] HXwq.out (show 1 < 3 by decide) (by kernel_rfl) rfl rfl ?_; intro w4 hb hg; have HXw4 : Hid (Blk w4 23 w.heap.size [.string ⟨nm.toArray⟩, .bool false, .int .i64 0]) := Lib.hid hb; have HZw4 := Lib.hid (Blk.gb HZwq.out hg (by simp)); have HBw4 := Lib.hid (below_gb HBwq.out hg (Nat.le_refl _) HBwq.out.size); clear hb hg; have c0 : w4.cell? ⟨w.heap.size, 0, none⟩ = some (.string ⟨nm.toArray⟩) := Blk_10.cell HXw4.out (i := 0) rfl; have c1 : w4.cell? ⟨w.heap.size, 1, none⟩ = some (.bool false) := Blk_10.cell HXw4.out (i := 1) rfl; have c2 : w4.cell? ⟨w.heap.size, 2, none⟩ = some (.int .i64 0) := Blk_10.cell HXw4.out (i := 2) rfl) | ((with_reducible show wpList _ _ _ (⟨none, .store _ (.tmp 35) _, _, _, _, _⟩ :: _) _ _); refine wpList_storeB1 rfl _ (.tmp 35) _ rfl w.heap.size 2 (by rfl) (.int .i64 0) (by rfl) 23 [.string ⟨nm.toArray⟩, .bool false, .int .i64 0] HXw4.out (show 2 < 3 by decide) (by kernel_rfl) rfl rfl ?_; intro w5 hb hg; have HXw5 : Hid (Blk w5 23 w.heap.size [.string ⟨nm.toArray⟩, .bool false, .int .i64 0]) := Lib.hid hb; have HZw5 := Lib.hid (Blk.gb HZw4.out hg (by simp)); have HBw5 := Lib.hid (below_gb HBw4.out hg (Nat.le_refl _) HBw4.out.size); clear hb hg; have c0 : w5.cell? ⟨w.heap.size, 0, none⟩ = some (.string ⟨nm.toArray⟩) := Blk_10.cell HXw5.out (i := 0) rfl; have c1 : w5.cell? ⟨w.heap.size, 1, none⟩ = some (.bool false) := Blk_10.cell HXw5.out (i := 1) rfl; have c2 : w5.cell? ⟨w.heap.size, 2, none⟩ = some (.int .i64 0) := Blk_10.cell HXw5.out (i := 2) rfl) | ((with_reducible show wpList _ _ _ (⟨none, .store 23 (.tmp 8) _, _, _, _, _⟩ :: _) _ _); refine wpList_storeBA rfl 23 (.tmp 8) _ rfl (w.heap.size + 1) (by rfl) [.string ⟨nm.toArray⟩, .bool false, .int .i64 0] (by rfl) _ HZw5.out rfl hlSize (by simp [Value.oneCell']) ?_; intro w9 hb9 hg9; have HB9 := Lib.hid hb9; have HG9 := Lib.hid hg9; clear hb9 hg9))
          refine bodyPost_ret (v := .tuple #[.agg #[.string ⟨nm.toArray⟩, .bool false, .int .i64 0], .bool true]) (results_hl rfl _ _ (w.heap.size + 1) (by rfl) [.string ⟨nm.toArray⟩, .bool false, .int .i64 0] rfl HB9.out _ (by rfl)) rfl ?_
          refine ⟨?_, below_gb HBw5.out HG9.out (Nat.le_succ _) HBw5.out.size⟩
          rw [step_turn (h := ⟨nm, true, run⟩) (b := true) rfl (by show brZ rise ≤ rnZ run + 1; rw [HTT.out, HRR.out]; have := HC.out; omega)]
          rfl
        · have HC := Lib.hid hc
          go_enter Try.func11, Try.ntmps11
          go_upto_region 1 with (fail)
          rw [HY.out]
          go_upto_region 8 with (((with_reducible show wpList _ _ _ (⟨none, .store _ (.tmp 24) _, _, _, _, _⟩ :: _) _ _); refine wpList_storeB1 rfl _ (.tmp 24) _ rfl w.heap.size 2 (by rfl) (.int .i64 0) (by rfl) 23 [.string ⟨nm.toArray⟩, .bool true, .int .i64 run] HX.out (show 2 < 3 by decide) (by kernel_rfl) rfl rfl ?_; intro w3 hb hg; have HXw3 : Hid (Blk w3 23 w.heap.size [.string ⟨nm.toArray⟩, .bool true, .int .i64 0]) := Lib.hid hb; have HZw3 := Lib.hid (Blk.gb HZ.out hg (by simp)); have HBw3 := Lib.hid (below_gb HB.out hg (Nat.le_refl _) HB.out.size); clear hb hg; have c0 : w3.cell? ⟨w.heap.size, 0, none⟩ = some (.string ⟨nm.toArray⟩) := Blk_10.cell HXw3.out (i := 0) rfl; have c1 : w3.cell? ⟨w.heap.size, 1, none⟩ = some (.bool true) := Blk_10.cell HXw3.out (i := 1) rfl; have c2 : w3.cell? ⟨w.heap.size, 2, none⟩ = some (.int .i64 0) := Blk_10.cell HXw3.out (i := 2) rfl))
          go_quiet ((go_at_call 25; exact quietY (HT.out _)))
          obtain ⟨wq, hwq⟩ : ∃ z, w3.drewN nq = z := ⟨_, rfl⟩
          have HXwq : Hid (Blk wq 23 w.heap.size [.string ⟨nm.toArray⟩, .bool true, .int .i64 0]) := Lib.hid (by rw [← hwq]; exact HXw3.out)
          have HZwq : Hid (Blk wq 23 (w.heap.size + 1) [.string ⟨#[]⟩, .bool false, .int .i64 0]) := Lib.hid (by rw [← hwq]; exact HZw3.out)
          have HBwq : Hid (Below w.heap.size w wq) := Lib.hid (by rw [← hwq]; exact ⟨HBw3.out.os, HBw3.out.tape, HBw3.out.output, HBw3.out.size, HBw3.out.block⟩)
          rw [hwq]
          clear hwq c0 c1 c2
          have c0 : wq.cell? ⟨w.heap.size, 0, none⟩ = some (.string ⟨nm.toArray⟩) := Blk_10.cell HXwq.out (i := 0) rfl
          have c1 : wq.cell? ⟨w.heap.size, 1, none⟩ = some (.bool true) := Blk_10.cell HXwq.out (i := 1) rfl
          have c2 : wq.cell? ⟨w.heap.size, 2, none⟩ = some (.int .i64 0) := Blk_10.cell HXwq.out (i := 2) rfl
          go_wp2_with (first | ((with_reducible show wpList _ _ _ (⟨none, .store _ (.tmp 40) _, _, _, _, _⟩ :: _) _ _); refine wpList_storeB1 rfl _ (.tmp 40) _ rfl w.heap.size 2 (by rfl) (.int .i64 1) (by rfl) 23 [.string ⟨nm.toArray⟩, .bool true, .int .i64 0] HXwq.out (show 2 < 3 by decide) (by kernel_rfl) rfl rfl ?_; intro w4 hb hg; have HXw4 : Hid (Blk w4 23 w.heap.size [.string ⟨nm.toArray⟩, .bool true, .int .i64 1]) := Lib.hid hb; have HZw4 := Lib.hid (Blk.gb HZwq.out hg (by simp)); have HBw4 := Lib.hid (below_gb HBwq.out hg (Nat.le_refl _) HBwq.out.size); clear hb hg; have c0 : w4.cell? ⟨w.heap.size, 0, none⟩ = some (.string ⟨nm.toArray⟩) := Blk_10.cell HXw4.out (i := 0) rfl; have c1 : w4.cell? ⟨w.heap.size, 1, none⟩ = some (.bool true) := Blk_10.cell HXw4.out (i := 1) rfl; have c2 : w4.cell? ⟨w.heap.size, 2, none⟩ = some (.int .i64 1) := Blk_10.cell HXw4.out (i := 2) rfl) | ((with_reducible show wpList _ _ _ (⟨none, .store 23 (.tmp 8) _, _, _, _, _⟩ :: _) _ _); refine wpList_storeBA rfl 23 (.tmp 8) _ rfl (w.heap.size + 1) (by rfl) [.string ⟨nm.toArray⟩, .bool true, .int .i64 1] (by rfl) _ HZw4.out rfl hlSize (by simp [Value.oneCell']) ?_; intro w9 hb9 hg9; have HB9 := Lib.hid hb9; have HG9 := Lib.hid hg9; clear hb9 hg9))
          refine bodyPost_ret (v := .tuple #[.agg #[.string ⟨nm.toArray⟩, .bool true, .int .i64 1], .bool false]) (results_hl rfl _ _ (w.heap.size + 1) (by rfl) [.string ⟨nm.toArray⟩, .bool true, .int .i64 1] rfl HB9.out _ (by rfl)) rfl ?_
          refine ⟨?_, below_gb HBw4.out HG9.out (Nat.le_succ _) HBw4.out.size⟩
          rw [step_more (h := ⟨nm, true, run⟩) (b := true) rfl (by show ¬ brZ rise ≤ rnZ run + 1; rw [HTT.out, HRR.out]; have := HC.out; omega), HRR.out]
          rfl
      · obtain rfl : r = run := by have := HRN.out; rw [if_neg hneg] at this; exact this
        clear HRN
        by_cases hc : t - 1 ≤ r
        · have HC := Lib.hid hc
          go_enter Try.func11, Try.ntmps11
          go_upto_region 1 with (fail)
          rw [HY.out]
          go_upto_region 8 with (((with_reducible show wpList _ _ _ (⟨none, .store _ (.tmp 24) _, _, _, _, _⟩ :: _) _ _); refine wpList_storeB1 rfl _ (.tmp 24) _ rfl w.heap.size 2 (by rfl) (.int .i64 r) (by rfl) 23 [.string ⟨nm.toArray⟩, .bool true, .int .i64 r] HX.out (show 2 < 3 by decide) (by kernel_rfl) rfl rfl ?_; intro w3 hb hg; have HXw3 : Hid (Blk w3 23 w.heap.size [.string ⟨nm.toArray⟩, .bool true, .int .i64 r]) := Lib.hid hb; have HZw3 := Lib.hid (Blk.gb HZ.out hg (by simp)); have HBw3 := Lib.hid (below_gb HB.out hg (Nat.le_refl _) HB.out.size); clear hb hg; have c0 : w3.cell? ⟨w.heap.size, 0, none⟩ = some (.string ⟨nm.toArray⟩) := Blk_10.cell HXw3.out (i := 0) rfl; have c1 : w3.cell? ⟨w.heap.size, 1, none⟩ = some (.bool true) := Blk_10.cell HXw3.out (i := 1) rfl; have c2 : w3.cell? ⟨w.heap.size, 2, none⟩ = some (.int .i64 r) := Blk_10.cell HXw3.out (i := 2) rfl))
          go_quiet ((go_at_call 25; exact quietY (HT.out _)))
          obtain ⟨wq, hwq⟩ : ∃ z, w3.drewN nq = z := ⟨_, rfl⟩
          have HXwq : Hid (Blk wq 23 w.heap.size [.string ⟨nm.toArray⟩, .bool true, .int .i64 r]) := Lib.hid (by rw [← hwq]; exact HXw3.out)
          have HZwq : Hid (Blk wq 23 (w.heap.size + 1) [.string ⟨#[]⟩, .bool false, .int .i64 0]) := Lib.hid (by rw [← hwq]; exact HZw3.out)
          have HBwq : Hid (Below w.heap.size w wq) := Lib.hid (by rw [← hwq]; exact ⟨HBw3.out.os, HBw3.out.tape, HBw3.out.output, HBw3.out.size, HBw3.out.block⟩)
          rw [hwq]
          clear hwq c0 c1 c2
          have c0 : wq.cell? ⟨w.heap.size, 0, none⟩ = some (.string ⟨nm.toArray⟩) := Blk_10.cell HXwq.out (i := 0) rfl
          have c1 : wq.cell? ⟨w.heap.size, 1, none⟩ = some (.bool true) := Blk_10.cell HXwq.out (i := 1) rfl
          have c2 : wq.cell? ⟨w.heap.size, 2, none⟩ = some (.int .i64 r) := Blk_10.cell HXwq.out (i := 2) rfl
          go_wp2_with (first | ((with_reducible show wpList _ _ _ (⟨none, .store _ (.tmp 34) _, _, _, _, _⟩ :: _) _ _); refine wpList_storeB1 rfl _ (.tmp 34) _ rfl w.heap.size 1 (by rfl) (.bool false) (by rfl) 23 [.string ⟨nm.toArray⟩, .bool true, .int .i64 r] HXwq.out (show 1 < 3 by decide) (by kernel_rfl) rfl rfl ?_; intro w4 hb hg; have HXw4 : Hid (Blk w4 23 w.heap.size [.string ⟨nm.toArray⟩, .bool false, .int .i64 r]) := Lib.hid hb; have HZw4 := Lib.hid (Blk.gb HZwq.out hg (by simp)); have HBw4 := Lib.hid (below_gb HBwq.out hg (Nat.le_refl _) HBwq.out.size); clear hb hg; have c0 : w4.cell? ⟨w.heap.size, 0, none⟩ = some (.string ⟨nm.toArray⟩) := Blk_10.cell HXw4.out (i := 0) rfl; have c1 : w4.cell? ⟨w.heap.size, 1, none⟩ = some (.bool false) := Blk_10.cell HXw4.out (i := 1) rfl; have c2 : w4.cell? ⟨w.heap.size, 2, none⟩ = some (.int .i64 r) := Blk_10.cell HXw4.out (i := 2) rfl) | ((with_reducible show wpList _ _ _ (⟨none, .store _ (.tmp 35) _, _, _, _, _⟩ :: _) _ _); refine wpList_storeB1 rfl _ (.tmp 35) _ rfl w.heap.size 2 (by rfl) (.int .i64 0) (by rfl) 23 [.string ⟨nm.toArray⟩, .bool false, .int .i64 r] HXw4.out (show 2 < 3 by decide) (by kernel_rfl) rfl rfl ?_; intro w5 hb hg; have HXw5 : Hid (Blk w5 23 w.heap.size [.string ⟨nm.toArray⟩, .bool false, .int .i64 0]) := Lib.hid hb; have HZw5 := Lib.hid (Blk.gb HZw4.out hg (by simp)); have HBw5 := Lib.hid (below_gb HBw4.out hg (Nat.le_refl _) HBw4.out.size); clear hb hg; have c0 : w5.cell? ⟨w.heap.size, 0, none⟩ = some (.string ⟨nm.toArray⟩) := Blk_10.cell HXw5.out (i := 0) rfl; have c1 : w5.cell? ⟨w.heap.size, 1, none⟩ = some (.bool false) := Blk_10.cell HXw5.out (i := 1) rfl; have c2 : w5.cell? ⟨w.heap.size, 2, none⟩ = some (.int .i64 0) := Blk_10.cell HXw5.out (i := 2) rfl) | ((with_reducible show wpList _ _ _ (⟨none, .store 23 (.tmp 8) _, _, _, _, _⟩ :: _) _ _); refine wpList_storeBA rfl 23 (.tmp 8) _ rfl (w.heap.size + 1) (by rfl) [.string ⟨nm.toArray⟩, .bool false, .int .i64 0] (by rfl) _ HZw5.out rfl hlSize (by simp [Value.oneCell']) ?_; intro w9 hb9 hg9; have HB9 := Lib.hid hb9; have HG9 := Lib.hid hg9; clear hb9 hg9))
          refine bodyPost_ret (v := .tuple #[.agg #[.string ⟨nm.toArray⟩, .bool false, .int .i64 0], .bool true]) (results_hl rfl _ _ (w.heap.size + 1) (by rfl) [.string ⟨nm.toArray⟩, .bool false, .int .i64 0] rfl HB9.out _ (by rfl)) rfl ?_
          refine ⟨?_, below_gb HBw5.out HG9.out (Nat.le_succ _) HBw5.out.size⟩
          rw [step_turn (h := ⟨nm, true, r⟩) (b := true) rfl (by show brZ rise ≤ rnZ r + 1; rw [HTT.out, HRR.out]; have := HC.out; omega)]
          rfl
        · have HC := Lib.hid hc
          go_enter Try.func11, Try.ntmps11
          go_upto_region 1 with (fail)
          rw [HY.out]
          go_upto_region 8 with (((with_reducible show wpList _ _ _ (⟨none, .store _ (.tmp 24) _, _, _, _, _⟩ :: _) _ _); refine wpList_storeB1 rfl _ (.tmp 24) _ rfl w.heap.size 2 (by rfl) (.int .i64 r) (by rfl) 23 [.string ⟨nm.toArray⟩, .bool true, .int .i64 r] HX.out (show 2 < 3 by decide) (by kernel_rfl) rfl rfl ?_; intro w3 hb hg; have HXw3 : Hid (Blk w3 23 w.heap.size [.string ⟨nm.toArray⟩, .bool true, .int .i64 r]) := Lib.hid hb; have HZw3 := Lib.hid (Blk.gb HZ.out hg (by simp)); have HBw3 := Lib.hid (below_gb HB.out hg (Nat.le_refl _) HB.out.size); clear hb hg; have c0 : w3.cell? ⟨w.heap.size, 0, none⟩ = some (.string ⟨nm.toArray⟩) := Blk_10.cell HXw3.out (i := 0) rfl; have c1 : w3.cell? ⟨w.heap.size, 1, none⟩ = some (.bool true) := Blk_10.cell HXw3.out (i := 1) rfl; have c2 : w3.cell? ⟨w.heap.size, 2, none⟩ = some (.int .i64 r) := Blk_10.cell HXw3.out (i := 2) rfl))
          go_quiet ((go_at_call 25; exact quietY (HT.out _)))
          obtain ⟨wq, hwq⟩ : ∃ z, w3.drewN nq = z := ⟨_, rfl⟩
          have HXwq : Hid (Blk wq 23 w.heap.size [.string ⟨nm.toArray⟩, .bool true, .int .i64 r]) := Lib.hid (by rw [← hwq]; exact HXw3.out)
          have HZwq : Hid (Blk wq 23 (w.heap.size + 1) [.string ⟨#[]⟩, .bool false, .int .i64 0]) := Lib.hid (by rw [← hwq]; exact HZw3.out)
          have HBwq : Hid (Below w.heap.size w wq) := Lib.hid (by rw [← hwq]; exact ⟨HBw3.out.os, HBw3.out.tape, HBw3.out.output, HBw3.out.size, HBw3.out.block⟩)
          rw [hwq]
          clear hwq c0 c1 c2
          have c0 : wq.cell? ⟨w.heap.size, 0, none⟩ = some (.string ⟨nm.toArray⟩) := Blk_10.cell HXwq.out (i := 0) rfl
          have c1 : wq.cell? ⟨w.heap.size, 1, none⟩ = some (.bool true) := Blk_10.cell HXwq.out (i := 1) rfl
          have c2 : wq.cell? ⟨w.heap.size, 2, none⟩ = some (.int .i64 r) := Blk_10.cell HXwq.out (i := 2) rfl
          have w1 : IntKind.i64.wrap (r + 1) = r + 1 := by rw [IntKind.wrap_i64]; have := HC.out; omega
          go_wp2_with (first | ((with_reducible show wpList _ _ _ (⟨none, .store _ (.tmp 40) _, _, _, _, _⟩ :: _) _ _); refine wpList_storeB1 rfl _ (.tmp 40) _ rfl w.heap.size 2 (by rfl) (.int .i64 (r + 1)) (by rfl) 23 [.string ⟨nm.toArray⟩, .bool true, .int .i64 r] HXwq.out (show 2 < 3 by decide) (by kernel_rfl) rfl rfl ?_; intro w4 hb hg; have HXw4 : Hid (Blk w4 23 w.heap.size [.string ⟨nm.toArray⟩, .bool true, .int .i64 (r + 1)]) := Lib.hid hb; have HZw4 := Lib.hid (Blk.gb HZwq.out hg (by simp)); have HBw4 := Lib.hid (below_gb HBwq.out hg (Nat.le_refl _) HBwq.out.size); clear hb hg; have c0 : w4.cell? ⟨w.heap.size, 0, none⟩ = some (.string ⟨nm.toArray⟩) := Blk_10.cell HXw4.out (i := 0) rfl; have c1 : w4.cell? ⟨w.heap.size, 1, none⟩ = some (.bool true) := Blk_10.cell HXw4.out (i := 1) rfl; have c2 : w4.cell? ⟨w.heap.size, 2, none⟩ = some (.int .i64 (r + 1)) := Blk_10.cell HXw4.out (i := 2) rfl) | ((with_reducible show wpList _ _ _ (⟨none, .store 23 (.tmp 8) _, _, _, _, _⟩ :: _) _ _); refine wpList_storeBA rfl 23 (.tmp 8) _ rfl (w.heap.size + 1) (by rfl) [.string ⟨nm.toArray⟩, .bool true, .int .i64 (r + 1)] (by rfl) _ HZw4.out rfl hlSize (by simp [Value.oneCell']) ?_; intro w9 hb9 hg9; have HB9 := Lib.hid hb9; have HG9 := Lib.hid hg9; clear hb9 hg9))
          refine bodyPost_ret (v := .tuple #[.agg #[.string ⟨nm.toArray⟩, .bool true, .int .i64 (r + 1)], .bool false]) (results_hl rfl _ _ (w.heap.size + 1) (by rfl) [.string ⟨nm.toArray⟩, .bool true, .int .i64 (r + 1)] rfl HB9.out _ (by rfl)) rfl ?_
          refine ⟨?_, below_gb HBw4.out HG9.out (Nat.le_succ _) HBw4.out.size⟩
          rw [step_more (h := ⟨nm, true, r⟩) (b := true) rfl (by show ¬ brZ rise ≤ rnZ r + 1; rw [HTT.out, HRR.out]; have := HC.out; omega), HRR.out]
end Go.Proofs.Yteljijjebocbiaa
