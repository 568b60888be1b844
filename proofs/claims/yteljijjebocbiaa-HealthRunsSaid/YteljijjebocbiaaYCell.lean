/-
  Healths in cells; the document's bring, Step and Run.
-/
import Derived.Test.YteljijjebocbiaaYMath
import Derived.Test.YteljijjebocbiaaVEnc
import Derived.Test.YteljijjebocbiaaGBlk
import Derived.Test.YteljijjebocbiaaTK
import Derived.Deep.DeepCutAuto
namespace Go.Proofs.Yteljijjebocbiaa
set_option maxRecDepth 100000
open Go.RowKit Go.Lib

def hlL (h : Hl) : List Value := [strV h.nm, .bool h.dn, .int .i64 h.run]
def hlC (h : Hl) : Value := .agg #[strV h.nm, .bool h.dn, .int .i64 h.run]
def eH : Enc Hl where
  S := 34
  T := 23
  k := 3
  bytes := 32
  zero := .agg #[.string ⟨#[]⟩, .bool false, .int .i64 0]
  f := hlL
  len _ := rfl
  one _ v hv := by
    rcases List.mem_cons.1 hv with rfl | hv
    · rfl
    · rcases List.mem_cons.1 hv with rfl | hv
      · rfl
      · rw [List.mem_singleton.1 hv]; rfl
  und := Try.underlying34
  info := by kernel_rfl
  pos := by decide
  zlen := rfl
  small := by decide
/-- Results in a slice. -/
def eT : Enc Bool where
  S := 28
  T := 4
  k := 1
  bytes := 1
  zero := .bool false
  f x := [.bool x]
  len _ := rfl
  one _ v hv := by rw [List.mem_singleton.1 hv]; rfl
  und := Try.underlying28
  info := by kernel_rfl
  pos := by decide
  zlen := rfl
  small := by decide
theorem hlSize : (Try.prog.info? 23).map (·.size) = some 3 := by kernel_rfl
theorem results_hl {fn : Func} {p u : Tmp} (hr : fn.results = #[.cell p 23, .tmp u]) (tmps : Array Value) (w : World) (g : Nat) (hp : tmps.getD p undef = .pointer (some ⟨g, 0, none⟩)) (cs : List Value) (hl : cs.length = 3) (hb : Blk w 23 g cs)
    (v : Value) (hu : tmps.getD u undef = v) : (results fn tmps).run Try.prog w = .ok (.tuple #[.agg cs.toArray, v]) w := by
  have hz := run_loadVar_mid (P := Try.prog) w g 0 23 cs _ (Blk_10.range hb) Try.underlying23 rfl (by rw [hl]; exact hlSize)
  rw [results_cell_tmp hr, hp, hu]
  simp [Result.andThen, asAddr, hz]
theorem rbring_any (z : Int) (w : World) : Calls Try.prog 26 #[.int .i64 z] w fun e w' => e = .returned (.int .i64 (brZ z)) ∧ w = w' := by
  by_cases h1 : z < 1
  · have e : brZ z = 1 := if_pos h1
    rw [e]
    go_enter Try.func26, Try.ntmps26
    go_wp2_with fail
    go_ret
    exact ⟨rfl, rfl⟩
  · by_cases h2 : 100 < z
    · have e : brZ z = 100 := by unfold brZ; rw [if_neg h1, if_pos h2]
      rw [e]
      go_enter Try.func26, Try.ntmps26
      go_wp2_with fail
      go_ret
      exact ⟨rfl, rfl⟩
    · have e : brZ z = z := by unfold brZ; rw [if_neg h1, if_neg h2]
      rw [e]
      go_enter Try.func26, Try.ntmps26
      go_wp2_with fail
      go_ret
      exact ⟨rfl, rfl⟩
def StepGave (w : World) (rise fall : Int) (h : Hl) (b : Bool) (e : Ending) (w' : World) : Prop :=
  e = .returned (.tuple #[hlC (stepH rise fall h b).1, .bool (stepH rise fall h b).2]) ∧ Below w.heap.size w w'
set_option maxHeartbeats 4000000 in
theorem rstep_any (h : Hl) (b : Bool) (rise fall : Int) (hr : -9223372036854775808 ≤ h.run) (hr2 : h.run ≤ 9223372036854775807) (w : World) : Calls Try.prog 12 #[hlC h, .bool b, .int .i64 rise, .int .i64 fall] w (StepGave w rise fall h b) := by
  unfold StepGave
  obtain ⟨nm, dn, run⟩ := h
  simp only at hr hr2
  obtain ⟨Y, hY⟩ : ∃ Y, (w.alloc (.cells #[strV nm, .bool dn, .int .i64 run] 23)).alloc (.cells #[.string ⟨#[]⟩, .bool false, .int .i64 0] 23) = Y := ⟨_, rfl⟩
  have hs := World.size_alloc w (.cells #[strV nm, .bool dn, .int .i64 run] 23)
  have HX := Lib.hid (show Blk Y 23 w.heap.size [strV nm, .bool dn, .int .i64 run] by rw [← hY]; exact Blk_10.alloc (Blk_10.new w _ [strV nm, .bool dn, .int .i64 run]) _)
  have HZ := Lib.hid (show Blk Y 23 (w.heap.size + 1) [.string ⟨#[]⟩, .bool false, .int .i64 0] by
    rw [← hY]
    have := Blk_10.new (w.alloc (.cells #[strV nm, .bool dn, .int .i64 run] 23)) 23 [.string ⟨#[]⟩, .bool false, .int .i64 0]
    rw [hs] at this
    exact this)
  have HB := Lib.hid (show Below w.heap.size w Y by rw [← hY]; exact ((Below.refl w.heap.size w).alloc (Nat.le_refl _) _).alloc (by rw [hs]; exact Nat.le_succ _) _)
  have HY := Lib.hid hY
  clear hY hs
  have c0 : Y.cell? ⟨w.heap.size, 0, none⟩ = some (.string ⟨nm.toArray⟩) := Blk_10.cell HX.out (i := 0) rfl
  have c1 : Y.cell? ⟨w.heap.size, 1, none⟩ = some (.bool dn) := Blk_10.cell HX.out (i := 1) rfl
  have c2 : Y.cell? ⟨w.heap.size, 2, none⟩ = some (.int .i64 run) := Blk_10.cell HX.out (i := 2) rfl
  obtain ⟨r, hrn⟩ : ∃ r, rnZ run = r := ⟨_, rfl⟩
  have hr0 : 0 ≤ r := by rw [← hrn]; exact rnZ_low run
  have hrm : r ≤ 9223372036854775807 := by rw [← hrn]; unfold rnZ; split <;> omega
  have HRN : Hid (if run < 0 then r = 0 else r = run) := Lib.hid (by rw [← hrn]; unfold rnZ; split <;> rfl)
  have HRR := Lib.hid hrn
  clear hrn
  have HBR := Lib.hid (fun z W => rbring_any z W)
  unfold hlC strV at *
  by_cases hneg : run < 0
  · obtain rfl : r = 0 := by have := HRN.out; rw [if_pos hneg] at this; exact this
    clear HRN
    cases dn
    · cases b
      · skip
        obtain ⟨t, ht⟩ : ∃ t, brZ fall = t := ⟨_, rfl⟩
        have ht1 := brZ_low fall
        have HT := Lib.hid (HBR.out fall Y)
        rw [ht] at ht1 HT
        have HTT := Lib.hid ht
        clear ht
        by_cases hc : t ≤ 1
        · have HC := Lib.hid hc
          go_enter Try.func12, Try.ntmps12
          go_upto_region 1 with (fail)
          rw [HY.out]
          go_wp2_with (first | ((with_reducible refine HT.out.mono ?_); rintro e w' ⟨rfl, rfl⟩) | ((with_reducible show wpList _ _ _ (⟨none, .store 23 (.tmp 8) _, _, _, _, _⟩ :: _) _ _); refine wpList_storeBA rfl 23 (.tmp 8) _ rfl (w.heap.size + 1) (by rfl) [.string ⟨nm.toArray⟩, .bool true, .int .i64 0] (by rfl) _ HZ.out rfl hlSize (by simp [Value.oneCell']) ?_; intro w9 hb9 hg9; have HB9 := Lib.hid hb9; have HG9 := Lib.hid hg9; clear hb9 hg9))
          refine bodyPost_ret (v := .tuple #[.agg #[.string ⟨nm.toArray⟩, .bool true, .int .i64 0], .bool true]) (results_hl rfl _ _ (w.heap.size + 1) (by rfl) [.string ⟨nm.toArray⟩, .bool true, .int .i64 0] rfl HB9.out _ (by rfl)) rfl ?_
          refine ⟨?_, below_gb HB.out HG9.out (Nat.le_succ _) HB.out.size⟩
          rw [step_turn (h := ⟨nm, false, run⟩) (b := false) rfl (by show brZ fall ≤ rnZ run + 1; rw [HTT.out, HRR.out]; have := HC.out; omega)]
          rfl
        · have HC := Lib.hid hc
          go_enter Try.func12, Try.ntmps12
          go_upto_region 1 with (fail)
          rw [HY.out]
          go_wp2_with (first | ((with_reducible refine HT.out.mono ?_); rintro e w' ⟨rfl, rfl⟩) | ((with_reducible show wpList _ _ _ (⟨none, .store 23 (.tmp 8) _, _, _, _, _⟩ :: _) _ _); refine wpList_storeBA rfl 23 (.tmp 8) _ rfl (w.heap.size + 1) (by rfl) [.string ⟨nm.toArray⟩, .bool false, .int .i64 1] (by rfl) _ HZ.out rfl hlSize (by simp [Value.oneCell']) ?_; intro w9 hb9 hg9; have HB9 := Lib.hid hb9; have HG9 := Lib.hid hg9; clear hb9 hg9))
          refine bodyPost_ret (v := .tuple #[.agg #[.string ⟨nm.toArray⟩, .bool false, .int .i64 1], .bool false]) (results_hl rfl _ _ (w.heap.size + 1) (by rfl) [.string ⟨nm.toArray⟩, .bool false, .int .i64 1] rfl HB9.out _ (by rfl)) rfl ?_
          refine ⟨?_, below_gb HB.out HG9.out (Nat.le_succ _) HB.out.size⟩
          rw [step_more (h := ⟨nm, false, run⟩) (b := false) rfl (by show ¬ brZ fall ≤ rnZ run + 1; rw [HTT.out, HRR.out]; have := HC.out; omega), HRR.out]
          rfl
      · skip
        go_enter Try.func12, Try.ntmps12
        go_upto_region 1 with (fail)
        rw [HY.out]
        go_wp2_with (((with_reducible show wpList _ _ _ (⟨none, .store 23 (.tmp 8) _, _, _, _, _⟩ :: _) _ _); refine wpList_storeBA rfl 23 (.tmp 8) _ rfl (w.heap.size + 1) (by rfl) [.string ⟨nm.toArray⟩, .bool false, .int .i64 0] (by rfl) _ HZ.out rfl hlSize (by simp [Value.oneCell']) ?_; intro w9 hb9 hg9; have HB9 := Lib.hid hb9; have HG9 := Lib.hid hg9; clear hb9 hg9))
        refine bodyPost_ret (v := .tuple #[.agg #[.string ⟨nm.toArray⟩, .bool false, .int .i64 0], .bool false]) (results_hl rfl _ _ (w.heap.size + 1) (by rfl) [.string ⟨nm.toArray⟩, .bool false, .int .i64 0] rfl HB9.out _ (by rfl)) rfl ?_
        refine ⟨?_, below_gb HB.out HG9.out (Nat.le_succ _) HB.out.size⟩
        rw [step_no (h := ⟨nm, false, run⟩) (b := true) (show (true : Bool) ≠ false by decide)]
    · cases b
      · skip
        go_enter Try.func12, Try.ntmps12
        go_upto_region 1 with (fail)
        rw [HY.out]
        go_wp2_with (((with_reducible show wpList _ _ _ (⟨none, .store 23 (.tmp 8) _, _, _, _, _⟩ :: _) _ _); refine wpList_storeBA rfl 23 (.tmp 8) _ rfl (w.heap.size + 1) (by rfl) [.string ⟨nm.toArray⟩, .bool true, .int .i64 0] (by rfl) _ HZ.out rfl hlSize (by simp [Value.oneCell']) ?_; intro w9 hb9 hg9; have HB9 := Lib.hid hb9; have HG9 := Lib.hid hg9; clear hb9 hg9))
        refine bodyPost_ret (v := .tuple #[.agg #[.string ⟨nm.toArray⟩, .bool true, .int .i64 0], .bool false]) (results_hl rfl _ _ (w.heap.size + 1) (by rfl) [.string ⟨nm.toArray⟩, .bool true, .int .i64 0] rfl HB9.out _ (by rfl)) rfl ?_
        refine ⟨?_, below_gb HB.out HG9.out (Nat.le_succ _) HB.out.size⟩
        rw [step_no (h := ⟨nm, true, run⟩) (b := false) (show (false : Bool) ≠ true by decide)]
      · skip
        obtain ⟨t, ht⟩ : ∃ t, brZ rise = t := ⟨_, rfl⟩
        have ht1 := brZ_low rise
        have HT := Lib.hid (HBR.out rise Y)
        rw [ht] at ht1 HT
        have HTT := Lib.hid ht
        clear ht
        by_cases hc : t ≤ 1
        · have HC := Lib.hid hc
          go_enter Try.func12, Try.ntmps12
          go_upto_region 1 with (fail)
          rw [HY.out]
          go_wp2_with (first | ((with_reducible refine HT.out.mono ?_); rintro e w' ⟨rfl, rfl⟩) | ((with_reducible show wpList _ _ _ (⟨none, .store 23 (.tmp 8) _, _, _, _, _⟩ :: _) _ _); refine wpList_storeBA rfl 23 (.tmp 8) _ rfl (w.heap.size + 1) (by rfl) [.string ⟨nm.toArray⟩, .bool false, .int .i64 0] (by rfl) _ HZ.out rfl hlSize (by simp [Value.oneCell']) ?_; intro w9 hb9 hg9; have HB9 := Lib.hid hb9; have HG9 := Lib.hid hg9; clear hb9 hg9))
          refine bodyPost_ret (v := .tuple #[.agg #[.string ⟨nm.toArray⟩, .bool false, .int .i64 0], .bool true]) (results_hl rfl _ _ (w.heap.size + 1) (by rfl) [.string ⟨nm.toArray⟩, .bool false, .int .i64 0] rfl HB9.out _ (by rfl)) rfl ?_
          refine ⟨?_, below_gb HB.out HG9.out (Nat.le_succ _) HB.out.size⟩
          rw [step_turn (h := ⟨nm, true, run⟩) (b := true) rfl (by show brZ rise ≤ rnZ run + 1; rw [HTT.out, HRR.out]; have := HC.out; omega)]
          rfl
        · have HC := Lib.hid hc
          go_enter Try.func12, Try.ntmps12
          go_upto_region 1 with (fail)
          rw [HY.out]
          go_wp2_with (first | ((with_reducible refine HT.out.mono ?_); rintro e w' ⟨rfl, rfl⟩) | ((with_reducible show wpList _ _ _ (⟨none, .store 23 (.tmp 8) _, _, _, _, _⟩ :: _) _ _); refine wpList_storeBA rfl 23 (.tmp 8) _ rfl (w.heap.size + 1) (by rfl) [.string ⟨nm.toArray⟩, .bool true, .int .i64 1] (by rfl) _ HZ.out rfl hlSize (by simp [Value.oneCell']) ?_; intro w9 hb9 hg9; have HB9 := Lib.hid hb9; have HG9 := Lib.hid hg9; clear hb9 hg9))
          refine bodyPost_ret (v := .tuple #[.agg #[.string ⟨nm.toArray⟩, .bool true, .int .i64 1], .bool false]) (results_hl rfl _ _ (w.heap.size + 1) (by rfl) [.string ⟨nm.toArray⟩, .bool true, .int .i64 1] rfl HB9.out _ (by rfl)) rfl ?_
          refine ⟨?_, below_gb HB.out HG9.out (Nat.le_succ _) HB.out.size⟩
          rw [step_more (h := ⟨nm, true, run⟩) (b := true) rfl (by show ¬ brZ rise ≤ rnZ run + 1; rw [HTT.out, HRR.out]; have := HC.out; omega), HRR.out]
          rfl
  · obtain rfl : r = run := by have := HRN.out; rw [if_neg hneg] at this; exact this
    clear HRN
    cases dn
    · cases b
      · skip
        obtain ⟨t, ht⟩ : ∃ t, brZ fall = t := ⟨_, rfl⟩
        have ht1 := brZ_low fall
        have HT := Lib.hid (HBR.out fall Y)
        rw [ht] at ht1 HT
        have HTT := Lib.hid ht
        clear ht
        by_cases hc : t ≤ r + 1
        · by_cases hw : r = 9223372036854775807
          · subst hw
            have HC := Lib.hid hc
            have hlt : ¬ t ≤ -9223372036854775808 := by omega
            clear hc
            go_enter Try.func12, Try.ntmps12
            go_upto_region 1 with (fail)
            rw [HY.out]
            go_wp2_with (first | ((with_reducible refine HT.out.mono ?_); rintro e w' ⟨rfl, rfl⟩) | ((with_reducible show wpList _ _ _ (⟨none, .store 23 (.tmp 8) _, _, _, _, _⟩ :: _) _ _); refine wpList_storeBA rfl 23 (.tmp 8) _ rfl (w.heap.size + 1) (by rfl) [.string ⟨nm.toArray⟩, .bool true, .int .i64 0] (by rfl) _ HZ.out rfl hlSize (by simp [Value.oneCell']) ?_; intro w9 hb9 hg9; have HB9 := Lib.hid hb9; have HG9 := Lib.hid hg9; clear hb9 hg9))
            all_goals
              refine bodyPost_ret (v := .tuple #[.agg #[.string ⟨nm.toArray⟩, .bool true, .int .i64 0], .bool true]) (results_hl rfl _ _ (w.heap.size + 1) (by rfl) [.string ⟨nm.toArray⟩, .bool true, .int .i64 0] rfl HB9.out _ (by rfl)) rfl ?_
              refine ⟨?_, below_gb HB.out HG9.out (Nat.le_succ _) HB.out.size⟩
              rw [step_turn (h := ⟨nm, false, 9223372036854775807⟩) (b := false) rfl (by show brZ fall ≤ rnZ 9223372036854775807 + 1; rw [HTT.out, HRR.out]; have := HC.out; omega)]
              rfl
          · have HC := Lib.hid hc
            have hrl : r < 9223372036854775807 := by omega
            clear hw
            go_enter Try.func12, Try.ntmps12
            go_upto_region 1 with (fail)
            rw [HY.out]
            go_wp2_with (first | ((with_reducible refine HT.out.mono ?_); rintro e w' ⟨rfl, rfl⟩) | ((with_reducible show wpList _ _ _ (⟨none, .store 23 (.tmp 8) _, _, _, _, _⟩ :: _) _ _); refine wpList_storeBA rfl 23 (.tmp 8) _ rfl (w.heap.size + 1) (by rfl) [.string ⟨nm.toArray⟩, .bool true, .int .i64 0] (by rfl) _ HZ.out rfl hlSize (by simp [Value.oneCell']) ?_; intro w9 hb9 hg9; have HB9 := Lib.hid hb9; have HG9 := Lib.hid hg9; clear hb9 hg9))
            refine bodyPost_ret (v := .tuple #[.agg #[.string ⟨nm.toArray⟩, .bool true, .int .i64 0], .bool true]) (results_hl rfl _ _ (w.heap.size + 1) (by rfl) [.string ⟨nm.toArray⟩, .bool true, .int .i64 0] rfl HB9.out _ (by rfl)) rfl ?_
            refine ⟨?_, below_gb HB.out HG9.out (Nat.le_succ _) HB.out.size⟩
            rw [step_turn (h := ⟨nm, false, r⟩) (b := false) rfl (by show brZ fall ≤ rnZ r + 1; rw [HTT.out, HRR.out]; have := HC.out; omega)]
            rfl
        · have HC := Lib.hid hc
          have hrl : r < 100 := by omega
          have hr1k : ¬ 1000 < r := by omega
          go_enter Try.func12, Try.ntmps12
          go_upto_region 1 with (fail)
          rw [HY.out]
          go_wp2_with (first | ((with_reducible refine HT.out.mono ?_); rintro e w' ⟨rfl, rfl⟩) | ((with_reducible show wpList _ _ _ (⟨none, .store 23 (.tmp 8) _, _, _, _, _⟩ :: _) _ _); refine wpList_storeBA rfl 23 (.tmp 8) _ rfl (w.heap.size + 1) (by rfl) [.string ⟨nm.toArray⟩, .bool false, .int .i64 (r + 1)] (by rfl) _ HZ.out rfl hlSize (by simp [Value.oneCell']) ?_; intro w9 hb9 hg9; have HB9 := Lib.hid hb9; have HG9 := Lib.hid hg9; clear hb9 hg9))
          refine bodyPost_ret (v := .tuple #[.agg #[.string ⟨nm.toArray⟩, .bool false, .int .i64 (r + 1)], .bool false]) (results_hl rfl _ _ (w.heap.size + 1) (by rfl) [.string ⟨nm.toArray⟩, .bool false, .int .i64 (r + 1)] rfl HB9.out _ (by rfl)) rfl ?_
          refine ⟨?_, below_gb HB.out HG9.out (Nat.le_succ _) HB.out.size⟩
          rw [step_more (h := ⟨nm, false, r⟩) (b := false) rfl (by show ¬ brZ fall ≤ rnZ r + 1; rw [HTT.out, HRR.out]; have := HC.out; omega), HRR.out]
      · skip
        go_enter Try.func12, Try.ntmps12
        go_upto_region 1 with (fail)
        rw [HY.out]
        go_wp2_with (((with_reducible show wpList _ _ _ (⟨none, .store 23 (.tmp 8) _, _, _, _, _⟩ :: _) _ _); refine wpList_storeBA rfl 23 (.tmp 8) _ rfl (w.heap.size + 1) (by rfl) [.string ⟨nm.toArray⟩, .bool false, .int .i64 0] (by rfl) _ HZ.out rfl hlSize (by simp [Value.oneCell']) ?_; intro w9 hb9 hg9; have HB9 := Lib.hid hb9; have HG9 := Lib.hid hg9; clear hb9 hg9))
        refine bodyPost_ret (v := .tuple #[.agg #[.string ⟨nm.toArray⟩, .bool false, .int .i64 0], .bool false]) (results_hl rfl _ _ (w.heap.size + 1) (by rfl) [.string ⟨nm.toArray⟩, .bool false, .int .i64 0] rfl HB9.out _ (by rfl)) rfl ?_
        refine ⟨?_, below_gb HB.out HG9.out (Nat.le_succ _) HB.out.size⟩
        rw [step_no (h := ⟨nm, false, r⟩) (b := true) (show (true : Bool) ≠ false by decide)]
    · cases b
      · skip
        go_enter Try.func12, Try.ntmps12
        go_upto_region 1 with (fail)
        rw [HY.out]
        go_wp2_with (((with_reducible show wpList _ _ _ (⟨none, .store 23 (.tmp 8) _, _, _, _, _⟩ :: _) _ _); refine wpList_storeBA rfl 23 (.tmp 8) _ rfl (w.heap.size + 1) (by rfl) [.string ⟨nm.toArray⟩, .bool true, .int .i64 0] (by rfl) _ HZ.out rfl hlSize (by simp [Value.oneCell']) ?_; intro w9 hb9 hg9; have HB9 := Lib.hid hb9; have HG9 := Lib.hid hg9; clear hb9 hg9))
        refine bodyPost_ret (v := .tuple #[.agg #[.string ⟨nm.toArray⟩, .bool true, .int .i64 0], .bool false]) (results_hl rfl _ _ (w.heap.size + 1) (by rfl) [.string ⟨nm.toArray⟩, .bool true, .int .i64 0] rfl HB9.out _ (by rfl)) rfl ?_
        refine ⟨?_, below_gb HB.out HG9.out (Nat.le_succ _) HB.out.size⟩
        rw [step_no (h := ⟨nm, true, r⟩) (b := false) (show (false : Bool) ≠ true by decide)]
      · skip
        obtain ⟨t, ht⟩ : ∃ t, brZ rise = t := ⟨_, rfl⟩
        have ht1 := brZ_low rise
        have HT := Lib.hid (HBR.out rise Y)
        rw [ht] at ht1 HT
        have HTT := Lib.hid ht
        clear ht
        by_cases hc : t ≤ r + 1
        · by_cases hw : r = 9223372036854775807
          · subst hw
            have HC := Lib.hid hc
            have hlt : ¬ t ≤ -9223372036854775808 := by omega
            clear hc
            go_enter Try.func12, Try.ntmps12
            go_upto_region 1 with (fail)
            rw [HY.out]
            go_wp2_with (first | ((with_reducible refine HT.out.mono ?_); rintro e w' ⟨rfl, rfl⟩) | ((with_reducible show wpList _ _ _ (⟨none, .store 23 (.tmp 8) _, _, _, _, _⟩ :: _) _ _); refine wpList_storeBA rfl 23 (.tmp 8) _ rfl (w.heap.size + 1) (by rfl) [.string ⟨nm.toArray⟩, .bool false, .int .i64 0] (by rfl) _ HZ.out rfl hlSize (by simp [Value.oneCell']) ?_; intro w9 hb9 hg9; have HB9 := Lib.hid hb9; have HG9 := Lib.hid hg9; clear hb9 hg9))
            all_goals
              refine bodyPost_ret (v := .tuple #[.agg #[.string ⟨nm.toArray⟩, .bool false, .int .i64 0], .bool true]) (results_hl rfl _ _ (w.heap.size + 1) (by rfl) [.string ⟨nm.toArray⟩, .bool false, .int .i64 0] rfl HB9.out _ (by rfl)) rfl ?_
              refine ⟨?_, below_gb HB.out HG9.out (Nat.le_succ _) HB.out.size⟩
              rw [step_turn (h := ⟨nm, true, 9223372036854775807⟩) (b := true) rfl (by show brZ rise ≤ rnZ 9223372036854775807 + 1; rw [HTT.out, HRR.out]; have := HC.out; omega)]
              rfl
          · have HC := Lib.hid hc
            have hrl : r < 9223372036854775807 := by omega
            clear hw
            go_enter Try.func12, Try.ntmps12
            go_upto_region 1 with (fail)
            rw [HY.out]
            go_wp2_with (first | ((with_reducible refine HT.out.mono ?_); rintro e w' ⟨rfl, rfl⟩) | ((with_reducible show wpList _ _ _ (⟨none, .store 23 (.tmp 8) _, _, _, _, _⟩ :: _) _ _); refine wpList_storeBA rfl 23 (.tmp 8) _ rfl (w.heap.size + 1) (by rfl) [.string ⟨nm.toArray⟩, .bool false, .int .i64 0] (by rfl) _ HZ.out rfl hlSize (by simp [Value.oneCell']) ?_; intro w9 hb9 hg9; have HB9 := Lib.hid hb9; have HG9 := Lib.hid hg9; clear hb9 hg9))
            refine bodyPost_ret (v := .tuple #[.agg #[.string ⟨nm.toArray⟩, .bool false, .int .i64 0], .bool true]) (results_hl rfl _ _ (w.heap.size + 1) (by rfl) [.string ⟨nm.toArray⟩, .bool false, .int .i64 0] rfl HB9.out _ (by rfl)) rfl ?_
            refine ⟨?_, below_gb HB.out HG9.out (Nat.le_succ _) HB.out.size⟩
            rw [step_turn (h := ⟨nm, true, r⟩) (b := true) rfl (by show brZ rise ≤ rnZ r + 1; rw [HTT.out, HRR.out]; have := HC.out; omega)]
            rfl
        · have HC := Lib.hid hc
          have hrl : r < 100 := by omega
          have hr1k : ¬ 1000 < r := by omega
          go_enter Try.func12, Try.ntmps12
          go_upto_region 1 with (fail)
          rw [HY.out]
          go_wp2_with (first | ((with_reducible refine HT.out.mono ?_); rintro e w' ⟨rfl, rfl⟩) | ((with_reducible show wpList _ _ _ (⟨none, .store 23 (.tmp 8) _, _, _, _, _⟩ :: _) _ _); refine wpList_storeBA rfl 23 (.tmp 8) _ rfl (w.heap.size + 1) (by rfl) [.string ⟨nm.toArray⟩, .bool true, .int .i64 (r + 1)] (by rfl) _ HZ.out rfl hlSize (by simp [Value.oneCell']) ?_; intro w9 hb9 hg9; have HB9 := Lib.hid hb9; have HG9 := Lib.hid hg9; clear hb9 hg9))
          refine bodyPost_ret (v := .tuple #[.agg #[.string ⟨nm.toArray⟩, .bool true, .int .i64 (r + 1)], .bool false]) (results_hl rfl _ _ (w.heap.size + 1) (by rfl) [.string ⟨nm.toArray⟩, .bool true, .int .i64 (r + 1)] rfl HB9.out _ (by rfl)) rfl ?_
          refine ⟨?_, below_gb HB.out HG9.out (Nat.le_succ _) HB.out.size⟩
          rw [step_more (h := ⟨nm, true, r⟩) (b := true) rfl (by show ¬ brZ rise ≤ rnZ r + 1; rw [HTT.out, HRR.out]; have := HC.out; omega), HRR.out]
end Go.Proofs.Yteljijjebocbiaa
