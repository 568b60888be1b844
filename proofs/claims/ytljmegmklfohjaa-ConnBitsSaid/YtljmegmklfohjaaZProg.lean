/-
  The program: has, opens, right, tick, Begin, Next, Run, Stale; so what is asked of it is so.
-/
import Derived.Test.YtljmegmklfohjaaZC
import Derived.BigQuiet
import Derived.Deep.QuietTactic
namespace Go.Proofs.Ytljmegmklfohjaa
set_option maxRecDepth 100000
open Go.RowKit Go.Lib

theorem phas_any (z m : Int) (b : Bool) (h : bits .and .i64 z m = if b = true then m else 0) (hm : m ≠ 0) (W : World) : Calls Try.prog 18 #[.int .i64 z, .int .i64 m] W fun e w' => e = .returned (.bool b) ∧ W = w' := by
  cases b
  · rw [if_neg (by decide)] at h
    clear hm
    go_enter Try.func18, Try.ntmps18
    go_wp2_with fail
    go_ret
    exact ⟨by simp, rfl⟩
  · rw [if_pos rfl] at h
    have k : (m != 0) = true := bne_iff_ne.2 hm
    clear hm
    go_enter Try.func18, Try.ntmps18
    go_wp2_with fail
    go_ret
    exact ⟨by simp, rfl⟩
theorem phas1 (z : Int) : Hid (∀ W, Calls Try.prog 18 #[.int .i64 z, .int .i64 1] W fun e w' => e = .returned (.bool (bitB z 1)) ∧ W = w') := Lib.hid (fun W => phas_any z 1 _ (and_pow z 0 (by decide)) (by decide) W)
theorem phas2 (z : Int) : Hid (∀ W, Calls Try.prog 18 #[.int .i64 z, .int .i64 2] W fun e w' => e = .returned (.bool (bitB z 2)) ∧ W = w') := Lib.hid (fun W => phas_any z 2 _ (and_pow z 1 (by decide)) (by decide) W)
theorem phas4 (z : Int) : Hid (∀ W, Calls Try.prog 18 #[.int .i64 z, .int .i64 4] W fun e w' => e = .returned (.bool (bitB z 4)) ∧ W = w') := Lib.hid (fun W => phas_any z 4 _ (and_pow z 2 (by decide)) (by decide) W)
theorem phas16 (z : Int) : Hid (∀ W, Calls Try.prog 18 #[.int .i64 z, .int .i64 16] W fun e w' => e = .returned (.bool (bitB z 16)) ∧ W = w') := Lib.hid (fun W => phas_any z 16 _ (and_pow z 4 (by decide)) (by decide) W)
theorem popens_any (z : Int) (W : World) : Calls Try.prog 19 #[.int .i64 z] W fun e w' => e = .returned (.bool (opB z)) ∧ W = w' := by
  have H2 := phas2 z
  have H16 := phas16 z
  have HO : Hid (opB z = (bitB z 2 && !bitB z 16)) := Lib.hid rfl
  rw [HO.out]
  clear HO
  generalize bitB z 2 = a at H2 ⊢
  generalize bitB z 16 = b at H16 ⊢
  cases a <;> cases b
  all_goals
    go_enter Try.func19, Try.ntmps19
    go_wp2_with (first
      | (with_reducible refine (H2.out _).mono ?_; rintro e w' ⟨rfl, rfl⟩)
      | (with_reducible refine (H16.out _).mono ?_; rintro e w' ⟨rfl, rfl⟩))
    go_ret
    exact ⟨rfl, rfl⟩
theorem prightN_any (s : Int) (b : Bool) (h : if b = true then 1 ≤ s ∧ s ≤ 5 else s < 1 ∨ 5 < s) (W : World) : Calls Try.prog 22 #[.int .i64 s] W fun e w' => e = .returned (.bool b) ∧ W = w' := by
  cases b
  · rw [if_neg (by decide)] at h
    rcases h with h | h
    · have k : ¬ 1 ≤ s := by omega
      clear h
      go_enter Try.func22, Try.ntmps22
      go_wp2_with fail
      go_ret
      exact ⟨by simp, rfl⟩
    · have k : 1 ≤ s := by omega
      have k2 : ¬ s ≤ 5 := by omega
      clear h
      go_enter Try.func22, Try.ntmps22
      go_wp2_with fail
      go_ret
      exact ⟨by simp, rfl⟩
  · rw [if_pos rfl] at h
    obtain ⟨k, k2⟩ := h
    go_enter Try.func22, Try.ntmps22
    go_wp2_with fail
    go_ret
    exact ⟨by simp, rfl⟩
theorem ptick_any (z : Int) (W : World) : Calls Try.prog 23 #[.int .i64 z] W fun e w' => e = .returned (.int .i64 (tickZ z)) ∧ W = w' := by
  obtain ⟨t, ht⟩ : ∃ t, tickZ z = t := ⟨_, rfl⟩
  rw [ht]
  unfold tickZ at ht
  by_cases h1 : z < 0
  · rw [if_pos h1] at ht
    subst ht
    have h2 : ¬ 0 < z := by omega
    go_enter Try.func23, Try.ntmps23
    go_wp2_with fail
    go_ret
    exact ⟨by simp, rfl⟩
  · rw [if_neg h1] at ht
    by_cases h2 : 1099511627776 < z
    · rw [if_pos h2] at ht
      subst ht
      have h3 : ¬ z < 1099511627776 := by omega
      go_enter Try.func23, Try.ntmps23
      go_wp2_with fail
      go_ret
      exact ⟨by simp, rfl⟩
    · rw [if_neg h2] at ht
      subst ht
      go_enter Try.func23, Try.ntmps23
      go_wp2_with fail
      go_ret
      exact ⟨by simp, rfl⟩
theorem pbegin20_any (p z : Int) (W : World) : Calls Try.prog 11 #[.int .i64 p, .int .i64 z] W fun e w' => e = .returned (.int .i64 (stB p z)) ∧ W = w' := by
  have H4 := phas4 z
  have H1 := phas1 z
  have HO := Lib.hid (fun W => popens_any z W)
  obtain ⟨r, hr⟩ : ∃ r, stB p z = r := ⟨_, rfl⟩
  rw [hr]
  unfold stB at hr
  generalize bitB z 4 = b4 at H4 hr
  generalize bitB z 1 = b1 at H1 hr
  generalize opB z = bo at HO hr
  by_cases h17 : p = 17
  · rw [if_pos h17] at hr
    subst hr
    subst h17
    go_enter Try.func11, Try.ntmps11
    go_wp2_with fail
    go_ret
    exact ⟨rfl, rfl⟩
  · rw [if_neg h17] at hr
    have k17 : (p == 17) = false := beq_eq_false_iff_ne.2 h17
    by_cases h6 : p = 6
    · rw [if_neg (by simpa using h6)] at hr
      subst h6
      clear h17
      cases b4 <;> cases b1 <;> cases bo
      all_goals
        simp at hr
        subst hr
        go_enter Try.func11, Try.ntmps11
        go_wp2_with (first
          | (with_reducible refine (H4.out _).mono ?_; rintro e w' ⟨rfl, rfl⟩)
          | (with_reducible refine (H1.out _).mono ?_; rintro e w' ⟨rfl, rfl⟩)
          | (with_reducible refine (HO.out _).mono ?_; rintro e w' ⟨rfl, rfl⟩))
        go_ret
        exact ⟨rfl, rfl⟩
    · rw [if_pos h6] at hr
      subst hr
      have k6 : (p != 6) = true := bne_iff_ne.2 h6
      clear h6 h17
      go_enter Try.func11, Try.ntmps11
      go_wp2_with fail
      go_ret
      exact ⟨rfl, rfl⟩
set_option maxHeartbeats 8000000 in
theorem pnext20_any (s z : Int) (W : World) : Calls Try.prog 13 #[.int .i64 s, .int .i64 z] W fun e w' => e = .returned (.int .i64 (stN s z)) ∧ W = w' := by
  have H4 := phas4 z
  have H1 := phas1 z
  have H2 := phas2 z
  have H16 := phas16 z
  have HO := Lib.hid (fun W => popens_any z W)
  obtain ⟨r, hr⟩ : ∃ r, stN s z = r := ⟨_, rfl⟩
  rw [hr]
  unfold stN at hr
  generalize bitB z 4 = b4 at H4 hr
  generalize bitB z 1 = b1 at H1 hr
  generalize bitB z 2 = b2 at H2 hr
  generalize bitB z 16 = b16 at H16 hr
  generalize opB z = bo at HO hr
  by_cases h5 : s = 5
  · rw [if_pos h5] at hr
    subst hr
    subst h5
    have HR := Lib.hid (fun W => prightN_any 5 true (by decide) W)
    go_enter Try.func13, Try.ntmps13
    go_wp2_with (with_reducible refine (HR.out _).mono ?_; rintro e w' ⟨rfl, rfl⟩)
    go_ret
    exact ⟨rfl, rfl⟩
  · rw [if_neg h5] at hr
    by_cases ho : s < 1 ∨ 5 < s
    · rw [if_pos ho] at hr
      subst hr
      have HR := Lib.hid (fun W => prightN_any s false ho W)
      clear h5 ho
      go_enter Try.func13, Try.ntmps13
      go_wp2_with (with_reducible refine (HR.out _).mono ?_; rintro e w' ⟨rfl, rfl⟩)
      go_ret
      exact ⟨rfl, rfl⟩
    · rw [if_neg ho] at hr
      have hs : s = 1 ∨ s = 2 ∨ s = 3 ∨ s = 4 := by omega
      have HR := Lib.hid (fun W => prightN_any s true (show 1 ≤ s ∧ s ≤ 5 by omega) W)
      clear ho h5
      rcases hs with rfl | rfl | rfl | rfl <;> cases b4
      all_goals (try (cases bo <;> cases b1 <;> cases b16 <;> cases b2))
      all_goals
        simp at hr
        subst hr
        go_enter Try.func13, Try.ntmps13
        go_wp2_with (first
          | (with_reducible refine (HR.out _).mono ?_; rintro e w' ⟨rfl, rfl⟩)
          | (with_reducible refine (H4.out _).mono ?_; rintro e w' ⟨rfl, rfl⟩)
          | (with_reducible refine (H1.out _).mono ?_; rintro e w' ⟨rfl, rfl⟩)
          | (with_reducible refine (H2.out _).mono ?_; rintro e w' ⟨rfl, rfl⟩)
          | (with_reducible refine (H16.out _).mono ?_; rintro e w' ⟨rfl, rfl⟩)
          | (with_reducible refine (HO.out _).mono ?_; rintro e w' ⟨rfl, rfl⟩))
        go_ret
        exact ⟨rfl, rfl⟩
theorem prun20_any (s : Int) (A : Option Addr) (n c : Nat) (l : List Int) (W : World) (B : Nat) (hn : n ≤ 2000) (hB : B ≤ W.heap.size) (hI : RdG eZ W B A n l) :
    Calls Try.prog 15 #[.int .i64 s, .slice A n c] W fun e w' => e = .returned (.int .i64 (stR s l)) ∧ Below W.heap.size W w' := by
  have HI := Lib.hid hI
  have HBB := Lib.hid hB
  have HNX := Lib.hid (fun (t z : Int) (W : World) => pnext20_any t z W)
  have HW := Lib.hid (Below.refl W.heap.size W)
  clear hI hB
  go_enter Try.func15, Try.ntmps15
  go_wp2_with fail
  go_loopw [0, 9] (fun t i wr => ∃ k : Nat, k ≤ n ∧ i = .int .i64 (k : Int) ∧ t = .int .i64 (stR s (l.take k)) ∧ Below W.heap.size W wr) (fun _ i _ => n - (intOf i).toNat)
  case atStart => exact ⟨0, Nat.zero_le _, rfl, rfl, HW.out⟩
  case round =>
    obtain ⟨k, hk, rfl, rfl, hbel⟩ := hrel
    have HB := Lib.hid hbel
    clear hbel
    by_cases hlt : k < n
    · have h1 : (k : Int) < (n : Int) := by omega
      have h0 : (0 : Int) ≤ (k : Int) := by omega
      obtain ⟨b, off, rfl, _⟩ := HI.out.addr (by omega)
      obtain ⟨x, hx⟩ : ∃ x, l[k]? = some x := ⟨_, List.getElem?_eq_getElem (by rw [HI.out.len]; exact hlt)⟩
      have q1 := (HI.out.below (HB.out.mono HBB.out)).cell1 hx (u := .int .i64 x) rfl
      have HS := Lib.hid (stR_succ (s := s) hx)
      obtain ⟨t, ht⟩ : ∃ t, stR s (l.take k) = t := ⟨_, rfl⟩
      rw [ht] at HS ⊢
      have HCK := Lib.hid (HNX.out t x)
      have HLT := Lib.hid hlt
      clear hx ht hk hlt
      go_wp2_with ((with_reducible refine (HCK.out _).mono ?_); rintro e w' ⟨rfl, rfl⟩)
      go_roundw
      case rel => exact ⟨k + 1, HLT.out, (by have := HLT.out; go_num), by rw [HS.out], HB.out⟩
      case measure =>
        have := HLT.out
        simp [intOf]
        omega
    · obtain rfl : k = n := by omega
      have h1 : ¬ (k : Int) < (k : Int) := by omega
      have he : l.take k = l := by rw [← HI.out.len]; exact List.take_length
      rw [he]
      clear hlt hk he
      go_wp2_with fail
      go_ret
      exact ⟨rfl, HB.out⟩
theorem pstale_any (s seen now : Int) (l : List Int) (hl : l.length = 6) (W : World) : Calls Try.prog 16 #[.int .i64 s, .int .i64 seen, .int .i64 now, zC l] W fun e w' => e = .returned (.bool (staleB s seen now l)) ∧ Below W.heap.size W w' := by
  obtain ⟨C0, hC0⟩ : ∃ C, (zL l).toArray = C := ⟨_, rfl⟩
  obtain ⟨Y, hY⟩ : ∃ Y, W.alloc (.cells C0 30) = Y := ⟨_, rfl⟩
  have HK0 := Lib.hid (show Blk_10 Y 30 W.heap.size (zL l) by rw [← hY, ← hC0]; exact Blk_10.new W _ _)
  have HB0 := Lib.hid (show Below W.heap.size W Y by rw [← hY]; exact (Below.refl W.heap.size W).alloc (Nat.le_refl _) _)
  have HY := Lib.hid hY
  have HKE : Hid (zC l = .agg C0) := Lib.hid (by rw [← hC0]; rfl)
  rw [HKE.out]
  have HT := Lib.hid (fun (z : Int) (W : World) => ptick_any z W)
  obtain ⟨r, hr⟩ : ∃ r, staleB s seen now l = r := ⟨_, rfl⟩
  rw [hr]
  clear hC0 hY HKE
  by_cases ho : s < 1 ∨ 5 < s
  · rw [staleB_out ho] at hr
    subst hr
    have HR := Lib.hid (fun W => prightN_any s false ho W)
    clear ho
    go_enter Try.func16, Try.ntmps16
    go_upto_region 1 with (fail)
    rw [HY.out]
    go_quiet ((go_at_call 22; exact quiet_same (HR.out _)))
    go_wp2_with fail
    go_ret
    exact ⟨rfl, ⟨HB0.out.os, HB0.out.tape, HB0.out.output, HB0.out.size, HB0.out.block⟩⟩
  · have HR := Lib.hid (fun W => prightN_any s true (show 1 ≤ s ∧ s ≤ 5 by omega) W)
    obtain ⟨k, rfl⟩ := Int.eq_ofNat_of_zero_le (show 0 ≤ s by omega)
    have hk6 : k < 6 := by omega
    obtain ⟨x, hx⟩ : ∃ x, l[k]? = some x := ⟨_, List.getElem?_eq_getElem (by rw [hl]; exact hk6)⟩
    rw [staleB_in ho seen now (show l[(k : Int).toNat]? = some x by rw [Int.toNat_natCast]; exact hx)] at hr
    have hc := HK0.out.cell (i := k) (v := .int .i64 x) (by unfold zL; rw [List.getElem?_map, hx]; rfl)
    have t1 := tickZ_range now
    have t2 := tickZ_range seen
    have HTN := Lib.hid (fun W => HT.out now W)
    have HTS := Lib.hid (fun W => HT.out seen W)
    generalize tickZ now = a at t1 hr HTN
    generalize tickZ seen = b at t2 hr HTS
    have kw := wZ (a - b) (by omega) (by omega)
    subst hr
    have k3 : (k : Int) < 6 := by omega
    have k4 : (0 : Int) ≤ (k : Int) := by omega
    clear ho hx hl t1 t2 hk6
    go_enter Try.func16, Try.ntmps16
    go_upto_region 1 with (fail)
    rw [HY.out]
    go_quiet ((first | (go_at_call 22; exact quiet_same (HR.out _)) | (go_at_call 23; exact quiet_same (HTN.out _)) | (go_at_call 23; exact quiet_same (HTS.out _))))
    go_wp2_with fail
    go_ret
    exact ⟨rfl, ⟨HB0.out.os, HB0.out.tape, HB0.out.output, HB0.out.size, HB0.out.block⟩⟩
theorem quietZ {W w' : World} {v x : Value} {e : Ending} (h : e = .returned v ∧ W = w') (hv : v = x) : e = .returned x ∧ Below W.heap.size W w' := by
  obtain ⟨rfl, rfl⟩ := h
  exact ⟨by rw [hv], Below.refl _ _⟩
theorem connC : ConnC where
  begin_ p z W _ _ := (pbegin20_any p z W).mono fun _ _ h => quietZ h rfl
  next s z W _ _ := (pnext20_any s z W).mono fun _ _ h => quietZ h rfl
  run s A n c l W B _ hn _ _ _ hB hI := prun20_any s A n c l W B hn hB hI
  stale s seen now l W _ _ _ hl _ := pstale_any s seen now l hl W
end Go.Proofs.Ytljmegmklfohjaa
