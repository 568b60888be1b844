/-
  The program's right, tick and Stale of conn (split from ZProg).
-/
import Derived.Test.YtfbiinipiklkaaaZRef2
import Derived.BigQuiet
import Derived.Deep.QuietTactic
namespace Go.Proofs.Ytfbiinipiklkaaa
set_option maxRecDepth 100000
open Go.RowKit Go.Lib

theorem prightN_any (s : Int) (b : Bool) (h : if b = true then 1 ≤ s ∧ s ≤ 5 else s < 1 ∨ 5 < s) (W : World) : Calls Try.prog 59 #[.int .i64 s] W fun e w' => e = .returned (.bool b) ∧ W = w' := by
  cases b
  · rw [if_neg (by decide)] at h
    rcases h with h | h
    · have k : ¬ 1 ≤ s := by omega
      clear h
      go_enter Try.func59, Try.ntmps59
      go_wp2_with fail
      go_ret
      exact ⟨by simp, rfl⟩
    · have k : 1 ≤ s := by omega
      have k2 : ¬ s ≤ 5 := by omega
      clear h
      go_enter Try.func59, Try.ntmps59
      go_wp2_with fail
      go_ret
      exact ⟨by simp, rfl⟩
  · rw [if_pos rfl] at h
    obtain ⟨k, k2⟩ := h
    go_enter Try.func59, Try.ntmps59
    go_wp2_with fail
    go_ret
    exact ⟨by simp, rfl⟩
theorem ptick_any (z : Int) (W : World) : Calls Try.prog 60 #[.int .i64 z] W fun e w' => e = .returned (.int .i64 (tickZ z)) ∧ W = w' := by
  obtain ⟨t, ht⟩ : ∃ t, tickZ z = t := ⟨_, rfl⟩
  rw [ht]
  unfold tickZ at ht
  by_cases h1 : z < 0
  · rw [if_pos h1] at ht
    subst ht
    have h2 : ¬ 0 < z := by omega
    go_enter Try.func60, Try.ntmps60
    go_wp2_with fail
    go_ret
    exact ⟨by simp, rfl⟩
  · rw [if_neg h1] at ht
    by_cases h2 : 1099511627776 < z
    · rw [if_pos h2] at ht
      subst ht
      have h3 : ¬ z < 1099511627776 := by omega
      go_enter Try.func60, Try.ntmps60
      go_wp2_with fail
      go_ret
      exact ⟨by simp, rfl⟩
    · rw [if_neg h2] at ht
      subst ht
      go_enter Try.func60, Try.ntmps60
      go_wp2_with fail
      go_ret
      exact ⟨by simp, rfl⟩
theorem pstale_any (s seen now : Int) (l : List Int) (hl : l.length = 6) (W : World) : Calls Try.prog 45 #[.int .i64 s, .int .i64 seen, .int .i64 now, zC l] W fun e w' => e = .returned (.bool (staleB s seen now l)) ∧ Below W.heap.size W w' := by
  obtain ⟨C0, hC0⟩ : ∃ C, (zL l).toArray = C := ⟨_, rfl⟩
  obtain ⟨Y, hY⟩ : ∃ Y, W.alloc (.cells C0 45) = Y := ⟨_, rfl⟩
  have HK0 := Lib.hid (show Blk_10 Y 45 W.heap.size (zL l) by rw [← hY, ← hC0]; exact Blk_10.new W _ _)
  have HB0 := Lib.hid (show Below W.heap.size W Y by rw [← hY]; exact (Below.refl W.heap.size W).alloc (Nat.le_refl _) _)
  have HY := Lib.hid hY
  have HKE : Hid (zC l = .agg C0) := Lib.hid (by rw [← hC0]; rfl)
  rw [HKE.out]
  have HT := Lib.hid (fun (z : Int) (W : World) => ptick_any z W)
  obtain ⟨r, hr⟩ : ∃ r, staleB s seen now l = r := ⟨_, rfl⟩
  rw [hr]
  clear hC0 hY HKE
  by_cases ho : s < 1 ∨ 5 < s
  · rw [staleB_out ho] at hr
    subst hr
    have HR := Lib.hid (fun W => prightN_any s false ho W)
    clear ho
    go_enter Try.func45, Try.ntmps45
    go_upto_region 1 with (fail)
    rw [HY.out]
    go_quiet ((go_at_call 59; exact quiet_same (HR.out _)))
    go_wp2_with fail
    go_ret
    exact ⟨rfl, ⟨HB0.out.os, HB0.out.tape, HB0.out.output, HB0.out.size, HB0.out.block⟩⟩
  · have HR := Lib.hid (fun W => prightN_any s true (show 1 ≤ s ∧ s ≤ 5 by omega) W)
    obtain ⟨k, rfl⟩ := Int.eq_ofNat_of_zero_le (show 0 ≤ s by omega)
    have hk6 : k < 6 := by omega
    obtain ⟨x, hx⟩ : ∃ x, l[k]? = some x := ⟨_, List.getElem?_eq_getElem (by rw [hl]; exact hk6)⟩
    rw [staleB_in ho seen now (show l[(k : Int).toNat]? = some x by rw [Int.toNat_natCast]; exact hx)] at hr
    have hc := HK0.out.cell (i := k) (v := .int .i64 x) (by unfold zL; rw [List.getElem?_map, hx]; rfl)
    have t1 := tickZ_range now
    have t2 := tickZ_range seen
    have HTN := Lib.hid (fun W => HT.out now W)
    have HTS := Lib.hid (fun W => HT.out seen W)
    generalize tickZ now = a at t1 hr HTN
    generalize tickZ seen = b at t2 hr HTS
    have kw := wZ (a - b) (by omega) (by omega)
    subst hr
    have k3 : (k : Int) < 6 := by omega
    have k4 : (0 : Int) ≤ (k : Int) := by omega
    clear ho hx hl t1 t2 hk6
    go_enter Try.func45, Try.ntmps45
    go_upto_region 1 with (fail)
    rw [HY.out]
    go_quiet ((first | (go_at_call 59; exact quiet_same (HR.out _)) | (go_at_call 60; exact quiet_same (HTN.out _)) | (go_at_call 60; exact quiet_same (HTS.out _))))
    go_wp2_with fail
    go_ret
    exact ⟨rfl, ⟨HB0.out.os, HB0.out.tape, HB0.out.output, HB0.out.size, HB0.out.block⟩⟩
end Go.Proofs.Ytfbiinipiklkaaa
