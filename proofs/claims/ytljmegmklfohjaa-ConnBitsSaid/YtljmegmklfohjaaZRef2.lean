/-
  The document's Stale (stage 20).
-/
import Derived.Test.YtljmegmklfohjaaZTick
import Derived.BigQuiet
import Derived.Deep.QuietTactic
import Derived.Test.YtljmegmklfohjaaGBlk
import Derived.Deep.DeepCutAuto
namespace Go.Proofs.Ytljmegmklfohjaa
set_option maxRecDepth 100000
open Go.RowKit Go.Lib

theorem size6 : (Try.prog.info? 30).map (·.size) = some 6 := by kernel_rfl
set_option maxHeartbeats 4000000 in
theorem rstale_any (s seen now : Int) (l : List Int) (hl : l.length = 6) (W : World) : Calls Try.prog 17 #[.int .i64 s, .int .i64 seen, .int .i64 now, zC l] W fun e w' => e = .returned (.bool (staleB s seen now l)) ∧ Below W.heap.size W w' := by
  obtain ⟨C0, hC0⟩ : ∃ C, (zL l).toArray = C := ⟨_, rfl⟩
  obtain ⟨Y, hY⟩ : ∃ Y, W.alloc (.cells C0 30) = Y := ⟨_, rfl⟩
  have HK0 := Lib.hid (show Blk_10 Y 30 W.heap.size (zL l) by rw [← hY, ← hC0]; exact Blk_10.new W _ _)
  have HB0 := Lib.hid (show Below W.heap.size W Y by rw [← hY]; exact (Below.refl W.heap.size W).alloc (Nat.le_refl _) _)
  have HY := Lib.hid hY
  have HKE : Hid (zC l = .agg C0) := Lib.hid (by rw [← hC0]; rfl)
  rw [HKE.out]
  have HT := Lib.hid (fun (z : Int) (W : World) => rtick_any z W)
  obtain ⟨r, hr⟩ : ∃ r, staleB s seen now l = r := ⟨_, rfl⟩
  rw [hr]
  clear hC0 hY HKE
  by_cases ho : s < 1 ∨ 5 < s
  · rw [staleB_out ho] at hr
    subst hr
    rcases ho with ho | ho
    · go_enter Try.func17, Try.ntmps17
      go_upto_region 1 with (fail)
      rw [HY.out]
      go_wp2_with fail
      go_ret
      exact ⟨rfl, HB0.out⟩
    · have h1 : ¬ s < 1 := by omega
      go_enter Try.func17, Try.ntmps17
      go_upto_region 1 with (fail)
      rw [HY.out]
      go_wp2_with fail
      go_ret
      exact ⟨rfl, HB0.out⟩
  · obtain ⟨k, rfl⟩ := Int.eq_ofNat_of_zero_le (show 0 ≤ s by omega)
    have hk6 : k < 6 := by omega
    obtain ⟨x, hx⟩ : ∃ x, l[k]? = some x := ⟨_, List.getElem?_eq_getElem (by rw [hl]; exact hk6)⟩
    rw [staleB_in ho seen now (show l[(k : Int).toNat]? = some x by rw [Int.toNat_natCast]; exact hx)] at hr
    have hc := HK0.out.cell (i := k) (v := .int .i64 x) (by unfold zL; rw [List.getElem?_map, hx]; rfl)
    have t1 := tickZ_range now
    have t2 := tickZ_range seen
    have HTN := Lib.hid (fun W => HT.out now W)
    have HTS := Lib.hid (fun W => HT.out seen W)
    generalize tickZ now = a at t1 hr HTN
    generalize tickZ seen = b at t2 hr HTS
    have kw := wZ (a - b) (by omega) (by omega)
    subst hr
    have k1 : ¬ (k : Int) < 1 := by omega
    have k2 : ¬ 5 < (k : Int) := by omega
    have k3 : (k : Int) < 6 := by omega
    have k4 : (0 : Int) ≤ (k : Int) := by omega
    clear ho hx hl t1 t2 hk6
    go_enter Try.func17, Try.ntmps17
    go_upto_region 1 with (fail)
    rw [HY.out]
    go_wp2_with fail
    go_quiet ((first | (go_at_call 24; exact quiet_same (HTN.out _)) | (go_at_call 24; exact quiet_same (HTS.out _))))
    go_wp2_with fail
    go_ret
    exact ⟨rfl, ⟨HB0.out.os, HB0.out.tape, HB0.out.output, HB0.out.size, HB0.out.block⟩⟩
end Go.Proofs.Ytljmegmklfohjaa
