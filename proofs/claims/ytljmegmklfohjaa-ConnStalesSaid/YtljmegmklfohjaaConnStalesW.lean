/-
  ConnStales: its walk, the program's contracts a premise.
-/
import Derived.Test.YtljmegmklfohjaaZAwake
import Derived.Test.YtljmegmklfohjaaTK
import Derived.Deep.DeepCutAuto
namespace Go.Proofs.Ytljmegmklfohjaa
set_option maxRecDepth 100000
open Go.RowKit Go.Lib

set_option maxHeartbeats 8000000 in
theorem connStales_walkW (S : ConnC) (s : Int) (h1 : -9223372036854775808 ≤ s) (h2 : s ≤ 9223372036854775807) (a : Int) (h3 : -9223372036854775808 ≤ a) (h4 : a ≤ 9223372036854775807) (b : Int) (h5 : -9223372036854775808 ≤ b) (h6 : b ≤ 9223372036854775807) (l : List Int) (hl : l.length = 6) (hX : ∀ x, x ∈ l → In64 x) (w : World) :
    Calls Try.prog 8 #[.int .i64 s, .int .i64 a, .int .i64 b, zC l] w fun e w' => e = .returned (.bool true) ∧ Below w.heap.size w w' := by
  have HA := Lib.hid (fun W => awake_any S W)
  have HS := Lib.hid (fun W => S.stale s a b l W ⟨h1, h2⟩ ⟨h3, h4⟩ ⟨h5, h6⟩ hl hX)
  have HR := Lib.hid (fun W => rstale_any s a b l hl W)
  generalize staleB s a b l = r at HS HR
  obtain ⟨C0, hC0⟩ : ∃ C, (zL l).toArray = C := ⟨_, rfl⟩
  have hKE : zC l = .agg C0 := by rw [← hC0]; rfl
  rw [hKE] at HS HR ⊢
  obtain ⟨Y, hY⟩ : ∃ Y, w.alloc (.cells C0 30) = Y := ⟨_, rfl⟩
  have HK0 := Lib.hid (show Blk_10 Y 30 w.heap.size (zL l) by rw [← hY, ← hC0]; exact Blk_10.new w _ _)
  have HB0 := Lib.hid (show Below w.heap.size w Y by rw [← hY]; exact (Below.refl w.heap.size w).alloc (Nat.le_refl _) _)
  have HY := Lib.hid hY
  have HLO : Hid (∀ W, Below Y.heap.size Y W → W.rangeAt w.heap.size 0 (zL l)) := Lib.hid (fun W hW => Blk_10.range (Blk_10.below HK0.out (Blk_10.lt HK0.out) hW))
  have HSZ : Hid ((Try.prog.info? 30).map (·.size) = some (zL l).length) := Lib.hid (by unfold zL; rw [List.length_map, hl]; exact size6)
  have HC0 := Lib.hid hC0
  have hr : (r == r) = true := by simp
  clear h1 h2 h3 h4 h5 h6 hl hX S hC0 hKE hY
  go_enter Try.func8, Try.ntmps8
  go_upto_region 1 with (fail)
  rw [HY.out]
  refine wp_region_held_drew (S := fun W => Below Y.heap.size Y W) (by kernel_rfl) ((Below.refl Y.heap.size Y).drew) (fun hHeld => ?_)
  generalize Y.drew = X0 at hHeld ⊢
  refine wpAnyH_ready (rs := [0]) (by kernel_rfl) (by simp) (AllReadyH.cons (o := ⟨some 9, _, _, _, _, _⟩) rfl (fun K hK => ?_) AllReadyH.nil)
  rw [if_pos (by rfl)]
  go_simp
  refine (HA.out X0).mono ?_
  rintro e W1 ⟨rfl, hb⟩
  have DW1 := Lib.hid (hHeld.trans (hb.mono hHeld.size))
  clear hb
  clear hHeld
  refine hK.out _ _ (DW1.out) (fun hHeld => ?_)
  clear hK K 
  refine tk 1 10 ((.bool true)) rfl hHeld ?_
  simp only [Act.put, sA, sZ, sS]
  refine tk 2 11 ((.int .i64 s)) rfl hHeld ?_
  simp only [Act.put, sA, sZ, sS]
  refine tk 3 12 ((.int .i64 a)) rfl hHeld ?_
  simp only [Act.put, sA, sZ, sS]
  refine tk 4 13 ((.int .i64 b)) rfl hHeld ?_
  simp only [Act.put, sA, sZ, sS]
  refine tkY 5 14 (.agg C0) rfl (by rw [← HC0.out]; exact yieldsIf_load_mid (by rfl) 30 _ rfl w.heap.size 0 (by rfl) (zL l) _ HLO.out Try.underlying30 rfl HSZ.out) hHeld ?_
  simp only [Act.put, sA, sZ, sS]
  refine tk 7 16 ((.int .i64 s)) rfl hHeld ?_
  simp only [Act.put, sA, sZ, sS]
  refine tk 8 17 ((.int .i64 a)) rfl hHeld ?_
  simp only [Act.put, sA, sZ, sS]
  refine tk 9 18 ((.int .i64 b)) rfl hHeld ?_
  simp only [Act.put, sA, sZ, sS]
  refine tkY 10 19 (.agg C0) rfl (by rw [← HC0.out]; exact yieldsIf_load_mid (by rfl) 30 _ rfl w.heap.size 0 (by rfl) (zL l) _ HLO.out Try.underlying30 rfl HSZ.out) hHeld ?_
  simp only [Act.put, sA, sZ, sS]
  refine wpAnyH_ready (rs := [6]) (by kernel_rfl) (by simp) (AllReadyH.cons (o := ⟨some 15, _, _, _, _, _⟩) rfl (fun K hK => ?_) AllReadyH.nil)
  rw [if_pos (by rfl)]
  go_simp
  refine (HS.out W1).mono ?_
  rintro e W2 ⟨rfl, hb⟩
  have DW2 := Lib.hid (hHeld.trans (hb.mono hHeld.size))
  clear hb
  clear hHeld
  refine hK.out _ _ (DW2.out) (fun hHeld => ?_)
  clear hK K 
  refine wpAnyH_ready (rs := [11]) (by kernel_rfl) (by simp) (AllReadyH.cons (o := ⟨some 20, _, _, _, _, _⟩) rfl (fun K hK => ?_) AllReadyH.nil)
  rw [if_pos (by rfl)]
  go_simp
  refine (HR.out W2).mono ?_
  rintro e W3 ⟨rfl, hb⟩
  have DW3 := Lib.hid (hHeld.trans (hb.mono hHeld.size))
  clear hb
  clear hHeld
  refine hK.out _ _ (DW3.out) (fun hHeld => ?_)
  clear hK K 
  refine tk 12 21 ((.bool true)) rfl hHeld ?_
  simp only [Act.put, sA, sZ, sS]
  refine tk 13 22 ((.bool true)) rfl hHeld ?_
  simp only [Act.put, sA, sZ, sS]
  refine tk 14 8 ((.bool true)) rfl hHeld ?_
  simp only [Act.put, sA, sZ, sS]
  refine wpAnyH_done (by kernel_rfl) ?_ _
  clear hHeld
  go_wp2_with fail
  go_ret
  exact ⟨rfl, HB0.out.trans (DW3.out.mono HB0.out.size)⟩
end Go.Proofs.Ytljmegmklfohjaa
