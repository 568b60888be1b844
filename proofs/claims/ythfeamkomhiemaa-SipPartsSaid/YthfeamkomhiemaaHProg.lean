/-
  The program's Hash; the contracts of sip, as the laws ask for them.
-/
import Derived.Test.YthfeamkomhiemaaHP5
import Derived.Test.YthfeamkomhiemaaHP6
import Derived.Test.YthfeamkomhiemaaHAwake
namespace Go.Proofs.Ythfeamkomhiemaa
set_option maxRecDepth 100000
open Go.RowKit Go.Lib

set_option maxHeartbeats 8000000 in
theorem phash_any (key : List UInt8) (hk : key.length = 16) {t : Tu} (ho : t.Ok) (hf : t.Fit) (w : World) : Calls Try.prog 15 #[keyC key, tuC t] w fun e w' => e = .returned (.int .u64 (hashW key (tuB t) : Nat)) ∧ Below w.heap.size w w' := by
  have HKL := Lib.hid hk
  have HOK := Lib.hid ho
  obtain ⟨C0, hC0⟩ : ∃ C, (key.map v8).toArray = C := ⟨_, rfl⟩
  obtain ⟨C1, hC1⟩ : ∃ C, (tuL t).toArray = C := ⟨_, rfl⟩
  obtain ⟨Y, hY⟩ : ∃ Y, (w.alloc (.cells C0 22)).alloc (.cells C1 34) = Y := ⟨_, rfl⟩
  have HK4 := Lib.hid (show Blk Y 22 w.heap.size (key.map v8) by rw [← hY, ← hC0]; exact Blk_10.alloc (Blk_10.new w _ _) _)
  have HT4 := Lib.hid (show Blk Y 34 (w.heap.size + 1) (tuL t) by
    rw [← hY, ← hC1]
    have := Blk_10.new (w.alloc (.cells C0 22)) 34 (tuL t)
    rwa [World.size_alloc] at this)
  have HB0 := Lib.hid (show Below w.heap.size w Y by rw [← hY]; exact ((Below.refl w.heap.size w).alloc (Nat.le_refl _) _).alloc (by simp) _)
  have HS0 := Lib.hid (show w.heap.size ≤ Y.heap.size by rw [← hY, World.size_alloc, World.size_alloc]; exact Nat.le_succ_of_le (Nat.le_succ _))
  have HY := Lib.hid hY
  have HBY := Lib.hid (fun W => pbytes_any ho hf W)
  have HL := Lib.hid (tuB_len ho)
  have HOF := Lib.hid (fun (A : Option Addr) (W : World) (l : List (List UInt8)) (hl : l.flatten = tuB t) (hI : LsAt W W.heap.size A 1 l) => (by
    have h := pof_any key hk A 1 1 l (by omega) (by rw [hl, HL.out]; omega) W W.heap.size hI (Nat.le_refl _)
    rwa [hl] at h : Calls Try.prog 9 #[keyC key, .slice A 1 1] W fun e w' => e = .returned (.int .u64 (hashW key (tuB t) : Nat)) ∧ Below W.heap.size W w'))
  obtain ⟨H, hH⟩ : ∃ H, hashW key (tuB t) = H := ⟨_, rfl⟩
  rw [hH] at HOF ⊢
  obtain ⟨K0, hK0⟩ : ∃ K, keyC key = K := ⟨_, rfl⟩
  obtain ⟨T0, hT0⟩ : ∃ K, tuC t = K := ⟨_, rfl⟩
  have HKC := Lib.hid hK0
  have HTC := Lib.hid hT0
  have hk0 : keyC key = .agg C0 := by unfold keyC; rw [hC0]
  have ht0 : tuC t = .agg C1 := by unfold tuC; rw [hC1]
  rw [hk0, ht0]
  clear hH hC0 hC1 hY hK0 hT0 hk0 ht0 hk ho hf
  go_enter Try.func15, Try.ntmps15
  go_wp2_with fail
  rw [HY.out]
  refine wp_region_held_drew (S := fun W => Below Y.heap.size Y W) (by kernel_rfl) ((Below.refl Y.heap.size Y).drew) (fun hHeld => ?_)
  obtain ⟨X0, hX0⟩ : ∃ X, Y.drew = X := ⟨_, rfl⟩
  rw [hX0] at hHeld ⊢
  clear hX0
  refine tkY 0 5 (keyC key) rfl (yields_key (by rfl) _ rfl w.heap.size rfl key HKL.out (fun W hW => Blk_10.below HK4.out (Blk_10.lt HK4.out) hW)) hHeld ?_
  simp only [Act.put, sA, sZ, sS]
  refine tkY 1 6 (tuC t) rfl (yields_tu (by rfl) _ rfl (w.heap.size + 1) rfl t HOK.out (fun W hW => Blk_10.below HT4.out (Blk_10.lt HT4.out) hW)) hHeld ?_
  simp only [Act.put, sA, sZ, sS]
  refine wpAnyH_ready (rs := [2]) (by kernel_rfl) (by simp) (AllReadyH.cons (o := ⟨some 7, _, _, _, _, _⟩) rfl (fun K hK => ?_) AllReadyH.nil)
  go_simp
  refine (HBY.out X0).mono ?_
  rintro e W1 ⟨v, rfl, hov, hb1⟩
  obtain ⟨A1, m1, c1, rfl, hm1, hc1, hx1, hr1⟩ := hov.sl
  have HR1 := Lib.hid hr1
  have HC1 := Lib.hid hc1
  have HX1 := Lib.hid hx1
  have HB1 := Lib.hid (hHeld.trans (hb1.mono hHeld.size))
  clear hov hb1 hr1 hc1 hx1 hm1
  refine hK.out _ _ HB1.out (fun hHeld => ?_)
  clear hK K
  refine wpAnyH_ready (rs := [3]) (by kernel_rfl) (by simp) (AllReadyH.cons (o := ⟨some 8, _, _, _, _, _⟩) rfl (fun K hK => ?_) AllReadyH.nil)
  go_simp
  have HLS := Lib.hid ((CellsAt.one HR1.out HC1.out HX1.out).laid (Nat.le_refl _) 1 rfl)
  have HB2 := Lib.hid (HB1.out.alloc HB1.out.size (.cells #[.slice A1 m1 c1] 23))
  have HOF2 := Lib.hid (HOF.out (some ⟨W1.heap.size, 0, none⟩) (W1.alloc (.cells #[.slice A1 m1 c1] 23)) [tuB t] (flat_one _) (by rw [World.size_alloc]; exact HLS.out))
  refine hK.out _ _ HB2.out (fun hHeld => ?_)
  clear hK K
  refine wpAnyH_ready (rs := [4]) (by kernel_rfl) (by simp) (AllReadyH.cons (o := ⟨some 9, _, _, _, _, _⟩) rfl (fun K hK => ?_) AllReadyH.nil)
  go_simp
  refine HOF2.out.mono ?_
  rintro e W3 ⟨rfl, hb3⟩
  have HB3 := Lib.hid (HB2.out.trans (hb3.mono HB2.out.size))
  clear hb3
  refine hK.out _ _ HB3.out (fun hHeld => ?_)
  clear hK K
  refine tk 5 4 (.int .u64 (H : Int)) rfl hHeld ?_
  simp only [Act.put, sA, sZ, sS]
  refine wpAnyH_done (by kernel_rfl) ?_ _
  clear hHeld
  go_wp2_with fail
  go_ret
  exact ⟨rfl, HB0.out.trans (HB3.out.mono HS0.out)⟩
/-- The contracts of sip. -/
theorem sipC : SipC where
  of := fun key hk A n cap l hn hl w B hI hB => pof_any key hk A n cap l hn hl w B hI hB
  bytes := fun _ ho hf w => pbytes_any ho hf w
  hash := fun key hk _ ho hf w => phash_any key hk ho hf w
end Go.Proofs.Ythfeamkomhiemaa
