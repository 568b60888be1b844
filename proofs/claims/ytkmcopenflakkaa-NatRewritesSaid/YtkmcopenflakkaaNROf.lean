/-
  The document's Of; the statements' own tuple.
-/
import Derived.Test.YtkmcopenflakkaaNTo
import Derived.Test.YtkmcopenflakkaaKRef2
namespace Go.Proofs.Ytkmcopenflakkaa
set_option maxRecDepth 100000
open Go.RowKit Go.Lib

set_option maxHeartbeats 2000000 in
theorem rof_any {a : Ad} (ha : a.b.length = 16) (f : Bool) (w : World) : Calls Try.prog 15 #[.bool f, adC a] w fun e w' => e = .returned (.bool (ofB f a)) ∧ Below w.heap.size w w' := by
  obtain ⟨Y, hY, hq, hbel⟩ := box_ad w a
  have d0 : Y.cell? ⟨w.heap.size, 0, none⟩ = some (.bool a.six) := Blk_10.cell hq rfl
  have HS := Lib.hid (fun W => rshort_any ha W)
  have HA := Lib.hid ha
  obtain ⟨R, hR⟩ : ∃ R, ofB f a = R := ⟨_, rfl⟩
  rw [hR]
  unfold ofB at hR
  obtain ⟨sh, hsh⟩ : ∃ s, shortB a = s := ⟨_, rfl⟩
  obtain ⟨sx, hsx⟩ : ∃ s, a.six = s := ⟨_, rfl⟩
  rw [hsh] at HS hR
  rw [hsx] at d0 hR
  have HR := Lib.hid hR
  have E1 := Lib.hid (show adC a = .agg (adL a).toArray from rfl)
  rw [E1.out]
  rw [E1.out] at HS
  obtain ⟨C1, hC1⟩ : ∃ C, (adL a).toArray = C := ⟨_, rfl⟩
  rw [hC1] at hY HS
  rw [hC1]
  have HC1 := Lib.hid hC1
  have HY := Lib.hid hY
  have HQ := Lib.hid hq
  have HB := Lib.hid hbel
  rw [← HY.out] at d0
  clear hY hq hbel hR hsh hsx hC1 ha E1
  go_enter Try.func15, Try.ntmps15
  cases f with
  | true =>
    cases sx with
    | true =>
      go_wp2_with fail
      go_ret
      exact ⟨by rw [← HR.out]; rfl, HY.out ▸ HB.out⟩
    | false =>
      go_wp2_with fail
      go_ret
      exact ⟨by rw [← HR.out]; rfl, HY.out ▸ HB.out⟩
  | false =>
    cases sx with
    | true =>
      go_wp2_with fail
      go_ret
      exact ⟨by rw [← HR.out]; rfl, HY.out ▸ HB.out⟩
    | false =>
      go_wp2_with ((with_reducible show wpList _ _ _ (⟨some 12, _, _, _, _, _⟩ :: _) _ _); rw [HY.out]; refine wpList_loadM (op := ⟨some 12, _, _, _, _, _⟩) 25 _ rfl (by rfl) w.heap.size 0 (by rfl) (adL a) (Blk_10.range HQ.out) _ Try.underlying25 rfl (sizeAdL HA.out) ?_; rw [HC1.out, ← HY.out])
      refine (HS.out _).mono ?_
      rintro e w3 ⟨rfl, hb3⟩
      rw [HY.out] at hb3
      have HB3 := Lib.hid (HB.out.trans (hb3.mono HB.out.size))
      clear hb3
      go_wp2_with fail
      go_ret
      exact ⟨by rw [← HR.out]; rfl, HB3.out⟩

/-- The statements' own tuple. -/
def SM : Tu := ⟨⟨false, [1, 2, 3, 4, 0, 0, 0, 0, 0, 0, 0, 0, 0, 0, 0, 0]⟩, ⟨false, [5, 6, 7, 8, 0, 0, 0, 0, 0, 0, 0, 0, 0, 0, 0, 0]⟩, 6, 1000, 80⟩
theorem SM_ok : SM.Ok := ⟨rfl, rfl⟩
set_option maxHeartbeats 4000000 in
theorem some_any (w : World) : Calls Try.prog 20 #[] w fun e w' => e = .returned (tuC SM) ∧ Below w.heap.size w w' := by
  go_enter Try.func20, Try.ntmps20
  go_wp2_with (first
    | ((with_reducible show wpList _ _ _ (⟨some 1, _, _, _, _, _⟩ :: _) _ _); refine wpList_buildTo rfl 23 _ rfl (some 1) rfl (SM.s.b.map v8).toArray (by kernel_rfl) ?_)
    | ((with_reducible show wpList _ _ _ (⟨some 2, _, _, _, _, _⟩ :: _) _ _); refine wpList_buildTo rfl 25 _ rfl (some 2) rfl (adL SM.s).toArray (by kernel_rfl) ?_)
    | ((with_reducible show wpList _ _ _ (⟨some 3, _, _, _, _, _⟩ :: _) _ _); refine wpList_buildTo rfl 23 _ rfl (some 3) rfl (SM.d.b.map v8).toArray (by kernel_rfl) ?_)
    | ((with_reducible show wpList _ _ _ (⟨some 4, _, _, _, _, _⟩ :: _) _ _); refine wpList_buildTo rfl 25 _ rfl (some 4) rfl (adL SM.d).toArray (by kernel_rfl) ?_)
    | ((with_reducible show wpList _ _ _ (⟨some 5, _, _, _, _, _⟩ :: _) _ _); refine wpList_buildTo rfl 35 _ rfl (some 5) rfl (tuL SM).toArray (by kernel_rfl) ?_)
    | ((with_reducible show wpList _ _ _ (⟨none, .store 35 (.tmp 0) _, _, _, _, _⟩ :: _) _ _); refine wpList_storeNewG rfl 35 _ _ rfl (by rfl) (tuL SM) (by rfl) (by rw [tuL_len SM_ok]; rfl) (sizeTuL SM_ok) (tuL_one _) ?_; intro w1 hq hb hz))
  refine bodyPost_ret (v := tuC SM) (results_tu rfl _ _ w.heap.size (by rfl) _ SM_ok hq) rfl ?_
  exact ⟨rfl, hb⟩
end Go.Proofs.Ytkmcopenflakkaa
