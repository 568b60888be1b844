/-
  nat.mayBe.
-/
import Derived.Test.YtkmcopenflakkaaNPlaces
namespace Go.Proofs.Ytkmcopenflakkaa
set_option maxRecDepth 100000
open Go.RowKit Go.Lib

/-- May the frame that was read so be rewritten? -/
def mayP (k : Pk) (a : Ad) (m : Int) : Bool := decide (k.kind = 0) && (ofB k.t.d.six a && (decide (0 ≤ m) && decide (m ≤ 65535)))
theorem box_pa (w : World) (k : Pk) (a : Ad) : ∃ Y : World, (w.alloc (.cells (pkL k).toArray 37)).alloc (.cells (adL a).toArray 25) = Y ∧ Blk Y 37 w.heap.size (pkL k) ∧ Blk Y 25 (w.heap.size + 1) (adL a) ∧ Below w.heap.size w Y := box_pk w k (adL a) 25
set_option maxHeartbeats 4000000 in
theorem nmay_any {k : Pk} (ho : k.t.Ok) {a : Ad} (ha : a.b.length = 16) (m : Int) (w : World) : Calls Try.prog 22 #[pkC k, adC a, .int .i64 m] w fun e w' => e = .returned (.bool (mayP k a m)) ∧ Below w.heap.size w w' := by
  obtain ⟨Y, hY, hq, hr, hbel⟩ := box_pa w k a
  have c0 : Y.cell? ⟨w.heap.size, 0, none⟩ = some (.int .i64 k.kind) := (pk_cells hq ho).1
  have c18 : Y.cell? ⟨w.heap.size, 18, none⟩ = some (.bool k.t.d.six) := Blk_10.cell hq (pkL_d6 ho)
  obtain ⟨R, hR⟩ : ∃ R, mayP k a m = R := ⟨_, rfl⟩
  rw [hR]
  have HF : Hid (R = (decide (k.kind = 0) && (ofB k.t.d.six a && (decide (0 ≤ m) && decide (m ≤ 65535))))) := Lib.hid hR.symm
  have HO := Lib.hid (fun W => nfam_any ha k.t.d.six W)
  obtain ⟨b, hb⟩ : ∃ b, ofB k.t.d.six a = b := ⟨_, rfl⟩
  rw [hb] at HF HO
  obtain ⟨d6, hd6⟩ : ∃ b, k.t.d.six = b := ⟨_, rfl⟩
  rw [hd6] at c18 HO
  have HA := Lib.hid ha
  unfold pkC
  have E1 := Lib.hid (show adC a = .agg (adL a).toArray from rfl)
  rw [E1.out]
  rw [E1.out] at HO
  obtain ⟨C0, hC0⟩ : ∃ C, (pkL k).toArray = C := ⟨_, rfl⟩
  obtain ⟨C1, hC1⟩ : ∃ C, (adL a).toArray = C := ⟨_, rfl⟩
  rw [hC0, hC1] at hY
  rw [hC0, hC1]
  rw [hC1] at HO E1
  have HC1 := Lib.hid hC1
  have HY := Lib.hid hY
  have HQ := Lib.hid hr
  have HB := Lib.hid hbel
  rw [← HY.out] at c0 c18
  obtain ⟨kd, hkd⟩ : ∃ z, k.kind = z := ⟨_, rfl⟩
  rw [hkd] at HF c0
  clear hY hq hr hbel hR hb hd6 ha ho hC0 hC1 hkd
  go_enter Try.func22, Try.ntmps22
  by_cases h0 : kd = 0
  · have HK : Hid (kd = 0) := Lib.hid h0
    rw [h0] at c0
    clear h0
    go_wp2_with ((with_reducible show wpList _ _ _ (⟨some 11, _, _, _, _, _⟩ :: _) _ _); rw [HY.out]; refine wpList_loadM (op := ⟨some 11, _, _, _, _, _⟩) 25 _ rfl (by rfl) (w.heap.size + 1) 0 (by rfl) (adL a) (Blk_10.range HQ.out) _ Try.underlying25 rfl (sizeAdL HA.out) ?_; rw [HC1.out, ← HY.out])
    refine (HO.out _).mono ?_
    rintro e w3 ⟨rfl, hb3⟩
    rw [HY.out] at hb3
    have HB3 := Lib.hid (HB.out.trans (hb3.mono HB.out.size))
    clear hb3 c0 c18
    cases b with
    | false =>
      go_wp2_with fail
      go_ret
      exact ⟨by rw [HF.out, HK.out]; rfl, HB3.out⟩
    | true =>
      by_cases h1 : 0 ≤ m
      · have b1 : decide (0 ≤ m) = true := decide_eq_true h1
        by_cases h2 : m ≤ 65535
        · have b2 : decide (m ≤ 65535) = true := decide_eq_true h2
          have HV : Hid (R = true) := Lib.hid (by rw [HF.out, HK.out, b1, b2]; rfl)
          go_wp2_with fail
          go_ret
          exact ⟨by rw [HV.out]; rfl, HB3.out⟩
        · have b2 : decide (m ≤ 65535) = false := decide_eq_false h2
          have HV : Hid (R = false) := Lib.hid (by rw [HF.out, HK.out, b1, b2]; rfl)
          go_wp2_with fail
          go_ret
          exact ⟨by rw [HV.out]; rfl, HB3.out⟩
      · have b1 : decide (0 ≤ m) = false := decide_eq_false h1
        have HV : Hid (R = false) := Lib.hid (by rw [HF.out, HK.out, b1]; rfl)
        go_wp2_with fail
        go_ret
        exact ⟨by rw [HV.out]; rfl, HB3.out⟩
  · have b0 : (kd == 0) = false := beq_eq_false_iff_ne.2 h0
    have HV : Hid (R = false) := Lib.hid (by rw [HF.out, decide_eq_false h0]; rfl)
    go_wp2_with fail
    go_ret
    exact ⟨by rw [HV.out]; rfl, by rw [HY.out]; exact HB.out⟩
end Go.Proofs.Ytkmcopenflakkaa
