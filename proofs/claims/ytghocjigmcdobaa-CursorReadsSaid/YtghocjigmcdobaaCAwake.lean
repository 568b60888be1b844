/-
  The statements' own 'awake' (layer 4) answers true.
-/
import Derived.Test.YtghocjigmcdobaaCScan
namespace Go.Proofs.Ytghocjigmcdobaa
open Go.RowKit Go.Lib

def awPlan : List It := [⟨1, 2, true⟩, ⟨4, 3, false⟩]
theorem awScan1 : scanGo ⟨[1, 2, 2, 97, 98], 0, 0, 0⟩ awPlan [] = .ok [⟨258, []⟩, ⟨0, [97, 98]⟩] := by kernel_rfl
theorem awScan2 : scanGo ⟨[1, 2, 4, 97, 98], 0, 0, 0⟩ awPlan [] = .bad 2 4 := by kernel_rfl
theorem awLay : ∃ ys, layS awPlan [⟨258, []⟩, ⟨0, [97, 98]⟩] = some ys ∧ ys.length = 5 := by
  refine ⟨bytesPc ⟨1, 2, true⟩ ⟨258, []⟩ ++ (bytesPc ⟨4, 3, false⟩ ⟨0, [97, 98]⟩ ++ []), ?_, ?_⟩
  · unfold awPlan
    rw [layS_ok (by decide +kernel), layS_ok (by decide +kernel), layS_nil]
    rfl
  · have e : bytesPc ⟨4, 3, false⟩ ⟨0, [97, 98]⟩ = uvarint 2 ++ [97, 98] := rfl
    rw [e, uvarint_small (by omega)]
    rfl
theorem u300 : uvarint 300 = [172, 2] := by rw [uvarint_big (by omega), uvarint_small (by omega)]; rfl
theorem awNum1 : RS.num ⟨[7], 0, 0, 0⟩ 1 = ⟨[7], 1, 0, 0⟩ ∧ RS.numN ⟨[7], 0, 0, 0⟩ 1 true = 7 := ⟨by kernel_rfl, by kernel_rfl⟩
theorem awNum2 : RS.num ⟨[7], 1, 0, 0⟩ 1 = ⟨[7], 1, 1, 2⟩ ∧ RS.numN ⟨[7], 1, 0, 0⟩ 1 true = 0 := ⟨by kernel_rfl, by kernel_rfl⟩
theorem awPut1 : WS.put ⟨2, [], 0⟩ (uvarint 300) = ⟨2, [172, 2], 0⟩ := by rw [u300]; rfl
theorem awPut2 : WS.put ⟨2, [172, 2], 0⟩ (uvarint 1) = ⟨2, [172, 2], 4⟩ := by rw [uvarint_small (by omega)]; rfl

theorem awPlanAt {w : World} {B : Nat} (h : Bk w B 68 #[.int .i64 1, .int .i64 2, .bool true, .int .i64 4, .int .i64 3, .bool false]) : PlanAt w (B + 1) (some ⟨B, 0, none⟩) 2 awPlan := by
  refine ⟨rfl, fun _ => ⟨B, 0, rfl, by omega, fun j x hx => ?_⟩⟩
  match j, hx with
  | 0, hx => cases hx; exact ⟨h.c 0 _ rfl, h.c 1 _ rfl, h.c 2 _ rfl⟩
  | 1, hx => cases hx; exact ⟨h.c 3 _ rfl, h.c 4 _ rfl, h.c 5 _ rfl⟩

theorem awItems : ∀ x ∈ awPlan, -9223372036854775808 ≤ x.n ∧ x.n ≤ 9223372036854775807 := by
  intro x hx
  simp [awPlan] at hx
  rcases hx with rfl | rfl <;> simp
theorem awS1 {W : World} {p g : Nat} (hp : Bk W p 68 #[.int .i64 1, .int .i64 2, .bool true, .int .i64 4, .int .i64 3, .bool false]) (hg : Row8 W g [1, 2, 2, 97, 98]) :
    Calls Try.prog 11 #[.slice (some ⟨g, 0, none⟩) 5 5, .slice (some ⟨p, 0, none⟩) 2 2] W fun e W' => ∃ b o c A' m' c', e = .returned (.tuple #[.slice (some ⟨b, o, none⟩) 2 c, .agg #[.int .i64 0, .int .i64 0]]) ∧ b < W'.heap.size ∧
      W'.cell? ⟨b, o, none⟩ = some (.int .u64 258) ∧ W'.cell? ⟨b, o + 3, none⟩ = some (.slice A' m' c') ∧ Rd W' W'.heap.size A' m' [97, 98] ∧ PcsAt W' W'.heap.size (some ⟨b, o, none⟩) 2 [⟨258, []⟩, ⟨0, [97, 98]⟩] ∧ Below W.heap.size W W' := by
  have h := scan_any (some ⟨g, 0, none⟩) 5 5 [1, 2, 2, 97, 98] (some ⟨p, 0, none⟩) 2 2 awPlan (by omega) (by omega) awItems W (hg.rd hg.lt) ((awPlanAt hp).more hp.lt)
  rw [awScan1] at h
  refine h.mono fun e W' ⟨hb, v, he, ho⟩ => ?_
  obtain ⟨A, m, c, rfl, hm, _, _, hpc⟩ := ho.sl
  change m = 2 at hm
  subst hm
  obtain ⟨b, o, rfl, hlt, hc⟩ := hpc.2 (by omega)
  obtain ⟨c1, _⟩ := hc 0 _ rfl
  obtain ⟨_, A', m', c', c2, hr⟩ := hc 1 _ rfl
  exact ⟨b, o, c, A', m', c', he, hlt, by simpa using c1, by simpa using c2, hr, hpc, hb⟩
theorem awS2 {W : World} {p g : Nat} (hp : Bk W p 68 #[.int .i64 1, .int .i64 2, .bool true, .int .i64 4, .int .i64 3, .bool false]) (hg : Row8 W g [1, 2, 4, 97, 98]) :
    Calls Try.prog 11 #[.slice (some ⟨g, 0, none⟩) 5 5, .slice (some ⟨p, 0, none⟩) 2 2] W fun e W' => e = .returned (.tuple #[.slice none 0 0, .agg #[.int .i64 2, .int .i64 4]]) ∧ Below W.heap.size W W' := by
  have h := scan_any (some ⟨g, 0, none⟩) 5 5 [1, 2, 4, 97, 98] (some ⟨p, 0, none⟩) 2 2 awPlan (by omega) (by omega) awItems W (hg.rd hg.lt) ((awPlanAt hp).more hp.lt)
  rw [awScan2] at h
  exact h.mono fun e W' ⟨hb, he⟩ => ⟨he, hb⟩
theorem awL {W : World} {p b o c : Nat} (hp : Bk W p 68 #[.int .i64 1, .int .i64 2, .bool true, .int .i64 4, .int .i64 3, .bool false]) (hl : PcsAt W W.heap.size (some ⟨b, o, none⟩) 2 [⟨258, []⟩, ⟨0, [97, 98]⟩]) :
    Calls Try.prog 15 #[.slice (some ⟨p, 0, none⟩) 2 2, .slice (some ⟨b, o, none⟩) 2 c] W fun e W' => ∃ A k, e = .returned (.tuple #[.slice A 5 k, .int .i64 0]) ∧ Below W.heap.size W W' := by
  have h := lays_any (some ⟨p, 0, none⟩) 2 2 (some ⟨b, o, none⟩) 2 c awPlan [⟨258, []⟩, ⟨0, [97, 98]⟩] (by omega) (by omega) (by intro x hx; simp at hx; rcases hx with rfl | rfl <;> simp) W ((awPlanAt hp).more hp.lt) hl
  obtain ⟨ys, h1, h2⟩ := awLay
  rw [h1] at h
  refine h.mono fun e W' ⟨hb, v, he, ho⟩ => ?_
  obtain ⟨A, m, k, rfl, hm, _⟩ := ho.sl
  rw [h2] at hm
  subst hm
  exact ⟨A, k, he, hb⟩
theorem awN {W : World} : Calls Try.prog 18 #[.slice (some ⟨W.heap.size, 0, none⟩) 1 1] (W.alloc (.cells #[.int .u8 7] 5)) fun e W' => ∃ P A' cap', e = .returned (.pointer (some ⟨P, 0, none⟩)) ∧ Rdr W' P A' cap' ⟨[7], 0, 0, 0⟩ ∧ W.heap.size ≤ P ∧ Below W.heap.size W W' :=
  (new_any (some ⟨W.heap.size, 0, none⟩) 1 1 [7] (by omega) _ ((Rd.one W 7).more (by simp))).mono fun e W' ⟨P, A', cap', he, hr, hP, hb⟩ => ⟨P, A', cap', he, hr, by simp at hP; omega, ((Below.refl _ _).alloc (Nat.le_refl _) _).trans (hb.mono (by simp))⟩

theorem Wtr.other {w w' : World} {P R : Nat} {v : Value} {s : WS} (h : Wtr w P v s) (hg : w.grownBy w' (some R)) (hR : R < P) : Wtr w' P v s :=
  ⟨(hg.block P h.lt (fun e => by cases e; omega)).trans h.blk, h.own.low hg (by omega), h.le, h.big⟩

set_option maxRecDepth 100000 in
set_option maxHeartbeats 4000000 in
theorem awake_any (w : World) : Calls Try.prog 10 #[] w fun e W' => e = .returned (.bool true) ∧ Below w.heap.size w W' := by
  have Q1 := (Bk.new w 68 #[.int .i64 1, .int .i64 2, .bool true, .int .i64 4, .int .i64 3, .bool false]).alloc (.cells #[.int .u8 1, .int .u8 2, .int .u8 2, .int .u8 97, .int .u8 98] 5)
  have r1 : Row8 ((w.alloc (.cells #[.int .i64 1, .int .i64 2, .bool true, .int .i64 4, .int .i64 3, .bool false] 68)).alloc (.cells #[.int .u8 1, .int .u8 2, .int .u8 2, .int .u8 97, .int .u8 98] 5)) (w.heap.size + 1) [1, 2, 2, 97, 98] := by
    have h : Row8 ((w.alloc (.cells #[.int .i64 1, .int .i64 2, .bool true, .int .i64 4, .int .i64 3, .bool false] 68)).alloc (.cells #[.int .u8 1, .int .u8 2, .int .u8 2, .int .u8 97, .int .u8 98] 5)) (w.alloc (.cells #[.int .i64 1, .int .i64 2, .bool true, .int .i64 4, .int .i64 3, .bool false] 68)).heap.size [1, 2, 2, 97, 98] := heap_alloc_new _ _
    rwa [World.size_alloc] at h
  have hB1 : Below w.heap.size w ((w.alloc (.cells #[.int .i64 1, .int .i64 2, .bool true, .int .i64 4, .int .i64 3, .bool false] 68)).alloc (.cells #[.int .u8 1, .int .u8 2, .int .u8 2, .int .u8 97, .int .u8 98] 5)) := ((Below.refl _ _).alloc (Nat.le_refl _) _).alloc (by simp) _
  go_enter Try.func10, Try.ntmps10
  go_wp2_with fail
  refine (awS1 Q1 r1).mono ?_
  rintro e w1 ⟨b, o, c, A1, m1, c1, rfl, hb, l0, l3, hr, hpc, hb1⟩
  have z1 : w.heap.size + 1 + 1 ≤ w1.heap.size := by have := hb1.size; simpa using this
  have Q2 := ((Q1.below hb1).alloc (.cells #[.int .i64 0, .int .i64 0] 28)).alloc (.cells #[.int .u8 1, .int .u8 2, .int .u8 4, .int .u8 97, .int .u8 98] 5)
  have T1 := (Bk.new w1 28 #[.int .i64 0, .int .i64 0]).alloc (.cells #[.int .u8 1, .int .u8 2, .int .u8 4, .int .u8 97, .int .u8 98] 5)
  have r2 : Row8 ((w1.alloc (.cells #[.int .i64 0, .int .i64 0] 28)).alloc (.cells #[.int .u8 1, .int .u8 2, .int .u8 4, .int .u8 97, .int .u8 98] 5)) (w1.heap.size + 1) [1, 2, 4, 97, 98] := by
    have h : Row8 ((w1.alloc (.cells #[.int .i64 0, .int .i64 0] 28)).alloc (.cells #[.int .u8 1, .int .u8 2, .int .u8 4, .int .u8 97, .int .u8 98] 5)) (w1.alloc (.cells #[.int .i64 0, .int .i64 0] 28)).heap.size [1, 2, 4, 97, 98] := heap_alloc_new _ _
    rwa [World.size_alloc] at h
  have hB2 : Below w1.heap.size w1 ((w1.alloc (.cells #[.int .i64 0, .int .i64 0] 28)).alloc (.cells #[.int .u8 1, .int .u8 2, .int .u8 4, .int .u8 97, .int .u8 98] 5)) := ((Below.refl _ _).alloc (Nat.le_refl _) _).alloc (by simp) _
  go_wp2_with fail
  refine (awS2 Q2 r2).mono ?_
  rintro e w2 ⟨rfl, hb2⟩
  have hB12 : Below w1.heap.size w1 w2 := hB2.trans (hb2.mono (by simp <;> omega))
  have Q3 := (Q2.below hb2).alloc (.cells #[.int .i64 2, .int .i64 4] 28)
  have T3 := (T1.below hb2).alloc (.cells #[.int .i64 2, .int .i64 4] 28)
  have U3 := Bk.new w2 28 #[.int .i64 2, .int .i64 4]
  have z2 : w1.heap.size + 1 + 1 ≤ w2.heap.size := by have := hb2.size; simpa using this
  have hB13 := hB12.alloc (by omega) (.cells #[.int .i64 2, .int .i64 4] 28)
  go_wp2_with fail
  refine (awL Q3 ((hpc.below hB13).more (by simp <;> omega))).mono ?_
  rintro e w3 ⟨A3, k3, rfl, hb3⟩
  have hB14 : Below w1.heap.size w1 w3 := hB13.trans (hb3.mono (by simp <;> omega))
  have T4 := T3.below hb3
  have U4 := U3.below hb3
  have z3 : w2.heap.size + 1 ≤ w3.heap.size := by have := hb3.size; simpa using this
  go_wp2_with fail
  refine awN.mono ?_
  rintro e w4 ⟨P, A4, cap4, rfl, hr4, hP4, hb4⟩
  have z4 := hb4.size
  go_wp2_with fail
  refine (neww_any 2 (by omega) _).mono ?_
  rintro e w5 ⟨rfl, hw5, hb5, hz5⟩
  have hr5 := hr4.below hb5 hr4.lt
  have Hz5 := Lib.hid hz5
  clear hz5
  go_wp2_with fail
  have n1 := num_any hr5 1 true
  rw [awNum1.1, awNum1.2] at n1
  refine n1.mono ?_
  rintro e w6 ⟨rfl, hr6, g6⟩
  have hw6 := hw5.other g6 (by have := hr4.lt; omega)
  have n2 := num_any hr6 1 true
  rw [awNum2.1, awNum2.2] at n2
  clear n1
  go_wp2_with fail
  refine n2.mono ?_
  rintro e w7 ⟨rfl, hr7, g7⟩
  have hw7 := hw6.other g7 (by have := hr4.lt; omega)
  have z6 := g6.size
  have z7 := g7.size
  have z5 : w4.heap.size + 1 ≤ w5.heap.size := by have := Hz5.out; omega
  have B7 : Below w3.heap.size w3 w7 := ((hb4.trans (hb5.mono z4)).trans (gb_to_below g6 hP4 (by omega))).trans (gb_to_below g7 hP4 (by omega))
  clear n2
  have v1 := wvar_any hw7 300 (by omega) (by simp)
  rw [show (⟨(2 : Int).toNat, [], 0⟩ : WS) = ⟨2, [], 0⟩ from rfl, awPut1] at v1
  go_wp2_with fail
  refine v1.mono ?_
  rintro e w8 ⟨v8, rfl, hw8, k8⟩
  have z8 := k8.size
  have b8 := k8.below_P (B := w4.heap.size) (Nat.le_refl _) (by omega) (fun g hg => by have := hw7.own.lt g hg; omega)
  have B8 := B7.trans (b8.mono z4)
  have hr8 := hr7.below b8 hr4.lt
  clear v1
  go_wp2_with fail
  refine (out_ok hw8 rfl (by simp)).mono ?_
  rintro e w9 ⟨u9, rfl, ho9, hb9⟩
  obtain ⟨A9, m9, c9, rfl, hm9, _, _, _⟩ := ho9.sl
  change m9 = 2 at hm9
  subst hm9
  have z9 := hb9.size
  have B9 := B8.trans (hb9.mono (by omega))
  have hw9 := hw8.below hb9
  have hr9 := hr8.below hb9 hr8.lt
  have v2 := wvar_any hw9 1 (by omega) (by simp)
  rw [awPut2] at v2
  go_wp2_with fail
  refine v2.mono ?_
  rintro e w10 ⟨v10, rfl, hw10, k10⟩
  have z10 := k10.size
  have b10 := k10.below_P (B := w4.heap.size) (Nat.le_refl _) (by omega) (fun g hg => by have := hw9.own.lt g hg; omega)
  have B10 := B9.trans (b10.mono z4)
  have hr10 := hr9.below b10 hr4.lt
  clear v2
  go_wp2_with fail
  refine (out_bad hw10 (show (4 : Nat) ≠ 0 by decide)).mono ?_
  rintro e w11 ⟨rfl, hb11⟩
  have z11 := hb11.size
  have B11 := B10.trans (hb11.mono (by omega))
  have hr11 := hr10.below hb11 hr10.lt
  have B11' := hB14.trans (B11.mono (by omega))
  have T11 := T4.below B11
  have U11 := U4.below B11
  have l0' := (B11'.cell (p := ⟨b, o, none⟩) hb).trans l0
  have l3' := (B11'.cell (p := ⟨b, o + 3, none⟩) hb).trans l3
  have hstr := run_str8 (hr.below B11') c1
  have t0 := T11.c 0 _ rfl
  have t1 := T11.c 1 _ rfl
  have u0 := U11.c 0 _ rfl
  have u1 := U11.c 1 _ rfl
  have hflt : Calls Try.prog 27 #[.pointer (some ⟨P, 0, none⟩)] w11 (fun e w' => e = .returned (.agg #[.int .i64 1, .int .i64 2]) ∧ Below w11.heap.size w11 w') := fault_any hr11
  go_wp2_with fail
  refine hflt.mono ?_
  rintro e w12 ⟨rfl, hb12⟩
  go_wp2_with fail
  go_ret
  exact ⟨rfl, ((hB1.trans (hb1.mono (by simp <;> omega))).trans (B11'.mono (by omega))).trans (hb12.mono (by omega))⟩
end Go.Proofs.Ytghocjigmcdobaa
