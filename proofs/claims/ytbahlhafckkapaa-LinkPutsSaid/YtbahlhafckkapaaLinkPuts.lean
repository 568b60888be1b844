/-
  PROVED HERE: 'LinkPutsSaid': whatever header l is, the Go function LinkPuts of package wayleavelaw07 returns true, and its arguments read behind the call as they read before. No condition.
-/
import Derived.Test.YtbahlhafckkapaaLOpen
namespace Go.Proofs.Ytbahlhafckkapaa
open Go.RowKit Go.Lib Go.ChangeShapes Go.WideShapes Go.ChangeAt

set_option maxRecDepth 100000 in
set_option maxHeartbeats 4000000 in
theorem linkPuts_walk (L : Lk) (h6 : L.Six) (A : Option Addr) (n cap : Nat) (hcap : n ≤ cap) (hcm : cap ≤ maxLen) (w : World) (hT : TagsAt w w.heap.size A n L.ts) :
    Calls Try.prog 4 #[lkC L (.slice A n cap)] w fun e w' => e = .returned (.bool true) ∧ Below w.heap.size w w' := by
  have hml : n ≤ 9223372036854775807 := by unfold maxLen at hcm; omega
  have hb0 := Blk.new w 27 (lkL L (.slice A n cap))
  have hB0 := (Below.refl w.heap.size w).alloc (Nat.le_refl _) (.cells (lkL L (.slice A n cap)).toArray 27)
  have hz0 : (w.alloc (.cells (lkL L (.slice A n cap)).toArray 27)).heap.size = w.heap.size + 1 := by simp
  obtain ⟨w0, hw0⟩ : ∃ w0, w.alloc (.cells (lkL L (.slice A n cap)).toArray 27) = w0 := ⟨_, rfl⟩
  rw [hw0] at hb0 hB0 hz0
  have HW0 := Lib.hid hw0
  have HB0 := Lib.hid hB0
  have HM0 := Lib.hid hb0
  have HZ0 := Lib.hid hz0
  clear hb0 hB0 hw0 hz0
  go_enter Try.func4, Try.ntmps4
  unfold lkC
  go_wp2_with fail
  rw [HW0.out]
  refine (awake_any _).mono ?_
  rintro e w1 ⟨rfl, hb1⟩
  have z1 : w.heap.size < w1.heap.size := by have := hb1.size; rw [HZ0.out] at this; omega
  have M1 := HM0.out.below HM0.out.lt hb1
  have B1 := HB0.out.trans (hb1.mono HB0.out.size)
  have c12 := M1.cell (lkL_tags h6 _)
  by_cases hle : 100 < n
  · have hle' : (100 : Int) < (n : Int) := by omega
    clear M1 hb1
    go_wp2_with fail
    refine (awake_any _).mono ?_
    rintro e w2 ⟨rfl, hb2⟩
    go_wp2_with fail
    go_ret
    exact ⟨rfl, B1.trans (hb2.mono B1.size)⟩
  · have hle' : ¬ (100 : Int) < (n : Int) := by omega
    have HM1 := Lib.hid M1
    have HT1 := Lib.hid ((hT.below B1).more B1.size)
    clear M1 hb1
    cases hr : rightB L
    · have HR := Lib.hid hr
      clear hr
      go_wp2_with ((with_reducible show wpList _ _ _ _ _ _); refine wpList_loadL rfl _ rfl w.heap.size (by rfl) L h6 (.slice A n cap) HM1.out ?_)
      refine (put_no L h6 cap (by omega) HT1.out HR.out).mono ?_
      rintro e w2 ⟨rfl, hb2⟩
      have HM2 := Lib.hid (HM1.out.below z1 hb2)
      have HT2 := Lib.hid ((HT1.out.below hb2).more hb2.size)
      have B2 := B1.trans (hb2.mono B1.size)
      clear hb2
      go_wp2_with ((with_reducible show wpList _ _ _ _ _ _); refine wpList_loadL rfl _ rfl w.heap.size (by rfl) L h6 (.slice A n cap) HM2.out ?_)
      refine (right_any L h6 cap (by omega) HT2.out false HR.out).mono ?_
      rintro e w3 ⟨rfl, hb3⟩
      go_wp2_with fail
      go_ret
      exact ⟨rfl, B2.trans (hb3.mono B2.size)⟩
    · have HR := Lib.hid hr
      have hts := (right_parts hr).1
      have hn2 : n ≤ 2 := by rw [← hT.size]; exact hts
      have hlen := lkB_len h6
      rw [hT.size] at hlen
      have HLEN := Lib.hid hlen
      clear hr hts hlen
      go_wp2_with ((with_reducible show wpList _ _ _ _ _ _); refine wpList_loadL rfl _ rfl w.heap.size (by rfl) L h6 (.slice A n cap) HM1.out ?_)
      refine (put_yes L h6 cap HT1.out HR.out).mono ?_
      rintro e w2 ⟨v2, rfl, ho2, hb2⟩
      obtain ⟨A2, c2, rfl, _, _, hr2⟩ := ho2.form HLEN.out
      have HM2 := Lib.hid (HM1.out.below z1 hb2)
      have HT2 := Lib.hid ((HT1.out.below hb2).more hb2.size)
      have B2 := B1.trans (hb2.mono B1.size)
      have z2 := hb2.size
      have HR2 := Lib.hid hr2
      clear hb2 ho2 hr2
      go_wp2_with ((with_reducible show wpList _ _ _ _ _ _); refine wpList_loadL rfl _ rfl w.heap.size (by rfl) L h6 (.slice A n cap) HM2.out ?_)
      refine (right_any L h6 cap (by omega) HT2.out true HR.out).mono ?_
      rintro e w3 ⟨rfl, hb3⟩
      have HM3 := Lib.hid (HM2.out.below (by omega) hb3)
      have HT3 := Lib.hid ((HT2.out.below hb3).more hb3.size)
      have HR3 := Lib.hid (HR2.out.below hb3)
      have B3 := B2.trans (hb3.mono B2.size)
      have z3 := hb3.size
      clear hb3
      go_wp2_with ((with_reducible show wpList _ _ _ _ _ _); refine wpList_loadLw _ rfl (by rfl) w.heap.size (by rfl) L h6 (.slice A n cap) HM3.out ?_)
      refine (rput_any7 L h6 cap HT3.out HR.out).mono ?_
      rintro e w4 ⟨v4, rfl, ho4, hb4⟩
      obtain ⟨A4, c4, rfl, _, _, hr4⟩ := ho4.form HLEN.out
      have HR4 := Lib.hid (HR3.out.below (hb4.mono z3))
      have B4 := B3.trans (hb4.mono B3.size)
      clear hb4 ho4
      go_wp2_with fail
      refine (same_any w4 c2 c4 HR4.out hr4).mono ?_
      rintro e w5 ⟨rfl, rfl⟩
      go_wp2_with fail
      go_ret
      exact ⟨rfl, B4⟩

theorem linkPuts_walks : WalksTrue 4 Try.f4 := by
  intro H enc W base args ds p hval hA
  rw [Try.params4] at hA hval
  obtain ⟨v0, vs0, d0, ds0, p0, q0, hargs, rfl, rfl, h0, r0⟩ := trodAll_cons hA
  obtain ⟨rfl, rfl, rfl⟩ := trodAll_nil r0
  obtain rfl : args = #[v0] := by cases args; simp_all
  obtain ⟨L0, A0, len0, cap0, rfl, s0, hc0, hm0, hI0⟩ := open_link (hval 0 27 v0 rfl rfl) h0
  exact linkPuts_walk L0 s0 A0 len0 cap0 hc0 hm0 W hI0

theorem linkPuts_said : Rows.LinkPutsSaid :=
  OpenClaim.holds_of_wide 4 Try.f4 rfl rfl rfl rfl rfl rfl rfl ⟨rfl, rfl, rfl, rfl, rfl⟩ rfl rfl rfl rfl rfl (by kernel_rfl) Try.func4 (by kernel_rfl)
    (of_decide_eq_true (by kernel_rfl)) (by unfold Func.isWrapper; first | (rw [if_pos (by decide +kernel)]; kernel_rfl) | (rw [if_neg (by decide +kernel)]; exact ⟨rfl, rfl⟩))
    (fun os started H enc _ => law_lift (s := Rows.linkPutsSpec) Try.func4 (by kernel_rfl) rfl rfl (by intro H ds hd; match ds, hd with | [_], _ => exact ⟨rfl, rfl, rfl⟩) (by kernel_rfl) linkPuts_walks os started H enc
      (ChangeSpec.witness6 (enc := enc) (C := Try.checked) false ⟨#[], #[.agg #[.int .u8 0, .int .u8 0, .int .u8 0, .int .u8 0, .int .u8 0, .int .u8 0, .int .u8 0, .int .u8 0, .int .u8 0, .int .u8 0, .int .u8 0, .int .u8 0, .slice none 0 0, .int .i64 0, .int .i64 0]], []⟩ 8 (by kernel_rfl) (by kernel_rfl) (by kernel_rfl) (by kernel_rfl)))

end Go.Proofs.Ytbahlhafckkapaa
