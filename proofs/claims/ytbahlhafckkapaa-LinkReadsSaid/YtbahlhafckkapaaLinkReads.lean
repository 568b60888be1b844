/-
  PROVED HERE: 'LinkReadsSaid': whatever bytes b are, the Go function LinkReads of package wayleavelaw07 returns true, and its arguments read behind the call as they read before. No condition.
-/
import Derived.Test.YtbahlhafckkapaaLOpen
namespace Go.Proofs.Ytbahlhafckkapaa
open Go.RowKit Go.Lib Go.ChangeShapes Go.WideShapes Go.ChangeAt

set_option maxRecDepth 100000 in
set_option maxHeartbeats 4000000 in
theorem linkReads_walk (A : Option Addr) (len cap : Nat) (xs : List UInt8) (hcap : len ≤ cap) (hcm : cap ≤ maxLen) (w : World) (hI : Rd w w.heap.size A len xs) :
    Calls Try.prog 3 #[.slice A len cap] w fun e w' => e = .returned (.bool true) ∧ Below w.heap.size w w' := by
  have hml : len ≤ 9223372036854775807 := by unfold maxLen at hcm; omega
  go_enter Try.func3, Try.ntmps3
  go_wp2_with fail
  refine (awake_any _).mono ?_
  rintro e w1 ⟨rfl, hb1⟩
  by_cases hle : 1000 < len
  · have hle' : (1000 : Int) < (len : Int) := by omega
    go_wp2_with fail
    refine (awake_any _).mono ?_
    rintro e w2 ⟨rfl, hb2⟩
    go_wp2_with fail
    go_ret
    exact ⟨rfl, hb1.trans (hb2.mono hb1.size)⟩
  · have hle' : ¬ (1000 : Int) < (len : Int) := by omega
    obtain ⟨L, k, hr⟩ : ∃ L k, rdOf xs = (L, k) := ⟨_, _, rfl⟩
    obtain ⟨h6, hts2, _⟩ := rdOf_six xs L k hr
    have HI1 := Lib.hid ((hI.below hb1).more hb1.size)
    have HR := Lib.hid hr
    clear hr
    go_wp2_with fail
    refine (read_as HR.out (k : Int) rfl (by omega) hcap hcm HI1.out).mono ?_
    rintro e w3 ⟨B3, m3, c3, rfl, hm3, _, ht3, _, hb3⟩
    have z3 := hb3.size
    have HI3 := Lib.hid ((HI1.out.below hb3).more z3)
    have HT3 := Lib.hid ht3
    have B3' := hb1.trans (hb3.mono hb1.size)
    have HM3 := Lib.hid hm3
    clear ht3 hb3 hm3
    go_wp2_with ((with_reducible show wpList _ _ _ _ _ _); refine wpList_storeNew rfl _ _ rfl (by rfl) L h6 (.slice B3 m3 c3) rfl (by rfl) ?_; intro w4 hM4 hb4 hz4)
    have HI4 := Lib.hid ((HI3.out.below hb4).more hb4.size)
    have HT4 := Lib.hid (HT3.out.below hb4)
    have HM4 := Lib.hid hM4
    have B4 := B3'.trans (hb4.mono B3'.size)
    clear hM4 hb4
    refine (rread_as cap HR.out (by omega) HI4.out).mono ?_
    rintro e w5 ⟨B5, m5, c5, rfl, hm5, _, ht5, hb5⟩
    have z5 := hb5.size
    have HT5 := Lib.hid ht5
    have HT5' := Lib.hid ((HT4.out.below (hb5.mono (by omega))).more (B' := w5.heap.size) (by omega))
    have HM5 := Lib.hid (HM4.out.below (by omega) hb5)
    have HMM := Lib.hid hm5
    have B5' := B4.trans (hb5.mono B4.size)
    clear ht5 hb5 hm5
    go_wp2_with (first
      | ((with_reducible show wpList _ _ _ _ _ _); refine wpList_storeNew rfl _ _ rfl (by rfl) L h6 (.slice B5 m5 c5) rfl (by rfl) ?_; intro w6 hM6 hb6 hz6; have HM6 := Lib.hid hM6; have HM6' := Lib.hid (HM5.out.below (by omega) hb6))
      | ((with_reducible show wpList _ _ _ _ _ _); refine wpList_loadLw _ rfl (by rfl) w3.heap.size (by rfl) L h6 (.slice B3 m3 c3) HM6'.out ?_)
      | ((with_reducible show wpList _ _ _ _ _ _); refine wpList_loadLw _ rfl (by rfl) w5.heap.size (by rfl) L h6 (.slice B5 m5 c5) HM6.out ?_))
    refine (same_lk L h6 c3 c5 (by have := HM3.out; omega) (by have := hb6.size; omega) (HT5'.out.below hb6) (HT5.out.below hb6)).mono ?_
    rintro e w7 ⟨rfl, hb7⟩
    have B7 := (B5'.trans (hb6.mono B5'.size)).trans (hb7.mono (by have := B5'.size; have := hb6.size; omega))
    go_wp2_with fail
    go_ret
    exact ⟨rfl, B7⟩

theorem linkReads_walks : WalksTrue 3 Try.f3 := by
  intro H enc W base args ds p hval hA
  rw [Try.params3] at hA hval
  obtain ⟨v0, vs0, d0, ds0, p0, q0, hargs, rfl, rfl, h0, r0⟩ := trodAll_cons hA
  obtain ⟨rfl, rfl, rfl⟩ := trodAll_nil r0
  obtain rfl : args = #[v0] := by cases args; simp_all
  obtain ⟨A0, len0, cap0, xs0, rfl, hc0, hm0, hI0⟩ := open_bytes (hval 0 22 v0 rfl rfl) h0
  exact linkReads_walk A0 len0 cap0 xs0 hc0 hm0 W hI0

theorem linkReads_said : Rows.LinkReadsSaid :=
  OpenClaim.holds_of_wide 3 Try.f3 rfl rfl rfl rfl rfl rfl rfl ⟨rfl, rfl, rfl, rfl, rfl⟩ rfl rfl rfl rfl rfl (by kernel_rfl) Try.func3 (by kernel_rfl)
    (of_decide_eq_true (by kernel_rfl)) (by unfold Func.isWrapper; first | (rw [if_pos (by decide +kernel)]; kernel_rfl) | (rw [if_neg (by decide +kernel)]; exact ⟨rfl, rfl⟩))
    (fun os started H enc _ => law_lift (s := Rows.linkReadsSpec) Try.func3 (by kernel_rfl) rfl rfl (by intro H ds hd; match ds, hd with | [_], _ => exact ⟨rfl, rfl, rfl⟩) (by kernel_rfl) linkReads_walks os started H enc
      (ChangeSpec.witness6 (enc := enc) (C := Try.checked) false ⟨#[], #[.slice none 0 0], []⟩ 8 (by kernel_rfl) (by kernel_rfl) (by kernel_rfl) (by kernel_rfl)))

end Go.Proofs.Ytbahlhafckkapaa
