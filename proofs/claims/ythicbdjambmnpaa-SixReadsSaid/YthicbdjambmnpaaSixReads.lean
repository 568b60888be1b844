/-
  PROVED HERE: 'SixReadsSaid': whatever bytes b are, the Go function SixReads of package wayleavelaw09 returns true, and its arguments read behind the call as they read before. No condition.
-/
import Derived.Test.YthicbdjambmnpaaSOpen
namespace Go.Proofs.Ythicbdjambmnpaa
open Go.RowKit Go.Lib Go.ChangeShapes Go.WideShapes Go.ChangeAt

set_option maxRecDepth 100000 in
set_option maxHeartbeats 4000000 in
theorem sixReads_walk (A : Option Addr) (len cap : Nat) (xs : List UInt8) (hcap : len ≤ cap) (hcm : cap ≤ maxLen) (w : World) (hI : Rd w w.heap.size A len xs) :
    Calls Try.prog 3 #[.slice A len cap] w fun e w' => e = .returned (.bool true) ∧ Below w.heap.size w w' := by
  have hml : len ≤ 9223372036854775807 := by unfold maxLen at hcm; omega
  go_enter Try.func3, Try.ntmps3
  go_wp2_with fail
  refine (awake_any _).mono ?_
  rintro e w1 ⟨rfl, hb1⟩
  by_cases hle : 3000 < len
  · have hle' : (3000 : Int) < (len : Int) := by omega
    go_wp2_with fail
    refine (awake_any _).mono ?_
    rintro e w2 ⟨rfl, hb2⟩
    go_wp2_with fail
    go_ret
    exact ⟨rfl, hb1.trans (hb2.mono hb1.size)⟩
  · have hle' : ¬ (3000 : Int) < (len : Int) := by omega
    have HOK := Lib.hid (rdF_ok xs)
    obtain ⟨f, hf⟩ : ∃ f, rdF xs = f := ⟨_, rfl⟩
    obtain ⟨k, hk⟩ : ∃ k, rdN xs = k := ⟨_, rfl⟩
    rw [hf] at HOK
    have HI1 := Lib.hid ((hI.below hb1).more hb1.size)
    have HF := Lib.hid hf
    have HK := Lib.hid hk
    have hkk : ((k : Int) == (k : Int)) = true := by simp
    clear hf hk
    go_wp2_with fail
    refine (read_as HF.out HK.out (by omega) hcap hcm HI1.out).mono ?_
    rintro e w3 ⟨rfl, hb3⟩
    have HI3 := Lib.hid ((HI1.out.below hb3).more hb3.size)
    have B3 := Lib.hid (hb1.trans (hb3.mono hb1.size))
    clear hb3
    go_wp2_with ((with_reducible show wpList _ _ _ _ _ _); refine wpList_storeNew rfl _ _ rfl (by rfl) f HOK.out (by rfl) ?_; intro w4 hM4 hb4 hz4)
    have HI4 := Lib.hid ((HI3.out.below hb4).more hb4.size)
    have HM4 := Lib.hid hM4
    have B4 := Lib.hid (B3.out.trans (hb4.mono B3.out.size))
    clear hM4 hb4
    refine (rread_as HF.out HK.out (by omega) HI4.out).mono ?_
    rintro e w5 ⟨rfl, hb5⟩
    have HM5 := Lib.hid (HM4.out.below HM4.out.lt hb5)
    have B5 := Lib.hid (B4.out.trans (hb5.mono B4.out.size))
    clear hb5
    go_wp2_with (first
      | ((with_reducible show wpList _ _ _ _ _ _); refine wpList_storeNew rfl _ _ rfl (by rfl) f HOK.out (by rfl) ?_; intro w6 hM6 hb6 hz6; have HM6 := Lib.hid hM6; have HM6' := Lib.hid (HM5.out.below HM5.out.lt hb6); have B6 := Lib.hid (B5.out.trans (hb6.mono B5.out.size)); clear hM6 hb6)
      | ((with_reducible show wpList _ _ _ _ _ _); refine wpList_loadFw (.tmp 3) rfl (by rfl) w3.heap.size (by rfl) f HOK.out HM6'.out ?_)
      | ((with_reducible show wpList _ _ _ _ _ _); refine wpList_loadFw (.tmp 5) rfl (by rfl) w5.heap.size (by rfl) f HOK.out HM6.out ?_)
      | ((with_reducible show wpList _ _ _ _ _ _); refine wpList_eqlw 28 _ _ _ rfl (by rfl) (frL f).toArray (frL f).toArray (by rfl) (by rfl) guard_fr true (fun W => run_eql_fr W HOK.out) ?_))
    go_ret
    exact ⟨rfl, B6.out⟩

theorem sixReads_walks : WalksTrue 3 Try.f3 := by
  intro H enc W base args ds p hval hA
  rw [Try.params3] at hA hval
  obtain ⟨v0, vs0, d0, ds0, p0, q0, hargs, rfl, rfl, h0, r0⟩ := trodAll_cons hA
  obtain ⟨rfl, rfl, rfl⟩ := trodAll_nil r0
  obtain rfl : args = #[v0] := by cases args; simp_all
  obtain ⟨A0, len0, cap0, xs0, rfl, hc0, hm0, hI0⟩ := open_bytes (hval 0 22 v0 rfl rfl) h0
  exact sixReads_walk A0 len0 cap0 xs0 hc0 hm0 W hI0

theorem sixReads_said : Rows.SixReadsSaid :=
  OpenClaim.holds_of_wide 3 Try.f3 rfl rfl rfl rfl rfl rfl rfl ⟨rfl, rfl, rfl, rfl, rfl⟩ rfl rfl rfl rfl rfl (by kernel_rfl) Try.func3 (by kernel_rfl)
    (of_decide_eq_true (by kernel_rfl)) (by unfold Func.isWrapper; first | (rw [if_pos (by decide +kernel)]; kernel_rfl) | (rw [if_neg (by decide +kernel)]; exact ⟨rfl, rfl⟩))
    (fun os started H enc _ => law_lift (s := Rows.sixReadsSpec) Try.func3 (by kernel_rfl) rfl rfl (by intro H ds hd; match ds, hd with | [_], _ => exact ⟨rfl, rfl, rfl⟩) (by kernel_rfl) sixReads_walks os started H enc
      (ChangeSpec.witness6 (enc := enc) (C := Try.checked) false ⟨#[], #[.slice none 0 0], []⟩ 8 (by kernel_rfl) (by kernel_rfl) (by kernel_rfl) (by kernel_rfl)))

end Go.Proofs.Ythicbdjambmnpaa
