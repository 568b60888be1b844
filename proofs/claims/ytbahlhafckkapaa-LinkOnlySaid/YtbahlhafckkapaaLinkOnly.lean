/-
  PROVED HERE: 'LinkOnlySaid': whatever bytes b are, the Go function LinkOnly of package wayleavelaw07 returns true, and its arguments read behind the call as they read before. No condition.
-/
import Derived.Test.YtbahlhafckkapaaLOpen
namespace Go.Proofs.Ytbahlhafckkapaa
open Go.RowKit Go.Lib Go.ChangeShapes Go.WideShapes Go.ChangeAt

set_option maxRecDepth 100000 in
set_option maxHeartbeats 4000000 in
theorem linkOnly_walk (A : Option Addr) (len cap : Nat) (xs : List UInt8) (hcap : len ≤ cap) (hcm : cap ≤ maxLen) (w : World) (hI : Rd w w.heap.size A len xs) :
    Calls Try.prog 6 #[.slice A len cap] w fun e w' => e = .returned (.bool true) ∧ Below w.heap.size w w' := by
  have hml : len ≤ 9223372036854775807 := by unfold maxLen at hcm; omega
  have HXL := Lib.hid hI.len
  go_enter Try.func6, Try.ntmps6
  go_wp2_with fail
  refine (awake_any _).mono ?_
  rintro e w1 ⟨rfl, hb1⟩
  by_cases hle : 1000 < len
  · have hle' : (1000 : Int) < (len : Int) := by omega
    go_wp2_with fail
    refine (awake_any _).mono ?_
    rintro e w2 ⟨rfl, hb2⟩
    go_wp2_with fail
    go_ret
    exact ⟨rfl, hb1.trans (hb2.mono hb1.size)⟩
  · have hle' : ¬ (1000 : Int) < (len : Int) := by omega
    obtain ⟨L, k, hr⟩ : ∃ L k, rdOf xs = (L, k) := ⟨_, _, rfl⟩
    have HI1 := Lib.hid ((hI.below hb1).more hb1.size)
    by_cases hk : k = 0
    · subst hk
      obtain ⟨h6, hrt, m, ham, hml, hm14, hm22, hlk⟩ := rdOf_only hr
      rw [HXL.out] at hml
      have hts2 := (right_parts hrt).1
      have HR := Lib.hid hr
      have HRT := Lib.hid hrt
      have HLK := Lib.hid hlk
      have HAM := Lib.hid ham
      clear hr hrt hlk ham
      go_wp2_with fail
      refine (read_as HR.out 0 rfl (by omega) hcap hcm HI1.out).mono ?_
      rintro e w3 ⟨B3, m3, c3, rfl, hm3, _, ht3, _, hb3⟩
      have z3 := hb3.size
      have HI3 := Lib.hid ((HI1.out.below hb3).more z3)
      have HT3 := Lib.hid ht3
      have B3' := hb1.trans (hb3.mono hb1.size)
      have HM3 := Lib.hid hm3
      clear ht3 hb3 hm3
      go_wp2_with (first
        | ((with_reducible show wpList _ _ _ _ _ _); refine wpList_storeNew rfl _ _ rfl (by rfl) L h6 (.slice B3 m3 c3) rfl (by rfl) ?_; intro w4 hM4 hb4 hz4; have HM4 := Lib.hid hM4)
        | ((with_reducible show wpList _ _ _ _ _ _); refine wpList_loadL rfl _ rfl w3.heap.size (by rfl) L h6 (.slice B3 m3 c3) HM4.out ?_))
      have HI4 := Lib.hid ((HI3.out.below hb4).more hb4.size)
      have HT4 := Lib.hid ((HT3.out.below hb4).more hb4.size)
      have B4 := B3'.trans (hb4.mono B3'.size)
      clear hb4 hM4
      refine (put_yes L h6 c3 HT4.out HRT.out).mono ?_
      rintro e w5 ⟨v5, rfl, ho5, hb5⟩
      have hlen : (lkB L).length = m := by rw [HLK.out, List.length_take, HXL.out]; omega
      obtain ⟨A5, c5, rfl, _, _, hr5⟩ := ho5.form hlen
      have M5 := HM4.out.below (by omega) hb5
      have c14 := M5.cell (lkL_at h6 _)
      rw [HAM.out] at c14
      have hI5 := ((HI4.out.below hb5).take hml)
      have B5' := B4.trans (hb5.mono B4.size)
      have hs := run_upto8 A len cap m (m : Int) rfl (by omega)
      have hmi : (m : Int) ≤ (len : Int) := by omega
      rw [HLK.out] at hr5
      have HI5 := Lib.hid hI5
      have HR5 := Lib.hid hr5
      clear ho5 hb5 hlen M5 hI5 hr5
      go_wp2_with fail
      refine (same_any w5 c5 cap HR5.out HI5.out).mono ?_
      rintro e w6 ⟨rfl, rfl⟩
      go_wp2_with fail
      go_ret
      exact ⟨rfl, B5'⟩
    · obtain ⟨rfl, hk24⟩ := rdGo_err xs _ _ _ L k hr hk
      have hk' : ((k : Int) != 0) = true := by simp [hk]
      have hk'' : ((k : Int) == 0) = false := by simp [hk]
      have HR := Lib.hid hr
      clear hr hk24
      go_wp2_with fail
      refine (read_as HR.out (k : Int) rfl (by omega) hcap hcm HI1.out).mono ?_
      rintro e w3 ⟨B3, m3, c3, rfl, hm3, _, ht3, _, hb3⟩
      obtain rfl : m3 = 0 := hm3
      have B3' := hb1.trans (hb3.mono hb1.size)
      clear ht3 hb3
      go_wp2_with ((with_reducible show wpList _ _ _ _ _ _); refine wpList_storeNew rfl _ _ rfl (by rfl) Lk.zero Lk.six_zero (.slice B3 0 c3) rfl (by rfl) ?_; intro w4 hM4 hb4 hz4; have c12 := hM4.cell (lkL_tags Lk.six_zero _); have c14 : w4.cell? ⟨w3.heap.size, 14, none⟩ = some (.int .i64 0) := hM4.cell (lkL_at Lk.six_zero _))
      go_ret
      exact ⟨rfl, B3'.trans (hb4.mono B3'.size)⟩

theorem linkOnly_walks : WalksTrue 6 Try.f6 := by
  intro H enc W base args ds p hval hA
  rw [Try.params6] at hA hval
  obtain ⟨v0, vs0, d0, ds0, p0, q0, hargs, rfl, rfl, h0, r0⟩ := trodAll_cons hA
  obtain ⟨rfl, rfl, rfl⟩ := trodAll_nil r0
  obtain rfl : args = #[v0] := by cases args; simp_all
  obtain ⟨A0, len0, cap0, xs0, rfl, hc0, hm0, hI0⟩ := open_bytes (hval 0 22 v0 rfl rfl) h0
  exact linkOnly_walk A0 len0 cap0 xs0 hc0 hm0 W hI0

theorem linkOnly_said : Rows.LinkOnlySaid :=
  OpenClaim.holds_of_wide 6 Try.f6 rfl rfl rfl rfl rfl rfl rfl ⟨rfl, rfl, rfl, rfl, rfl⟩ rfl rfl rfl rfl rfl (by kernel_rfl) Try.func6 (by kernel_rfl)
    (of_decide_eq_true (by kernel_rfl)) (by unfold Func.isWrapper; first | (rw [if_pos (by decide +kernel)]; kernel_rfl) | (rw [if_neg (by decide +kernel)]; exact ⟨rfl, rfl⟩))
    (fun os started H enc _ => law_lift (s := Rows.linkOnlySpec) Try.func6 (by kernel_rfl) rfl rfl (by intro H ds hd; match ds, hd with | [_], _ => exact ⟨rfl, rfl, rfl⟩) (by kernel_rfl) linkOnly_walks os started H enc
      (ChangeSpec.witness6 (enc := enc) (C := Try.checked) false ⟨#[], #[.slice none 0 0], []⟩ 8 (by kernel_rfl) (by kernel_rfl) (by kernel_rfl) (by kernel_rfl)))

end Go.Proofs.Ytbahlhafckkapaa
