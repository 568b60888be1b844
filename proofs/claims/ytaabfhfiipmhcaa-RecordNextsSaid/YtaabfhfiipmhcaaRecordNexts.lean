/-
  PROVED HERE: 'RecordNextsSaid': whatever b is, the Go function RecordNexts of package wayleavelaw05 returns true, and its argument reads behind the call as it read before. No condition.
-/
import Derived.Test.YtaabfhfiipmhcaaROpen
import Derived.Test.YtaabfhfiipmhcaaRDoc3
namespace Go.Proofs.Ytaabfhfiipmhcaa
open Go.RowKit Go.Lib Go.ChangeShapes Go.WideShapes Go.ChangeAt

theorem allOf_few (b : List UInt8) : (allOf b).l.length ≤ b.length := by
  obtain ⟨h1, h2, _⟩ := all_back b.length b (Nat.le_refl _)
  have h3 := rowOf_few (allOf b).l
  have h4 := congrArg List.length h1
  rw [List.length_take] at h4
  omega

set_option maxRecDepth 100000 in
set_option maxHeartbeats 2000000 in
theorem recordNexts_walk (A : Option Addr) (len cap : Nat) (xs : List UInt8) (hcap : len ≤ cap) (hcm : cap ≤ maxLen) (w : World) (hI : Rd w w.heap.size A len xs) :
    Calls Try.prog 5 #[.slice A len cap] w fun e W' => e = .returned (.bool true) ∧ Below w.heap.size w W' := by
  by_cases h1 : 3000 < len
  · have h1' : (3000 : Int) < (len : Int) := by omega
    go_enter Try.func5, Try.ntmps5
    go_wp2_with fail
    refine (awake_any _).mono ?_
    rintro e w1 ⟨rfl, hb1⟩
    go_wp2_with fail
    refine (awake_any _).mono ?_
    rintro e w2 ⟨rfl, hb2⟩
    go_wp2_with fail
    go_ret
    exact ⟨rfl, hb1.trans (hb2.mono hb1.size)⟩
  · have h1' : decide ((3000 : Int) < (len : Int)) = false := decide_eq_false (by omega)
    have hlen := hI.len
    have hfew := allOf_few xs
    have HN := Lib.hid (fun W h => next_any A len cap xs (by omega) hcap hcm W h)
    have HDN := Lib.hid (fun W h => dnext_any A len cap xs (by omega) hcap W h)
    have HA := Lib.hid (fun W h => all_any A len cap xs (by omega) hcap hcm W h)
    have HDA := Lib.hid (fun W h => dall_any A len cap xs (by omega) hcap W h)
    obtain ⟨⟨body, n, e⟩, hN⟩ : ∃ r, nextOf xs = r := ⟨_, rfl⟩
    obtain ⟨⟨l, k, g⟩, hA⟩ : ∃ r, allOf xs = r := ⟨_, rfl⟩
    rw [hN] at HN HDN
    rw [hA] at HA HDA hfew
    have hll : l.length ≤ 100000 := by have : l.length ≤ xs.length := hfew; omega
    have HLL := Lib.hid hll
    clear hN hA hlen hfew hll
    go_enter Try.func5, Try.ntmps5
    go_wp2_with fail
    refine (awake_any _).mono ?_
    rintro e w1 ⟨rfl, hb1⟩
    have z1 := hb1.size
    go_wp2_with fail
    refine (HN.out _ ((hI.below hb1).more z1)).mono ?_
    rintro e w2 ⟨v2, rfl, ho2, hb2⟩
    obtain ⟨A2, m2, c2, rfl, hm2, _, _, hr2⟩ := ho2.sl
    clear hm2 ho2
    have B2 := hb1.trans (hb2.mono z1)
    have z2 := B2.size
    go_wp2_with fail
    refine (HDN.out _ ((hI.below B2).more z2)).mono ?_
    rintro e w3 ⟨v3, rfl, ho3, hb3⟩
    obtain ⟨A3, m3, c3, rfl, hm3, _, _, hr3⟩ := ho3.sl
    clear hm3 ho3
    have B3 := B2.trans (hb3.mono z2)
    have z3 := B3.size
    have hr2 := (hr2.below hb3).more hb3.size
    go_wp2_with fail
    refine (HA.out _ ((hI.below B3).more z3)).mono ?_
    rintro e w4 ⟨v4, rfl, ho4, hb4⟩
    obtain ⟨A4, m4, c4, rfl, hm4, _, _, hr4⟩ := ho4.sl
    clear ho4
    subst hm4
    have B4 := B3.trans (hb4.mono z3)
    have z4 := B4.size
    have hr2 := (hr2.below hb4).more hb4.size
    have hr3 := (hr3.below hb4).more hb4.size
    go_wp2_with fail
    refine (HDA.out _ ((hI.below B4).more z4)).mono ?_
    rintro e w5 ⟨v5, rfl, ho5, hb5⟩
    obtain ⟨A5, m5, c5, rfl, hm5, _, _, hr5⟩ := ho5.sl
    clear ho5
    subst hm5
    have B5 := B4.trans (hb5.mono z4)
    have hr2 := hr2.below hb5
    have hr3 := hr3.below hb5
    have hr4 := hr4.below hb5
    go_wp2_with fail
    refine (same_any w5 c2 c3 hr2 hr3).mono ?_
    rintro e w6 ⟨rfl, rfl⟩
    go_wp2_with fail
    refine (dsame_any c4 c5 HLL.out hr4 hr5).mono ?_
    rintro e w7 ⟨rfl, q, rfl⟩
    go_wp2_with fail
    go_ret
    exact ⟨rfl, below_drewN B5 q⟩

theorem recordNexts_walks : WalksTrue 5 Try.f5 := by
  intro H enc W base args ds p hval hA
  rw [Try.params5] at hA hval
  obtain ⟨v0, vs0, d0, ds0, p0, q0, hargs, rfl, rfl, h0, r0⟩ := trodAll_cons hA
  obtain ⟨rfl, rfl, rfl⟩ := trodAll_nil r0
  obtain rfl : args = #[v0] := by cases args; simp_all
  obtain ⟨A0, len0, cap0, xs0, rfl, hc0, hm0, hI0⟩ := open_bytes (hval 0 22 v0 rfl rfl) h0
  exact recordNexts_walk A0 len0 cap0 xs0 hc0 hm0 W hI0

theorem recordNexts_said : Rows.RecordNextsSaid :=
  OpenClaim.holds_of_wide 5 Try.f5 rfl rfl rfl rfl rfl rfl rfl ⟨rfl, rfl, rfl, rfl, rfl⟩ rfl rfl rfl rfl rfl (by kernel_rfl) Try.func5 (by kernel_rfl)
    (of_decide_eq_true (by kernel_rfl)) (by unfold Func.isWrapper; first | (rw [if_pos (by decide +kernel)]; kernel_rfl) | (rw [if_neg (by decide +kernel)]; exact ⟨rfl, rfl⟩))
    (fun os started H enc _ => law_lift (s := Rows.recordNextsSpec) Try.func5 (by kernel_rfl) rfl rfl (by intro H ds hd; match ds, hd with | [_], _ => exact ⟨rfl, rfl, rfl⟩) (by kernel_rfl) recordNexts_walks os started H enc
      (ChangeSpec.witness6 (enc := enc) (C := Try.checked) false ⟨#[], #[.slice none 0 0], []⟩ 8 (by kernel_rfl) (by kernel_rfl) (by kernel_rfl) (by kernel_rfl)))

end Go.Proofs.Ytaabfhfiipmhcaa
