/-
  PROVED HERE: 'CursorLaysSaid': whatever plan and l are, the Go function CursorLays of package wayleavelaw04 returns true, and its arguments read behind the call as they read before. No condition.
-/
import Derived.Test.YtgcdjbhfphglfaaCOpen
import Derived.Test.YtgcdjbhfphglfaaCSame
import Derived.Test.YtgcdjbhfphglfaaCRLay
namespace Go.Proofs.Ytgcdjbhfphglfaa
open Go.RowKit Go.Lib Go.ChangeShapes Go.WideShapes Go.ChangeAt

set_option maxRecDepth 100000 in
set_option maxHeartbeats 4000000 in
theorem cursorLays_walk (A : Option Addr) (len cap : Nat) (xs : List It) (_hcap : len ≤ cap) (_hcm : cap ≤ maxLen) (hxs : ∀ x ∈ xs, -9223372036854775808 ≤ x.n ∧ x.n ≤ 9223372036854775807)
    (A' : Option Addr) (len' cap' : Nat) (ps : List Pc) (hcap' : len' ≤ cap') (hcm' : cap' ≤ maxLen) (hps : ∀ p ∈ ps, p.n < 18446744073709551616) (w : World)
    (hI : PlanAt w w.heap.size A len xs) (hJ : PcsAt w w.heap.size A' len' ps) :
    Calls Try.prog 4 #[.slice A len cap, .slice A' len' cap'] w fun e W' => e = .returned (.bool true) ∧ Below w.heap.size w W' := by
  by_cases h1 : 40 < len
  · have h1' : (40 : Int) < (len : Int) := by omega
    go_enter Try.func4, Try.ntmps4
    go_wp2_with fail
    refine (awake_any _).mono ?_
    rintro e w1 ⟨rfl, hb1⟩
    go_wp2_with fail
    refine (awake_any _).mono ?_
    rintro e w2 ⟨rfl, hb2⟩
    go_wp2_with fail
    go_ret
    exact ⟨rfl, hb1.trans (hb2.mono hb1.size)⟩
  · have h1' : decide ((40 : Int) < (len : Int)) = false := decide_eq_false (by omega)
    cases hfew : fewB ps with
    | false =>
      have HF := Lib.hid (fun W hJ => hfew ▸ few_any (w := W) (B := w.heap.size) (A := A') (len := len') cap' (by omega) hJ)
      clear hfew
      go_enter Try.func4, Try.ntmps4
      go_wp2_with fail
      refine (awake_any _).mono ?_
      rintro e w1 ⟨rfl, hb1⟩
      go_wp2_with fail
      refine (HF.out _ (hJ.below hb1)).mono ?_
      rintro e w2 ⟨rfl, rfl⟩
      go_wp2_with fail
      refine (awake_any _).mono ?_
      rintro e w2 ⟨rfl, hb2⟩
      go_wp2_with fail
      go_ret
      exact ⟨rfl, hb1.trans (hb2.mono hb1.size)⟩
    | true =>
      have HF := Lib.hid (fun W hJ => hfew ▸ few_any (w := W) (B := w.heap.size) (A := A') (len := len') cap' (by omega) hJ)
      obtain ⟨q1, q2⟩ := fewB_yes hfew
      have hl' := hJ.size
      subst hl'
      have hpp : ∀ p ∈ ps, p.n < 18446744073709551616 ∧ p.bs.length ≤ 1000 := fun p hp => ⟨hps p hp, by have := q1 p hp; omega⟩
      have HL := Lib.hid (fun W hI hJ => lays_any A len cap A' ps.length cap' xs ps (by omega) (by omega) hpp W hI hJ)
      have HR := Lib.hid (fun W hI hJ => rlay_any A len cap A' ps.length cap' xs ps (by omega) (by omega) hpp W hI hJ)
      obtain ⟨R, hR⟩ : ∃ R, layS xs ps = R := ⟨_, rfl⟩
      rw [hR] at HL HR
      clear hR hpp hfew q1 q2 hps hxs
      cases R with
      | none =>
        go_enter Try.func4, Try.ntmps4
        go_wp2_with fail
        refine (awake_any _).mono ?_
        rintro e w1 ⟨rfl, hb1⟩
        go_wp2_with fail
        refine (HF.out _ (hJ.below hb1)).mono ?_
        rintro e w2 ⟨rfl, rfl⟩
        have z1 := hb1.size
        go_wp2_with fail
        refine (HL.out _ ((hI.below hb1).more z1) ((hJ.below hb1).more z1)).mono ?_
        rintro e w2 ⟨hb2, rfl⟩
        have z2 := hb2.size
        have B2 := hb1.trans (hb2.mono z1)
        go_wp2_with fail
        refine (HR.out _ ((hI.below B2).more (by omega)) ((hJ.below B2).more (by omega))).mono ?_
        rintro e w3 ⟨hb3, rfl⟩
        go_wp2_with fail
        go_ret
        exact ⟨rfl, B2.trans (hb3.mono (by omega))⟩
      | some ys =>
        go_enter Try.func4, Try.ntmps4
        go_wp2_with fail
        refine (awake_any _).mono ?_
        rintro e w1 ⟨rfl, hb1⟩
        go_wp2_with fail
        refine (HF.out _ (hJ.below hb1)).mono ?_
        rintro e w2 ⟨rfl, rfl⟩
        have z1 := hb1.size
        go_wp2_with fail
        refine (HL.out _ ((hI.below hb1).more z1) ((hJ.below hb1).more z1)).mono ?_
        rintro e w2 ⟨hb2, v2, rfl, ho2⟩
        obtain ⟨A2, m2, c2, rfl, hm2, _, _, hr2⟩ := ho2.sl
        have z2 := hb2.size
        have B2 := hb1.trans (hb2.mono z1)
        have HM2 := Lib.hid hm2
        clear hm2
        go_wp2_with fail
        refine (HR.out _ ((hI.below B2).more (by omega)) ((hJ.below B2).more (by omega))).mono ?_
        rintro e w3 ⟨hb3, v3, rfl, ho3⟩
        obtain ⟨A3, m3, c3, rfl, hm3, _, _, hr3⟩ := ho3.sl
        have HM3 := Lib.hid hm3
        clear hm3
        go_wp2_with fail
        refine (same_any w3 c2 c3 (hr2.below hb3) hr3).mono ?_
        rintro e w4 ⟨rfl, rfl⟩
        go_wp2_with fail
        go_ret
        exact ⟨rfl, B2.trans (hb3.mono (by omega))⟩

theorem cursorLays_walks : WalksTrue 4 Try.f4 := by
  intro H enc W base args ds p hval hA
  rw [Try.params4] at hA hval
  obtain ⟨v0, vs0, d0, ds0, p0, q0, hargs, rfl, rfl, h0, r0⟩ := trodAll_cons hA
  obtain ⟨v1, vs1, d1, ds1, p1, q1, rfl, rfl, rfl, h1, r1⟩ := trodAll_cons r0
  obtain ⟨rfl, rfl, rfl⟩ := trodAll_nil r1
  obtain rfl : args = #[v0, v1] := by cases args; simp_all
  obtain ⟨A0, len0, cap0, xs0, rfl, hc0, hm0, hI0, hR0⟩ := open_items (hval 0 23 v0 rfl rfl) h0
  obtain ⟨A1, len1, cap1, xs1, rfl, hc1, hm1, hI1, hR1⟩ := open_pieces (hval 1 25 v1 rfl rfl) h1
  exact cursorLays_walk A0 len0 cap0 xs0 hc0 hm0 hR0 A1 len1 cap1 xs1 hc1 hm1 hR1 W hI0 hI1

theorem cursorLays_said : Rows.CursorLaysSaid :=
  OpenClaim.holds_of_wide 4 Try.f4 rfl rfl rfl rfl rfl rfl rfl ⟨rfl, rfl, rfl, rfl, rfl⟩ rfl rfl rfl rfl rfl (by kernel_rfl) Try.func4 (by kernel_rfl)
    (of_decide_eq_true (by kernel_rfl)) (by unfold Func.isWrapper; first | (rw [if_pos (by decide +kernel)]; kernel_rfl) | (rw [if_neg (by decide +kernel)]; exact ⟨rfl, rfl⟩))
    (fun os started H enc _ => law_lift (s := Rows.cursorLaysSpec) Try.func4 (by kernel_rfl) rfl rfl (by intro H ds hd; match ds, hd with | [_, _], _ => exact ⟨rfl, rfl, rfl⟩) (by kernel_rfl) cursorLays_walks os started H enc
      (ChangeSpec.witness6 (enc := enc) (C := Try.checked) false ⟨#[], #[.slice none 0 0, .slice none 0 0], []⟩ 8 (by kernel_rfl) (by kernel_rfl) (by kernel_rfl) (by kernel_rfl)))

end Go.Proofs.Ytgcdjbhfphglfaa
