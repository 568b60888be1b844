/-
  PROVED HERE: 'TunnelUnwrapsSaid': whatever bytes frame are, the Go function TunnelUnwraps of package wayleavelaw13 returns true, and its arguments read behind the call as they read before. No condition.
-/
import Derived.Test.YtomkfcpellcncaaTSup
import Derived.Test.YtomkfcpellcncaaTAwake
import Derived.Test.YtomkfcpellcncaaTRUnw
namespace Go.Proofs.Ytomkfcpellcncaa
set_option maxRecDepth 100000
open Go.RowKit Go.Lib Go.ChangeShapes Go.WideShapes Go.ChangeAt

set_option maxHeartbeats 16000000 in
theorem tunnelUnwraps_walk (A : Option Addr) (len cap : Nat) (xs : List UInt8) (hca : len ≤ cap) (hma : cap ≤ maxLen) (w : World) (hI : Rd w w.heap.size A len xs) :
    Calls Try.prog 4 #[.slice A len cap] w fun e w' => e = .returned (.bool true) ∧ Below w.heap.size w w' := by
  have hml : len ≤ 9223372036854775807 := by unfold maxLen at hma; omega
  have HXL := Lib.hid hI.len
  have HRX := Lib.hid (fun W (hB : Below w.heap.size w W) => (hI.below hB).more hB.size)
  have HCA := Lib.hid hca
  have HMA := Lib.hid hma
  clear hI hca hma
  go_enter Try.func4, Try.ntmps4
  go_wp2_with fail
  refine (awake_any _).mono ?_
  rintro e w1 ⟨rfl, hb1⟩
  have HB1 := Lib.hid hb1
  clear hb1
  by_cases hn : 3000 < len
  · have hn' : (3000 : Int) < (len : Int) := by omega
    have hnb : decide ((3000 : Int) < (len : Int)) = true := decide_eq_true hn'
    clear hn
    go_wp2_with fail
    refine (awake_any _).mono ?_
    rintro e w2 ⟨rfl, hb2⟩
    go_wp2_with fail
    go_ret
    exact ⟨rfl, HB1.out.trans (hb2.mono HB1.out.size)⟩
  · have hn' : ¬ (3000 : Int) < (len : Int) := by omega
    have hnb : decide ((3000 : Int) < (len : Int)) = false := decide_eq_false hn'
    have HN1 := Lib.hid (show len ≤ 3000 by omega)
    clear hn
    have TW := Lib.hid (fun W (h : Below w.heap.size w W) => tunw_any A len cap xs (by have := HN1.out; omega) HCA.out HMA.out W (HRX.out W h))
    have RW := Lib.hid (fun W (h : Below w.heap.size w W) => runw_any A len cap xs (by have := HN1.out; omega) HCA.out W (HRX.out W h))
    obtain ⟨b, hb⟩ : ∃ b, unB xs = b := ⟨_, rfl⟩
    have HE := Lib.hid hb
    clear hb
    go_wp2_with fail
    refine (TW.out _ HB1.out).mono ?_
    rintro e w2 ⟨hy, hno, hb2⟩
    rw [HE.out] at hy hno
    have HB2 := Lib.hid (HB1.out.trans (hb2.mono HB1.out.size))
    clear hn' hnb
    cases b with
    | true =>
      obtain ⟨v, rfl, ho⟩ := hy rfl
      obtain ⟨l, hl⟩ : ∃ k, (unL xs).length = k := ⟨_, rfl⟩
      obtain ⟨Ax, cx, rfl, _, _, _⟩ := ho.formN hl
      have HX := Lib.hid ho
      have HL := Lib.hid hl
      clear hy hno ho hl hb2
      go_wp2_with fail
      refine (RW.out _ HB2.out).mono ?_
      rintro e w3 ⟨hy, _, hb3⟩
      obtain ⟨v, rfl, ho⟩ := hy HE.out
      obtain ⟨Ay, cy, rfl, _, _, hyr⟩ := ho.formN HL.out
      have HB3 := Lib.hid (HB2.out.trans (hb3.mono HB2.out.size))
      have S1 := Lib.hid (same_any w3 cx cy ((HX.out.below hb3).rdN HL.out).2.2 hyr)
      clear hy ho hyr hb3
      go_wp2_with fail
      refine S1.out.mono ?_
      rintro e w' ⟨rfl, rfl⟩
      go_wp2_with fail
      go_ret
      exact ⟨rfl, HB3.out⟩
    | false =>
      obtain rfl := hno rfl
      clear hy hno hb2
      go_wp2_with fail
      refine (RW.out _ HB2.out).mono ?_
      rintro e w3 ⟨_, hno, hb3⟩
      obtain rfl := hno HE.out
      have HB3 := Lib.hid (HB2.out.trans (hb3.mono HB2.out.size))
      clear hno hb3
      go_wp2_with fail
      go_ret
      exact ⟨rfl, HB3.out⟩

theorem tunnelUnwraps_walks : WalksTrue 4 Try.f4 := by
  intro H enc W base args ds p hval hA
  rw [Try.params4] at hA hval
  obtain ⟨v0, vs0, d0, ds0, p0, q0, hargs, rfl, rfl, h0, r0⟩ := trodAll_cons hA
  obtain ⟨rfl, rfl, rfl⟩ := trodAll_nil r0
  obtain rfl : args = #[v0] := by cases args; simp_all
  obtain ⟨A0, len0, cap0, xs0, rfl, hc0, hm0, hI0⟩ := open_bytes (hval 0 22 v0 rfl rfl) h0
  exact tunnelUnwraps_walk A0 len0 cap0 xs0 hc0 hm0 W hI0

theorem tunnelUnwraps_said : Rows.TunnelUnwrapsSaid :=
  OpenClaim.holds_of_wide 4 Try.f4 rfl rfl rfl rfl rfl rfl rfl ⟨rfl, rfl, rfl, rfl, rfl⟩ rfl rfl rfl rfl rfl (by kernel_rfl) Try.func4 (by kernel_rfl)
    (of_decide_eq_true (by kernel_rfl)) (by unfold Func.isWrapper; first | (rw [if_pos (by decide +kernel)]; kernel_rfl) | (rw [if_neg (by decide +kernel)]; exact ⟨rfl, rfl⟩))
    (fun os started H enc _ => law_lift (s := Rows.tunnelUnwrapsSpec) Try.func4 (by kernel_rfl) rfl rfl (by intro H ds hd; match ds, hd with | [_], _ => exact ⟨rfl, rfl, rfl⟩) (by kernel_rfl) tunnelUnwraps_walks os started H enc
      (ChangeSpec.witness6 (enc := enc) (C := Try.checked) false ⟨#[], #[.slice none 0 0], []⟩ 8 (by kernel_rfl) (by kernel_rfl) (by kernel_rfl) (by kernel_rfl)))

end Go.Proofs.Ytomkfcpellcncaa
