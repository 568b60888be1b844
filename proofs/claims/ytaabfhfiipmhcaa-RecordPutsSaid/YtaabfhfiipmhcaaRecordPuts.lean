/-
  PROVED HERE: 'RecordPutsSaid': whatever body is, the Go function RecordPuts of package wayleavelaw05 returns true, and its argument reads behind the call as it read before. No condition.
-/
import Derived.Test.YtaabfhfiipmhcaaROpen
import Derived.Test.YtaabfhfiipmhcaaRDoc3
namespace Go.Proofs.Ytaabfhfiipmhcaa
open Go.RowKit Go.Lib Go.ChangeShapes Go.WideShapes Go.ChangeAt

set_option maxRecDepth 100000 in
set_option maxHeartbeats 2000000 in
theorem recordPuts_walk (A : Option Addr) (len cap : Nat) (xs : List UInt8) (hcap : len ≤ cap) (hcm : cap ≤ maxLen) (w : World) (hI : Rd w w.heap.size A len xs) :
    Calls Try.prog 3 #[.slice A len cap] w fun e W' => e = .returned (.bool true) ∧ Below w.heap.size w W' := by
  by_cases h1 : 3000 < len
  · have h1' : (3000 : Int) < (len : Int) := by omega
    go_enter Try.func3, Try.ntmps3
    go_wp2_with fail
    refine (awake_any _).mono ?_
    rintro e w1 ⟨rfl, hb1⟩
    go_wp2_with fail
    refine (awake_any _).mono ?_
    rintro e w2 ⟨rfl, hb2⟩
    go_wp2_with fail
    go_ret
    exact ⟨rfl, hb1.trans (hb2.mono hb1.size)⟩
  · have h1' : decide ((3000 : Int) < (len : Int)) = false := decide_eq_false (by omega)
    have hlen := hI.len
    have hrl := recOf_len xs
    rw [hlen] at hrl
    have h10 := uvarint_max (n := len) (by omega)
    have HP := Lib.hid (fun W h => rput_at A len cap xs (by omega) hcap hcm _ hrl W h)
    have HZ := Lib.hid (fun W => rsize_any len (by omega) W)
    have HD := Lib.hid (fun W h => dput_any A len cap xs (by omega) W (B := W.heap.size) h (Nat.le_refl _))
    obtain ⟨N, hN⟩ : ∃ N, (uvarint len).length + len + 4 = N := ⟨_, rfl⟩
    rw [hN] at HP HZ
    clear hN hrl hlen h10
    go_enter Try.func3, Try.ntmps3
    go_wp2_with fail
    refine (awake_any _).mono ?_
    rintro e w1 ⟨rfl, hb1⟩
    have z1 := hb1.size
    go_wp2_with fail
    refine (HP.out _ ((hI.below hb1).more z1)).mono ?_
    rintro e w2 ⟨g, c, rfl, _, _, _, _, hr2, hb2⟩
    have B2 := hb1.trans (hb2.mono z1)
    have z2 := B2.size
    go_wp2_with fail
    refine (HD.out _ ((hI.below B2).more z2)).mono ?_
    rintro e w3 ⟨v3, rfl, ho3, hb3⟩
    obtain ⟨A3, m3, c3, rfl, hm3, _, _, hr3⟩ := ho3.sl
    clear hm3
    have B3 := B2.trans (hb3.mono z2)
    go_wp2_with fail
    refine (same_any w3 c c3 (hr2.below hb3) hr3).mono ?_
    rintro e w4 ⟨rfl, rfl⟩
    go_wp2_with fail
    refine (HZ.out _).mono ?_
    rintro e w5 ⟨rfl, rfl⟩
    go_wp2_with fail
    go_ret
    exact ⟨rfl, B3⟩

theorem recordPuts_walks : WalksTrue 3 Try.f3 := by
  intro H enc W base args ds p hval hA
  rw [Try.params3] at hA hval
  obtain ⟨v0, vs0, d0, ds0, p0, q0, hargs, rfl, rfl, h0, r0⟩ := trodAll_cons hA
  obtain ⟨rfl, rfl, rfl⟩ := trodAll_nil r0
  obtain rfl : args = #[v0] := by cases args; simp_all
  obtain ⟨A0, len0, cap0, xs0, rfl, hc0, hm0, hI0⟩ := open_bytes (hval 0 22 v0 rfl rfl) h0
  exact recordPuts_walk A0 len0 cap0 xs0 hc0 hm0 W hI0

theorem recordPuts_said : Rows.RecordPutsSaid :=
  OpenClaim.holds_of_wide 3 Try.f3 rfl rfl rfl rfl rfl rfl rfl ⟨rfl, rfl, rfl, rfl, rfl⟩ rfl rfl rfl rfl rfl (by kernel_rfl) Try.func3 (by kernel_rfl)
    (of_decide_eq_true (by kernel_rfl)) (by unfold Func.isWrapper; first | (rw [if_pos (by decide +kernel)]; kernel_rfl) | (rw [if_neg (by decide +kernel)]; exact ⟨rfl, rfl⟩))
    (fun os started H enc _ => law_lift (s := Rows.recordPutsSpec) Try.func3 (by kernel_rfl) rfl rfl (by intro H ds hd; match ds, hd with | [_], _ => exact ⟨rfl, rfl, rfl⟩) (by kernel_rfl) recordPuts_walks os started H enc
      (ChangeSpec.witness6 (enc := enc) (C := Try.checked) false ⟨#[], #[.slice none 0 0], []⟩ 8 (by kernel_rfl) (by kernel_rfl) (by kernel_rfl) (by kernel_rfl)))

end Go.Proofs.Ytaabfhfiipmhcaa
