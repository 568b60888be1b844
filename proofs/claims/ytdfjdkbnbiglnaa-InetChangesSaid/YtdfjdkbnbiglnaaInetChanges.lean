/-
  PROVED HERE: 'InetChangesSaid': whatever c, m, n, from and to are, the Go function InetChanges of package wayleavelaw06 returns true, and its arguments read behind the call as they read before. No condition.
-/
import Derived.Test.YtdfjdkbnbiglnaaIAwake
import Derived.Test.YtdfjdkbnbiglnaaIRef3
import Derived.Test.YtdfjdkbnbiglnaaLift
namespace Go.Proofs.Ytdfjdkbnbiglnaa
open Go.RowKit Go.Lib Go.ChangeShapes Go.WideShapes Go.ChangeAt

set_option maxRecDepth 100000 in
set_option maxHeartbeats 2000000 in
theorem inetChanges_walk (c : Nat) (hc : c < 65536) (m : Nat) (hm : m < 65536) (n : Nat) (hn : n < 65536) (A : Option Addr) (len cap : Nat) (xs : List UInt8) (_ : len ≤ cap) (_ : cap ≤ maxLen) (A' : Option Addr) (len' cap' : Nat) (ys : List UInt8) (_ : len' ≤ cap') (_ : cap' ≤ maxLen) (w : World) (hI : Rd w w.heap.size A len xs) (hI' : Rd w w.heap.size A' len' ys) :
    Calls Try.prog 5 #[.int .u16 (c : Int), .int .u16 (m : Int), .int .u16 (n : Int), .slice A len cap, .slice A' len' cap'] w fun e W' => e = .returned (.bool true) ∧ Below w.heap.size w W' := by
  by_cases h1 : 500 < len
  · have h1' : (500 : Int) < (len : Int) := by omega
    go_enter Try.func5, Try.ntmps5
    go_wp2_with fail
    refine (awake_any _).mono ?_
    rintro e w1 ⟨rfl, hb1⟩
    go_wp2_with fail
    refine (awake_any _).mono ?_
    rintro e w2 ⟨rfl, hb2⟩
    go_wp2_with fail
    go_ret
    exact ⟨rfl, hb1.trans (hb2.mono hb1.size)⟩
  · by_cases h2 : 500 < len'
    · have h1' : (len : Int) ≤ 500 := by omega
      have h2' : (500 : Int) < (len' : Int) := by omega
      go_enter Try.func5, Try.ntmps5
      go_wp2_with fail
      refine (awake_any _).mono ?_
      rintro e w1 ⟨rfl, hb1⟩
      go_wp2_with fail
      refine (awake_any _).mono ?_
      rintro e w2 ⟨rfl, hb2⟩
      go_wp2_with fail
      go_ret
      exact ⟨rfl, hb1.trans (hb2.mono hb1.size)⟩
    · have h1' : (len : Int) ≤ 500 := by omega
      have h2' : (len' : Int) ≤ 500 := by omega
      have hq := chg_le c m n
      have P1 := change_any c m n hc hm hn
      have P2 := rchange_any c m n hc hm hn
      have P3 := fun (W : World) (h : Below w.heap.size w W) => changed_any c hc A len cap xs (by omega) A' len' cap' ys (by omega) W (hI.below h) (hI'.below h)
      have P4 := fun (W : World) (h : Below w.heap.size w W) => rchanged_any c hc A len cap xs (by omega) A' len' cap' ys (by omega) W (hI.below h) (hI'.below h) h.size
      have hq2 : changedOf c xs ys ≤ 65535 := chgs_le _ _ _ (by omega)
      obtain ⟨r, hr⟩ : ∃ r, chg c m n = r := ⟨_, rfl⟩
      obtain ⟨s, hs⟩ : ∃ s, changedOf c xs ys = s := ⟨_, rfl⟩
      rw [hr] at hq P1 P2
      rw [hs] at hq2 P3 P4
      have H1 := Lib.hid P1
      have H2 := Lib.hid P2
      have H3 := Lib.hid P3
      have H4 := Lib.hid P4
      clear hr hs P1 P2 P3 P4 h1 h2 hI hI'
      go_enter Try.func5, Try.ntmps5
      go_wp2_with fail
      refine (awake_any _).mono ?_
      rintro e w1 ⟨rfl, hb1⟩
      go_wp2_with fail
      refine (H1.out _).mono ?_
      rintro e w' ⟨rfl, rfl⟩
      go_wp2_with fail
      refine (H2.out _).mono ?_
      rintro e w' ⟨rfl, rfl⟩
      go_wp2_with fail
      refine (H3.out _ hb1).mono ?_
      rintro e w' ⟨rfl, rfl⟩
      go_wp2_with fail
      refine (H4.out _ hb1).mono ?_
      rintro e w2 ⟨rfl, hb2⟩
      go_wp2_with fail
      go_ret
      exact ⟨rfl, hb1.trans (hb2.mono hb1.size)⟩

theorem inetChanges_walks : WalksTrue 5 Try.f5 := by
  intro H enc W base args ds p hval hA
  rw [Try.params5] at hA hval
  obtain ⟨v0, vs0, d0, ds0, p0, q0, hargs, rfl, rfl, h0, r0⟩ := trodAll_cons hA
  obtain ⟨v1, vs1, d1, ds1, p1, q1, rfl, rfl, rfl, h1, r1⟩ := trodAll_cons r0
  obtain ⟨v2, vs2, d2, ds2, p2, q2, rfl, rfl, rfl, h2, r2⟩ := trodAll_cons r1
  obtain ⟨v3, vs3, d3, ds3, p3, q3, rfl, rfl, rfl, h3, r3⟩ := trodAll_cons r2
  obtain ⟨v4, vs4, d4, ds4, p4, q4, rfl, rfl, rfl, h4, r4⟩ := trodAll_cons r3
  obtain ⟨rfl, rfl, rfl⟩ := trodAll_nil r4
  obtain rfl : args = #[v0, v1, v2, v3, v4] := by cases args; simp_all
  obtain ⟨a0, rfl, rfl, rfl, w0⟩ := open_int Try.underlying23 (hval 0 23 v0 rfl rfl) h0
  obtain ⟨g0a, g0b⟩ := range_u16 w0
  obtain ⟨n0, rfl⟩ := Int.eq_ofNat_of_zero_le g0a
  obtain ⟨a1, rfl, rfl, rfl, w1⟩ := open_int Try.underlying23 (hval 1 23 v1 rfl rfl) h1
  obtain ⟨g1a, g1b⟩ := range_u16 w1
  obtain ⟨n1, rfl⟩ := Int.eq_ofNat_of_zero_le g1a
  obtain ⟨a2, rfl, rfl, rfl, w2⟩ := open_int Try.underlying23 (hval 2 23 v2 rfl rfl) h2
  obtain ⟨g2a, g2b⟩ := range_u16 w2
  obtain ⟨n2, rfl⟩ := Int.eq_ofNat_of_zero_le g2a
  obtain ⟨A3, len3, cap3, xs3, rfl, hc3, hm3, hI3⟩ := open_bytes (hval 3 22 v3 rfl rfl) h3
  obtain ⟨A4, len4, cap4, xs4, rfl, hc4, hm4, hI4⟩ := open_bytes (hval 4 22 v4 rfl rfl) h4
  exact inetChanges_walk n0 (by omega) n1 (by omega) n2 (by omega) A3 len3 cap3 xs3 hc3 hm3 A4 len4 cap4 xs4 hc4 hm4 W hI3 hI4

theorem inetChanges_said : Rows.InetChangesSaid :=
  OpenClaim.holds_of_wide 5 Try.f5 rfl rfl rfl rfl rfl rfl rfl ⟨rfl, rfl, rfl, rfl, rfl⟩ rfl rfl rfl rfl rfl (by kernel_rfl) Try.func5 (by kernel_rfl)
    (of_decide_eq_true (by kernel_rfl)) (by unfold Func.isWrapper; first | (rw [if_pos (by decide +kernel)]; kernel_rfl) | (rw [if_neg (by decide +kernel)]; exact ⟨rfl, rfl⟩))
    (fun os started H enc _ => law_lift (s := Rows.inetChangesSpec) Try.func5 (by kernel_rfl) rfl rfl (by intro H ds hd; match ds, hd with | [_, _, _, _, _], _ => exact ⟨rfl, rfl, rfl⟩) (by kernel_rfl) inetChanges_walks os started H enc
      (ChangeSpec.witness6 (enc := enc) (C := Try.checked) false ⟨#[], #[.int .u16 0, .int .u16 0, .int .u16 0, .slice none 0 0, .slice none 0 0], []⟩ 8 (by kernel_rfl) (by kernel_rfl) (by kernel_rfl) (by kernel_rfl)))

end Go.Proofs.Ytdfjdkbnbiglnaa
