/-
  PROVED HERE: 'VarintOnlySaid': whatever b is, the Go function VarintOnly of package wayleavelaw02 returns true, and its argument reads behind the call as it read before. No condition.
-/
import Derived.Test.YtnbehleppmnjdaaVarAwake
import Derived.Test.YtnbehleppmnjdaaLift
import Derived.Deep.RegionHeld3
namespace Go.Proofs.Ytnbehleppmnjdaa
open Go.RowKit Go.Lib Go.ChangeShapes Go.WideShapes Go.ChangeAt

/-- The reference's Same answers true of the two slices, in this world. -/
def SameOf (W : World) (A : Option Addr) (m c : Nat) (A' : Option Addr) (m' c' : Nat) : Prop :=
  Calls Try.prog 13 #[.slice A m c, .slice A' m' c'] W fun e w' => e = .returned (.bool true) ∧ W = w'

set_option maxRecDepth 100000 in
set_option maxHeartbeats 2000000 in
theorem varintOnly_walk (A : Option Addr) (len cap : Nat) (xs : List UInt8) (hcap : len ≤ cap) (_ : cap ≤ maxLen) (w : World) (hI : Rd w w.heap.size A len xs) :
    Calls Try.prog 6 #[.slice A len cap] w fun e W' => e = .returned (.bool true) ∧ Below w.heap.size w W' := by
  by_cases hbig : 1000 < len
  · have hb' : (1000 : Int) < (len : Int) := by omega
    go_enter Try.func6, Try.ntmps6
    go_wp2_with fail
    refine (awake_any _).mono ?_
    rintro e w1 ⟨rfl, hb1⟩
    go_wp2_with fail
    refine (awake_any _).mono ?_
    rintro e w2 ⟨rfl, hb2⟩
    go_wp2_with fail
    go_ret
    exact ⟨rfl, hb1.trans (hb2.mono hb1.size)⟩
  · have hb' : (len : Int) ≤ 1000 := by omega
    rcases vget_tells xs with ⟨q, hg, ht, hq⟩ | hg | hg
    · have HG := Lib.hid hg
      have hkl : (uvarint q).length ≤ len := by
        have := congrArg List.length ht
        rw [List.length_take, hI.len] at this
        omega
      have hk1 := uvarint_pos q
      have HP := Lib.hid (fun W => vput_any q hq W)
      obtain ⟨k, hk⟩ : ∃ k, (uvarint q).length = k := ⟨_, rfl⟩
      rw [hk] at ht hkl hk1
      have HK := Lib.hid hk
      have HT := Lib.hid ht
      clear hg ht hk
      have a1 : (1 : Int) ≤ (k : Int) := by omega
      have a2 : (k : Int) ≤ (len : Int) := by omega
      have a3 : (k : Int) ≤ (cap : Int) := by omega
      have a4 : (0 : Int) ≤ (k : Int) := by omega
      go_enter Try.func6, Try.ntmps6
      go_wp2_with fail
      refine (awake_any _).mono ?_
      rintro e w1 ⟨rfl, hb1⟩
      have hI1 := hI.below hb1
      go_wp2_with fail
      refine (vget_any A len cap xs (by omega) _ hI1).mono ?_
      rintro e w2 ⟨rfl, rfl⟩
      rw [HG.out, HK.out]
      have hT := hI1.take (k := k) (by omega)
      rw [HT.out] at hT
      have P1 : ∀ W, Below w1.heap.size w1 W → Calls Try.prog 12 #[.int .u64 (q : Int)] W fun e W' => ∃ A1 m1 c1, e = .returned (.slice A1 m1 c1) ∧ SameOf W' A1 m1 c1 A k cap ∧ Below w1.heap.size w1 W' := fun W h =>
        (HP.out W).mono fun e W' g => by
          obtain ⟨v, rfl, ho, hb⟩ := g
          obtain ⟨A1, m1, c1, rfl, _, _, _, hr⟩ := ho.sl
          have hB := h.trans (hb.mono h.size)
          exact ⟨A1, m1, c1, rfl, same_any W' c1 cap hr ((hT.more hb1.size).below hB), hB⟩
      have HB := Lib.hid hb1
      have HP1 := Lib.hid P1
      clear P1 hT hI1 hI hb1 hbig hq
      go_wp2_with fail
      have b1 : decide (k ≤ len) = true := decide_eq_true hkl
      have b2 : decide (1 ≤ k) = true := decide_eq_true hk1
      go_region_held3 (fun _ => True) (trivial) (first
        | (go_at_call 12; refine (HP1.out _ ?_).mono ?_; exact (Below.refl _ _).drew; rintro e W1 ⟨A1, m1, c1, rfl, hs1, hB1⟩)
        | (go_at_call 13; refine Calls.mono hs1 ?_; rintro e W2 ⟨rfl, rfl⟩))
      all_goals go_wp2_with fail
      all_goals go_ret
      all_goals exact ⟨rfl, HB.out.trans (hB1.mono HB.out.size)⟩
    · have HG := Lib.hid hg
      clear hg
      go_enter Try.func6, Try.ntmps6
      go_wp2_with fail
      refine (awake_any _).mono ?_
      rintro e w1 ⟨rfl, hb1⟩
      have hI1 := hI.below hb1
      go_wp2_with fail
      refine (vget_any A len cap xs (by omega) _ hI1).mono ?_
      rintro e w2 ⟨rfl, rfl⟩
      rw [HG.out]
      go_wp2_with fail
      go_ret
      exact ⟨rfl, hb1⟩
    · have HG := Lib.hid hg
      clear hg
      go_enter Try.func6, Try.ntmps6
      go_wp2_with fail
      refine (awake_any _).mono ?_
      rintro e w1 ⟨rfl, hb1⟩
      have hI1 := hI.below hb1
      go_wp2_with fail
      refine (vget_any A len cap xs (by omega) _ hI1).mono ?_
      rintro e w2 ⟨rfl, rfl⟩
      rw [HG.out]
      go_wp2_with fail
      go_ret
      exact ⟨rfl, hb1⟩

theorem varintOnly_walks : WalksTrue 6 Try.f6 := by
  intro H enc W base args ds p hval hA
  rw [Try.params6] at hA hval
  obtain ⟨v0, vs0, d0, ds0, p0, q0, hargs, rfl, rfl, h0, r0⟩ := trodAll_cons hA
  obtain ⟨rfl, rfl, rfl⟩ := trodAll_nil r0
  obtain rfl : args = #[v0] := by cases args; simp_all
  obtain ⟨A0, len0, cap0, xs0, rfl, hc0, hm0, hI0⟩ := open_bytes (hval 0 22 v0 rfl rfl) h0
  exact varintOnly_walk A0 len0 cap0 xs0 hc0 hm0 W hI0

theorem varintOnly_said : Rows.VarintOnlySaid :=
  OpenClaim.holds_of_wide 6 Try.f6 rfl rfl rfl rfl rfl rfl rfl ⟨rfl, rfl, rfl, rfl, rfl⟩ rfl rfl rfl rfl rfl (by kernel_rfl) Try.func6 (by kernel_rfl)
    (of_decide_eq_true (by kernel_rfl)) (by unfold Func.isWrapper; first | (rw [if_pos (by decide +kernel)]; kernel_rfl) | (rw [if_neg (by decide +kernel)]; exact ⟨rfl, rfl⟩))
    (fun os started H enc _ => law_lift (s := Rows.varintOnlySpec) Try.func6 (by kernel_rfl) rfl rfl (by intro H ds hd; match ds, hd with | [_], _ => exact ⟨rfl, rfl, rfl⟩) (by kernel_rfl) varintOnly_walks os started H enc
      (ChangeSpec.witness6 (enc := enc) (C := Try.checked) false ⟨#[], #[.slice none 0 0], []⟩ 8 (by kernel_rfl) (by kernel_rfl) (by kernel_rfl) (by kernel_rfl)))

end Go.Proofs.Ytnbehleppmnjdaa
