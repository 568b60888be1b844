/-
  PROVED HERE: 'RecordOnlySaid': whatever b is, the Go function RecordOnly of package wayleavelaw05 returns true, and its argument reads behind the call as it read before. No condition.
-/
import Derived.Test.YtaabfhfiipmhcaaROpen
namespace Go.Proofs.Ytaabfhfiipmhcaa
open Go.RowKit Go.Lib Go.ChangeShapes Go.WideShapes Go.ChangeAt

set_option maxRecDepth 100000 in
set_option maxHeartbeats 2000000 in
theorem recordOnly_walk (A : Option Addr) (len cap : Nat) (xs : List UInt8) (hcap : len ≤ cap) (hcm : cap ≤ maxLen) (w : World) (hI : Rd w w.heap.size A len xs) :
    Calls Try.prog 8 #[.slice A len cap] w fun e W' => e = .returned (.bool true) ∧ Below w.heap.size w W' := by
  by_cases h1 : 3000 < len
  · have h1' : (3000 : Int) < (len : Int) := by omega
    go_enter Try.func8, Try.ntmps8
    go_wp2_with fail
    refine (awake_any _).mono ?_
    rintro e w1 ⟨rfl, hb1⟩
    go_wp2_with fail
    refine (awake_any _).mono ?_
    rintro e w2 ⟨rfl, hb2⟩
    go_wp2_with fail
    go_ret
    exact ⟨rfl, hb1.trans (hb2.mono hb1.size)⟩
  · have h1' : decide ((3000 : Int) < (len : Int)) = false := decide_eq_false (by omega)
    have hlen := hI.len
    obtain ⟨k1, k2, k3, k4⟩ := all_back xs.length xs (Nat.le_refl _)
    have k5 := rowOf_few (allOf xs).l
    have HA := Lib.hid (fun W h => all_any A len cap xs (by omega) hcap hcm W h)
    obtain ⟨⟨l, n, e⟩, hA⟩ : ∃ r, allOf xs = r := ⟨_, rfl⟩
    rw [hA] at HA k1 k2 k3 k4 k5
    simp only at k1 k2 k3 k4 k5
    rw [hlen] at k2 k3
    have k6 : (rowOf l).length = n := by rw [k1, List.length_take]; omega
    have HRow := Lib.hid (fun A' c W h => row_any A' l.length c l (by omega) k4 (by omega) W h)
    rw [k1] at HRow
    have hT := hI.take (k := n) k2
    have hb : (((e : Int) == 0) != ((n : Int) == (len : Int))) = false := by
      by_cases h : e = 0
      · have := k3.1 h
        have e1 : ((e : Int) == 0) = true := beq_iff_eq.2 (by omega)
        have e2 : ((n : Int) == (len : Int)) = true := beq_iff_eq.2 (by omega)
        rw [e1, e2]; rfl
      · have : n ≠ len := fun h2 => h (k3.2 h2)
        have e1 : ((e : Int) == 0) = false := beq_eq_false_iff_ne.2 (by omega)
        have e2 : ((n : Int) == (len : Int)) = false := beq_eq_false_iff_ne.2 (by omega)
        rw [e1, e2]; rfl
    have hb2 : (((e : Int) == 0) == ((n : Int) == (len : Int))) = true := by
      revert hb
      cases ((e : Int) == 0) <;> cases ((n : Int) == (len : Int)) <;> simp
    have hn3 : decide (len < n) = false := decide_eq_false (by omega)
    have hn0 : decide ((n : Int) < 0) = false := decide_eq_false (by omega)
    have hn1 : decide ((len : Int) < (n : Int)) = false := decide_eq_false (by omega)
    have hn2 : (n : Int) ≤ (cap : Int) := by omega
    have HT := Lib.hid hT
    clear hA hlen k1 k2 k3 k4 k5 k6 hT
    go_enter Try.func8, Try.ntmps8
    go_wp2_with fail
    refine (awake_any _).mono ?_
    rintro e w1 ⟨rfl, hb1⟩
    have z1 := hb1.size
    go_wp2_with fail
    refine (HA.out _ ((hI.below hb1).more z1)).mono ?_
    rintro e w2 ⟨v2, rfl, ho2, hb2⟩
    obtain ⟨A2, m2, c2, rfl, hm2, _, _, hr2⟩ := ho2.sl
    subst hm2
    clear ho2
    have B2 := hb1.trans (hb2.mono z1)
    have z2 := B2.size
    go_wp2_with fail
    refine (HRow.out A2 c2 w2 hr2).mono ?_
    rintro e w3 ⟨v3, rfl, ho3, hb3⟩
    obtain ⟨A3, m3, c3, rfl, hm3, _, _, hr3⟩ := ho3.sl
    clear hm3 ho3
    have B3 := B2.trans (hb3.mono z2)
    go_wp2_with fail
    refine (same_any w3 c3 cap hr3 (HT.out.below B3)).mono ?_
    rintro e w4 ⟨rfl, rfl⟩
    go_wp2_with fail
    go_ret
    exact ⟨rfl, B3⟩

theorem recordOnly_walks : WalksTrue 8 Try.f8 := by
  intro H enc W base args ds p hval hA
  rw [Try.params8] at hA hval
  obtain ⟨v0, vs0, d0, ds0, p0, q0, hargs, rfl, rfl, h0, r0⟩ := trodAll_cons hA
  obtain ⟨rfl, rfl, rfl⟩ := trodAll_nil r0
  obtain rfl : args = #[v0] := by cases args; simp_all
  obtain ⟨A0, len0, cap0, xs0, rfl, hc0, hm0, hI0⟩ := open_bytes (hval 0 22 v0 rfl rfl) h0
  exact recordOnly_walk A0 len0 cap0 xs0 hc0 hm0 W hI0

theorem recordOnly_said : Rows.RecordOnlySaid :=
  OpenClaim.holds_of_wide 8 Try.f8 rfl rfl rfl rfl rfl rfl rfl ⟨rfl, rfl, rfl, rfl, rfl⟩ rfl rfl rfl rfl rfl (by kernel_rfl) Try.func8 (by kernel_rfl)
    (of_decide_eq_true (by kernel_rfl)) (by unfold Func.isWrapper; first | (rw [if_pos (by decide +kernel)]; kernel_rfl) | (rw [if_neg (by decide +kernel)]; exact ⟨rfl, rfl⟩))
    (fun os started H enc _ => law_lift (s := Rows.recordOnlySpec) Try.func8 (by kernel_rfl) rfl rfl (by intro H ds hd; match ds, hd with | [_], _ => exact ⟨rfl, rfl, rfl⟩) (by kernel_rfl) recordOnly_walks os started H enc
      (ChangeSpec.witness6 (enc := enc) (C := Try.checked) false ⟨#[], #[.slice none 0 0], []⟩ 8 (by kernel_rfl) (by kernel_rfl) (by kernel_rfl) (by kernel_rfl)))

end Go.Proofs.Ytaabfhfiipmhcaa
