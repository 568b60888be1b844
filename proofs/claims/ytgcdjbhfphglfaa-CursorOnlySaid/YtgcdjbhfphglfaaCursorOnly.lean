/-
  PROVED HERE: 'CursorOnlySaid': whatever b and plan are, the Go function CursorOnly of package wayleavelaw04 returns true, and its arguments read behind the call as they read before. No condition.
-/
import Derived.Test.YtgcdjbhfphglfaaCOpen
import Derived.Test.YtgcdjbhfphglfaaCMath
namespace Go.Proofs.Ytgcdjbhfphglfaa
open Go.RowKit Go.Lib Go.ChangeShapes Go.WideShapes Go.ChangeAt

set_option maxRecDepth 100000 in
set_option maxHeartbeats 2000000 in
theorem cursorOnly_walk (A : Option Addr) (len cap : Nat) (bs : List UInt8) (hcap : len ≤ cap) (hcm : cap ≤ maxLen) (A' : Option Addr) (len' cap' : Nat) (xs : List It) (_hcap' : len' ≤ cap') (_hcm' : cap' ≤ maxLen) (hxs : ∀ x ∈ xs, -9223372036854775808 ≤ x.n ∧ x.n ≤ 9223372036854775807) (w : World)
    (hI : Rd w w.heap.size A len bs) (hJ : PlanAt w w.heap.size A' len' xs) :
    Calls Try.prog 6 #[.slice A len cap, .slice A' len' cap'] w fun e W' => e = .returned (.bool true) ∧ Below w.heap.size w W' := by
  by_cases h1 : 1000 < len
  · have h1' : (1000 : Int) < (len : Int) := by omega
    go_enter Try.func6, Try.ntmps6
    go_wp2_with fail
    refine (awake_any _).mono ?_
    rintro e w1 ⟨rfl, hb1⟩
    go_wp2_with fail
    refine (awake_any _).mono ?_
    rintro e w2 ⟨rfl, hb2⟩
    go_wp2_with fail
    go_ret
    exact ⟨rfl, hb1.trans (hb2.mono hb1.size)⟩
  · have h1' : decide ((1000 : Int) < (len : Int)) = false := decide_eq_false (by omega)
    by_cases h2 : 40 < len'
    · have h2' : (40 : Int) < (len' : Int) := by omega
      go_enter Try.func6, Try.ntmps6
      go_wp2_with fail
      refine (awake_any _).mono ?_
      rintro e w1 ⟨rfl, hb1⟩
      go_wp2_with fail
      refine (awake_any _).mono ?_
      rintro e w2 ⟨rfl, hb2⟩
      go_wp2_with fail
      go_ret
      exact ⟨rfl, hb1.trans (hb2.mono hb1.size)⟩
    · have h2' : decide ((40 : Int) < (len' : Int)) = false := decide_eq_false (by omega)
      have hlen := hI.len
      have hback := scan_back xs ⟨bs, 0, 0, 0⟩ []
      have HS := Lib.hid (fun W hI hJ => scan_any A len cap bs A' len' cap' xs (by omega) (by omega) hxs W hI hJ)
      obtain ⟨R, hR⟩ : ∃ R, scanGo ⟨bs, 0, 0, 0⟩ xs [] = R := ⟨_, rfl⟩
      rw [hR] at HS hback
      cases R with
      | bad a e0 =>
        have he := scan_bad xs ⟨bs, 0, 0, 0⟩ [] a e0 hR
        have b1 : ((e0 : Int) != 0) = true := bne_iff_ne.2 (by omega)
        have b2 : (e0 != 0) = true := bne_iff_ne.2 he
        clear hback he hR hxs hlen h1 h2
        go_enter Try.func6, Try.ntmps6
        go_wp2_with fail
        refine (awake_any _).mono ?_
        rintro e w1 ⟨rfl, hb1⟩
        go_wp2_with fail
        refine (HS.out _ ((hI.below hb1).more hb1.size) ((hJ.below hb1).more hb1.size)).mono ?_
        rintro e w2 ⟨hb2, rfl⟩
        unfold spotOf
        go_wp2_with fail
        go_ret
        exact ⟨rfl, (hb1.trans (hb2.mono hb1.size)).alloc (by have := hb1.size; have := hb2.size; omega) _⟩
      | ok ps =>
        obtain ⟨qs, e1, e2, e3, e4⟩ := hback ps rfl (Nat.zero_le _) rfl
        rw [List.nil_append] at e1
        subst e1
        rw [show (⟨bs, 0, 0, 0⟩ : RS).xs.drop (⟨bs, 0, 0, 0⟩ : RS).at_ = bs from rfl] at e2
        have hq : ps.length ≤ 1000 := by have := hJ.size; omega
        have HL := Lib.hid (fun W Al cl hI hJ => e2 ▸ lays_any A' len' cap' Al ps.length cl xs ps (by omega) hq (fun p hp => ⟨(e4 p hp).1, by have := (e4 p hp).2; change _ ≤ bs.length at this; omega⟩) W hI hJ)
        clear e2 e3 e4 hback hq hxs hlen h1 h2 hR
        go_enter Try.func6, Try.ntmps6
        go_wp2_with fail
        refine (awake_any _).mono ?_
        rintro e w1 ⟨rfl, hb1⟩
        go_wp2_with fail
        refine (HS.out _ ((hI.below hb1).more hb1.size) ((hJ.below hb1).more hb1.size)).mono ?_
        rintro e w2 ⟨hb2, v, rfl, ho⟩
        obtain ⟨Al, ml, cl, rfl, hml, _, _, hpc⟩ := ho.sl
        subst hml
        rw [show spotOf 0 0 = .agg #[.int .i64 0, .int .i64 0] from rfl]
        have z1 := hb1.size
        have z2 := hb2.size
        have B2 := (hb1.trans (hb2.mono z1)).alloc (by omega) (.cells #[.int .i64 0, .int .i64 0] 28)
        have hpc2 := (hpc.below ((Below.refl _ w2).alloc (Nat.le_refl _) (.cells #[.int .i64 0, .int .i64 0] 28))).more (B' := (w2.alloc (.cells #[.int .i64 0, .int .i64 0] 28)).heap.size) (by simp)
        go_wp2_with fail
        refine (HL.out _ _ _ ((hJ.below B2).more (by simp <;> omega)) hpc2).mono ?_
        rintro e w3 ⟨hb3, u, rfl, hown⟩
        obtain ⟨Au, mu, cu, rfl, hmu, _, _, hru⟩ := hown.sl
        subst hmu
        have B3 := B2.trans (hb3.mono (by simp <;> omega))
        go_wp2_with fail
        refine (same_any w3 cap cu (hI.below B3) hru).mono ?_
        rintro e w4 ⟨rfl, rfl⟩
        go_wp2_with fail
        go_ret
        exact ⟨rfl, B3⟩

theorem cursorOnly_walks : WalksTrue 6 Try.f6 := by
  intro H enc W base args ds p hval hA
  rw [Try.params6] at hA hval
  obtain ⟨v0, vs0, d0, ds0, p0, q0, hargs, rfl, rfl, h0, r0⟩ := trodAll_cons hA
  obtain ⟨v1, vs1, d1, ds1, p1, q1, rfl, rfl, rfl, h1, r1⟩ := trodAll_cons r0
  obtain ⟨rfl, rfl, rfl⟩ := trodAll_nil r1
  obtain rfl : args = #[v0, v1] := by cases args; simp_all
  obtain ⟨A0, len0, cap0, xs0, rfl, hc0, hm0, hI0⟩ := open_bytes (hval 0 22 v0 rfl rfl) h0
  obtain ⟨A1, len1, cap1, xs1, rfl, hc1, hm1, hI1, hR1⟩ := open_items (hval 1 23 v1 rfl rfl) h1
  exact cursorOnly_walk A0 len0 cap0 xs0 hc0 hm0 A1 len1 cap1 xs1 hc1 hm1 hR1 W hI0 hI1

theorem cursorOnly_said : Rows.CursorOnlySaid :=
  OpenClaim.holds_of_wide 6 Try.f6 rfl rfl rfl rfl rfl rfl rfl ⟨rfl, rfl, rfl, rfl, rfl⟩ rfl rfl rfl rfl rfl (by kernel_rfl) Try.func6 (by kernel_rfl)
    (of_decide_eq_true (by kernel_rfl)) (by unfold Func.isWrapper; first | (rw [if_pos (by decide +kernel)]; kernel_rfl) | (rw [if_neg (by decide +kernel)]; exact ⟨rfl, rfl⟩))
    (fun os started H enc _ => law_lift (s := Rows.cursorOnlySpec) Try.func6 (by kernel_rfl) rfl rfl (by intro H ds hd; match ds, hd with | [_, _], _ => exact ⟨rfl, rfl, rfl⟩) (by kernel_rfl) cursorOnly_walks os started H enc
      (ChangeSpec.witness6 (enc := enc) (C := Try.checked) false ⟨#[], #[.slice none 0 0, .slice none 0 0], []⟩ 8 (by kernel_rfl) (by kernel_rfl) (by kernel_rfl) (by kernel_rfl)))

end Go.Proofs.Ytgcdjbhfphglfaa
