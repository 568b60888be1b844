/-
  PROVED HERE: 'CursorScansSaid': whatever b and plan are, the Go function CursorScans of package wayleavelaw04 returns true, and its arguments read behind the call as they read before. No condition.
-/
import Derived.Test.YtgcdjbhfphglfaaCOpen
import Derived.Test.YtgcdjbhfphglfaaCSame
import Derived.Test.YtgcdjbhfphglfaaCRScan
namespace Go.Proofs.Ytgcdjbhfphglfaa
open Go.RowKit Go.Lib Go.ChangeShapes Go.WideShapes Go.ChangeAt

set_option maxRecDepth 100000 in
set_option maxHeartbeats 2000000 in
theorem cursorScans_walk (A : Option Addr) (len cap : Nat) (bs : List UInt8) (hcap : len ≤ cap) (hcm : cap ≤ maxLen) (A' : Option Addr) (len' cap' : Nat) (xs : List It) (_hcap' : len' ≤ cap') (_hcm' : cap' ≤ maxLen) (hxs : ∀ x ∈ xs, -9223372036854775808 ≤ x.n ∧ x.n ≤ 9223372036854775807) (w : World)
    (hI : Rd w w.heap.size A len bs) (hJ : PlanAt w w.heap.size A' len' xs) :
    Calls Try.prog 3 #[.slice A len cap, .slice A' len' cap'] w fun e W' => e = .returned (.bool true) ∧ Below w.heap.size w W' := by
  by_cases h1 : 1000 < len
  · have h1' : (1000 : Int) < (len : Int) := by omega
    go_enter Try.func3, Try.ntmps3
    go_wp2_with fail
    refine (awake_any _).mono ?_
    rintro e w1 ⟨rfl, hb1⟩
    go_wp2_with fail
    refine (awake_any _).mono ?_
    rintro e w2 ⟨rfl, hb2⟩
    go_wp2_with fail
    go_ret
    exact ⟨rfl, hb1.trans (hb2.mono hb1.size)⟩
  · have h1' : decide ((1000 : Int) < (len : Int)) = false := decide_eq_false (by omega)
    by_cases h2 : 40 < len'
    · have h2' : (40 : Int) < (len' : Int) := by omega
      go_enter Try.func3, Try.ntmps3
      go_wp2_with fail
      refine (awake_any _).mono ?_
      rintro e w1 ⟨rfl, hb1⟩
      go_wp2_with fail
      refine (awake_any _).mono ?_
      rintro e w2 ⟨rfl, hb2⟩
      go_wp2_with fail
      go_ret
      exact ⟨rfl, hb1.trans (hb2.mono hb1.size)⟩
    · have h2' : decide ((40 : Int) < (len' : Int)) = false := decide_eq_false (by omega)
      have hlen := hI.len
      have hat := scan_at xs ⟨bs, 0, 0, 0⟩ []
      have HS := Lib.hid (fun W hI hJ => scan_any A len cap bs A' len' cap' xs (by omega) (by omega) hxs W hI hJ)
      have HQ := Lib.hid (fun W hI hJ => rscan_any A len cap bs A' len' cap' xs (by omega) (by omega) hcap hcm hxs W hI hJ)
      obtain ⟨R, hR⟩ : ∃ R, scanGo ⟨bs, 0, 0, 0⟩ xs [] = R := ⟨_, rfl⟩
      rw [hR] at HS HQ hat
      cases R with
      | bad a e0 =>
        have ha : a ≤ bs.length := hat a e0 rfl (Nat.zero_le _) rfl
        have ha' : (a : Int) ≤ (len : Int) := by omega
        clear hat hR hxs hlen ha h1 h2
        go_enter Try.func3, Try.ntmps3
        go_wp2_with fail
        refine (awake_any _).mono ?_
        rintro e w1 ⟨rfl, hb1⟩
        go_wp2_with fail
        refine (HS.out _ ((hI.below hb1).more hb1.size) ((hJ.below hb1).more hb1.size)).mono ?_
        rintro e w2 ⟨hb2, rfl⟩
        unfold spotOf
        have z1 := hb1.size
        have z2 := hb2.size
        have B2 := (hb1.trans (hb2.mono z1)).alloc (by omega) (.cells #[.int .i64 (a : Int), .int .i64 (e0 : Int)] 28)
        go_wp2_with fail
        refine (HQ.out _ ((hI.below B2).more (by simp <;> omega)) ((hJ.below B2).more (by simp <;> omega))).mono ?_
        rintro e w3 ⟨hb3, rfl⟩
        unfold spotOf
        have z3 := hb3.size
        simp only [World.size_alloc] at z3
        have T3 := (Bk.new w2 28 #[.int .i64 (a : Int), .int .i64 (e0 : Int)]).below hb3
        have B3 := (B2.trans (hb3.mono (by simp <;> omega))).alloc (by omega) (.cells #[.int .i64 (a : Int), .int .i64 (e0 : Int)] 28)
        have T4 := T3.alloc (.cells #[.int .i64 (a : Int), .int .i64 (e0 : Int)] 28)
        have U4 := Bk.new w3 28 #[.int .i64 (a : Int), .int .i64 (e0 : Int)]
        have c0 := T4.c 0 _ rfl
        have c1 := T4.c 1 _ rfl
        have d0 := U4.c 0 _ rfl
        have d1 := U4.c 1 _ rfl
        clear T3 T4 U4
        go_wp2_with fail
        refine (rsame_any (B := 0) (B' := 0) (ps := []) 0 0 (Nat.zero_le _) ⟨rfl, fun h => absurd h (by omega)⟩ ⟨rfl, fun h => absurd h (by omega)⟩).mono ?_
        rintro e w4 ⟨rfl, n4, rfl⟩
        go_wp2_with fail
        go_ret
        exact ⟨rfl, below_drewN B3 n4⟩
      | ok ps =>
        have hq : ps.length ≤ 1000 := by
          obtain ⟨qs, e1, _, e3, _⟩ := scan_back xs ⟨bs, 0, 0, 0⟩ [] ps rfl (Nat.zero_le _) hR
          have := hJ.size
          rw [e1, List.nil_append]
          omega
        clear hat hR hxs hlen h1 h2
        go_enter Try.func3, Try.ntmps3
        go_wp2_with fail
        refine (awake_any _).mono ?_
        rintro e w1 ⟨rfl, hb1⟩
        go_wp2_with fail
        refine (HS.out _ ((hI.below hb1).more hb1.size) ((hJ.below hb1).more hb1.size)).mono ?_
        rintro e w2 ⟨hb2, v, rfl, ho⟩
        obtain ⟨Al, ml, cl, rfl, hml, _, _, hpc⟩ := ho.sl
        subst hml
        rw [show spotOf 0 0 = .agg #[.int .i64 0, .int .i64 0] from rfl]
        have z1 := hb1.size
        have z2 := hb2.size
        have B2 := (hb1.trans (hb2.mono z1)).alloc (by omega) (.cells #[.int .i64 0, .int .i64 0] 28)
        have hpc2 := (hpc.below ((Below.refl _ w2).alloc (Nat.le_refl _) (.cells #[.int .i64 0, .int .i64 0] 28)))
        go_wp2_with fail
        refine (HQ.out _ ((hI.below B2).more (by simp <;> omega)) ((hJ.below B2).more (by simp <;> omega))).mono ?_
        rintro e w3 ⟨hb3, v3, rfl, ho3⟩
        obtain ⟨Ar, mr, cr, rfl, hmr, _, _, hpr⟩ := ho3.sl
        subst hmr
        rw [show spotOf 0 0 = .agg #[.int .i64 0, .int .i64 0] from rfl]
        have z3 := hb3.size
        simp only [World.size_alloc] at z3
        have T3 := (Bk.new w2 28 #[.int .i64 0, .int .i64 0]).below hb3
        have B3 := (B2.trans (hb3.mono (by simp <;> omega))).alloc (by omega) (.cells #[.int .i64 0, .int .i64 0] 28)
        have T4 := T3.alloc (.cells #[.int .i64 0, .int .i64 0] 28)
        have U4 := Bk.new w3 28 #[.int .i64 0, .int .i64 0]
        have c0 := T4.c 0 _ rfl
        have c1 := T4.c 1 _ rfl
        have d0 := U4.c 0 _ rfl
        have d1 := U4.c 1 _ rfl
        have hp3 := (hpc2.below (hb3.mono (by simp <;> omega))).below ((Below.refl w2.heap.size w3).alloc (by omega) (.cells #[.int .i64 0, .int .i64 0] 28))
        have hr3 := hpr.below ((Below.refl _ w3).alloc (Nat.le_refl _) (.cells #[.int .i64 0, .int .i64 0] 28))
        clear T3 T4 U4
        go_wp2_with fail
        refine (rsame_any _ _ hq hp3 hr3).mono ?_
        rintro e w4 ⟨rfl, n4, rfl⟩
        go_wp2_with fail
        go_ret
        exact ⟨rfl, below_drewN B3 n4⟩

theorem cursorScans_walks : WalksTrue 3 Try.f3 := by
  intro H enc W base args ds p hval hA
  rw [Try.params3] at hA hval
  obtain ⟨v0, vs0, d0, ds0, p0, q0, hargs, rfl, rfl, h0, r0⟩ := trodAll_cons hA
  obtain ⟨v1, vs1, d1, ds1, p1, q1, rfl, rfl, rfl, h1, r1⟩ := trodAll_cons r0
  obtain ⟨rfl, rfl, rfl⟩ := trodAll_nil r1
  obtain rfl : args = #[v0, v1] := by cases args; simp_all
  obtain ⟨A0, len0, cap0, xs0, rfl, hc0, hm0, hI0⟩ := open_bytes (hval 0 22 v0 rfl rfl) h0
  obtain ⟨A1, len1, cap1, xs1, rfl, hc1, hm1, hI1, hR1⟩ := open_items (hval 1 23 v1 rfl rfl) h1
  exact cursorScans_walk A0 len0 cap0 xs0 hc0 hm0 A1 len1 cap1 xs1 hc1 hm1 hR1 W hI0 hI1

theorem cursorScans_said : Rows.CursorScansSaid :=
  OpenClaim.holds_of_wide 3 Try.f3 rfl rfl rfl rfl rfl rfl rfl ⟨rfl, rfl, rfl, rfl, rfl⟩ rfl rfl rfl rfl rfl (by kernel_rfl) Try.func3 (by kernel_rfl)
    (of_decide_eq_true (by kernel_rfl)) (by unfold Func.isWrapper; first | (rw [if_pos (by decide +kernel)]; kernel_rfl) | (rw [if_neg (by decide +kernel)]; exact ⟨rfl, rfl⟩))
    (fun os started H enc _ => law_lift (s := Rows.cursorScansSpec) Try.func3 (by kernel_rfl) rfl rfl (by intro H ds hd; match ds, hd with | [_, _], _ => exact ⟨rfl, rfl, rfl⟩) (by kernel_rfl) cursorScans_walks os started H enc
      (ChangeSpec.witness6 (enc := enc) (C := Try.checked) false ⟨#[], #[.slice none 0 0, .slice none 0 0], []⟩ 8 (by kernel_rfl) (by kernel_rfl) (by kernel_rfl) (by kernel_rfl)))

end Go.Proofs.Ytgcdjbhfphglfaa
