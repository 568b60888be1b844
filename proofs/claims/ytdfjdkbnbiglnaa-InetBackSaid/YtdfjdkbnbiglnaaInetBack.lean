/-
  PROVED HERE: 'InetBackSaid': whatever b and n are, the Go function InetBack of package wayleavelaw06 returns true, and its arguments read behind the call as they read before. No condition.
-/
import Derived.Test.YtdfjdkbnbiglnaaIAwake
import Derived.Test.YtdfjdkbnbiglnaaLift
import Derived.BigQuiet
namespace Go.Proofs.Ytdfjdkbnbiglnaa
open Go.RowKit Go.Lib Go.ChangeShapes Go.WideShapes Go.ChangeAt

theorem some_pos {xs : List UInt8} (h : ∃ x ∈ xs, x ≠ 0) : 0 < wsum false xs := by
  obtain ⟨x, hx, hne⟩ := h
  rcases Nat.eq_zero_or_pos (wsum false xs) with e | e
  · exact absurd ((wsum_zero xs false).1 e x hx) hne
  · exact e

set_option maxRecDepth 100000 in
set_option maxHeartbeats 4000000 in
theorem inetBack_walk (A : Option Addr) (len cap : Nat) (xs : List UInt8) (hcap : len ≤ cap) (hcm : cap ≤ maxLen) (n : Nat) (hn : n < 65536) (w : World) (hI : Rd w w.heap.size A len xs) :
    Calls Try.prog 7 #[.slice A len cap, .int .u16 (n : Int)] w fun e W' => e = .returned (.bool true) ∧ Below w.heap.size w W' := by
  by_cases h1 : 300 < len
  · have h1' : (300 : Int) < (len : Int) := by omega
    go_enter Try.func7, Try.ntmps7
    go_wp2_with fail
    refine (awake_any _).mono ?_
    rintro e w1 ⟨rfl, hb1⟩
    go_wp2_with fail
    refine (awake_any _).mono ?_
    rintro e w2 ⟨rfl, hb2⟩
    go_wp2_with fail
    go_ret
    exact ⟨rfl, hb1.trans (hb2.mono hb1.size)⟩
  · by_cases h2 : len < 4
    · have h1' : (len : Int) ≤ 300 := by omega
      have h2' : (len : Int) < 4 := by omega
      go_enter Try.func7, Try.ntmps7
      go_wp2_with fail
      refine (awake_any _).mono ?_
      rintro e w1 ⟨rfl, hb1⟩
      go_wp2_with fail
      refine (awake_any _).mono ?_
      rintro e w2 ⟨rfl, hb2⟩
      go_wp2_with fail
      go_ret
      exact ⟨rfl, hb1.trans (hb2.mono hb1.size)⟩
    · have h1' : (len : Int) ≤ 300 := by omega
      have h2' : ¬ (len : Int) < 4 := by omega
      have HL := Lib.hid hI.len
      go_enter Try.func7, Try.ntmps7
      go_wp2_with fail
      refine (awake_any _).mono ?_
      rintro e w1 ⟨rfl, hb1⟩
      have z1 := hb1.size
      have hI1 := (hI.below hb1).more z1
      obtain ⟨b, off, rfl, hb⟩ := hI1.addr (by omega)
      go_wp2_with fail
      go_loop [5, 6] (fun s i => ∃ (k : Nat) (o : Bool), 2 ≤ k ∧ k ≤ len ∧ s = .bool o ∧ i = .int .i64 (k : Int) ∧ (o = true → ∃ x ∈ xs, x ≠ 0)) (fun _ i => len - (intOf i).toNat)
      case atStart => exact ⟨2, false, by omega, by omega, rfl, rfl, fun h => by cases h⟩
      case round =>
        obtain ⟨k, o, hk2, hk, rfl, rfl, ho⟩ := hrel
        by_cases hlt : k < len
        · have hlt' : (k : Int) < (len : Int) := by omega
          cases o with
          | true =>
            have HO := Lib.hid ho
            clear ho
            go_wp2_with fail
            go_round
            case rel => exact ⟨k + 1, true, by omega, by omega, rfl, by go_num, HO.out⟩
            case measure => simp [intOf]; omega
          | false =>
            have hc := hI1.cell (k := k) hlt
            obtain ⟨x, hx⟩ : ∃ x, xs[k]'(by rw [HL.out]; exact hlt) = x := ⟨_, rfl⟩
            have hmem : x ∈ xs := by rw [← hx]; exact List.getElem_mem _
            rw [hx] at hc
            clear hx ho
            by_cases h0 : x = 0
            · subst h0
              have HO := Lib.hid hmem
              clear hmem
              go_wp2_with fail
              go_round
              case rel => exact ⟨k + 1, false, by omega, by omega, rfl, by go_num, fun h => by cases h⟩
              case measure => simp [intOf]; omega
            · have hne : x.toNat ≠ 0 := fun e => h0 (UInt8.toNat_inj.1 (by rw [e]; rfl))
              have b1 : ((x.toNat : Int) != 0) = true := bne_iff_ne.2 (by omega)
              have b2 : (x.toNat != 0) = true := bne_iff_ne.2 hne
              have b3 : ((x.toNat : Int) == 0) = false := beq_eq_false_iff_ne.2 (by omega)
              have HO := Lib.hid (show ∃ x ∈ xs, x ≠ 0 from ⟨x, hmem, h0⟩)
              clear hmem h0
              go_wp2_with fail
              go_round
              case rel => exact ⟨k + 1, true, by omega, by omega, rfl, by go_num, fun _ => HO.out⟩
              case measure => simp [intOf]; omega
        · obtain rfl : k = len := by omega
          have hc0 := bat_cell hI1 (k := 0) (by omega)
          have hc1 := bat_cell hI1 (k := 1) (by omega)
          have l0 := batN_lt xs 0
          have l1 := batN_lt xs 1
          have hor := or16 (batN xs 0) (batN xs 1) l0 l1
          have hwl : 256 * batN xs 0 + batN xs 1 < 65536 := by omega
          obtain ⟨x, hx⟩ : ∃ x, batN xs 0 = x := ⟨_, rfl⟩
          obtain ⟨y, hy⟩ : ∃ y, batN xs 1 = y := ⟨_, rfl⟩
          rw [hx] at hc0 l0 hor hwl
          rw [hy] at hc1 l1 hor hwl
          rw [show ((256 * x : Nat) : Int) = (x : Int) * 256 by omega] at hor
          obtain ⟨m, hm⟩ : ∃ m, 256 * x + y = m := ⟨_, rfl⟩
          rw [hm] at hor hwl
          rw [Nat.add_zero] at hc0
          clear hx hy hm
          go_wp2_with fail
          go_quiet (fail)
          have q := sum_row w1 _ _ (CellsAt.one hI1 hcap hcm) 1 1 rfl (by omega) (by rw [show ([xs] : List (List UInt8)).flatten = xs by simp, HL.out]; omega) (ckOf xs) (by simp) nq
          have hB := below_drewN (hb1.alloc z1 (.cells [Value.slice (some ⟨b, off, none⟩) k cap].toArray 22)) nq
          have hcl := ckOf_le xs
          have hct : o = true → ckOf xs < 65535 := fun h => ck_lt (some_pos (ho h))
          obtain ⟨c, hc⟩ : ∃ c, ckOf xs = c := ⟨_, rfl⟩
          rw [hc] at q hcl hct
          have Q := Lib.hid q
          have HB := Lib.hid hB
          clear hc q hB ho hI hI1
          cases o with
          | false =>
            clear hct
            go_wp2_with fail
            refine Q.out.mono ?_
            rintro e w' ⟨rfl, rfl⟩
            go_wp2_with fail
            go_ret
            exact ⟨rfl, HB.out⟩
          | true =>
            have hlt := hct rfl
            have p1 := change_any c m n (by omega) hwl hn
            have hdl := chg_le c m n
            have p2 := change_any (chg c m n) n m (by omega) hn hwl
            rw [chg_back (by omega) (by omega) (by omega) (.inr hlt)] at p2
            have p3 := change_any c m m (by omega) hwl hwl
            rw [chg_same hlt (by omega)] at p3
            obtain ⟨d, hd⟩ : ∃ d, chg c m n = d := ⟨_, rfl⟩
            rw [hd] at p1 p2 hdl
            have P1 := Lib.hid p1
            have P2 := Lib.hid p2
            have P3 := Lib.hid p3
            clear p1 p2 p3 hct hd
            go_wp2_with fail
            refine Q.out.mono ?_
            rintro e w' ⟨rfl, rfl⟩
            go_wp2_with fail
            refine (P1.out _).mono ?_
            rintro e w' ⟨rfl, rfl⟩
            go_wp2_with fail
            refine (P2.out _).mono ?_
            rintro e w' ⟨rfl, rfl⟩
            go_wp2_with fail
            refine (P3.out _).mono ?_
            rintro e w' ⟨rfl, rfl⟩
            go_wp2_with fail
            go_ret
            exact ⟨rfl, HB.out⟩

theorem inetBack_walks : WalksTrue 7 Try.f7 := by
  intro H enc W base args ds p hval hA
  rw [Try.params7] at hA hval
  obtain ⟨v0, vs0, d0, ds0, p0, q0, hargs, rfl, rfl, h0, r0⟩ := trodAll_cons hA
  obtain ⟨v1, vs1, d1, ds1, p1, q1, rfl, rfl, rfl, h1, r1⟩ := trodAll_cons r0
  obtain ⟨rfl, rfl, rfl⟩ := trodAll_nil r1
  obtain rfl : args = #[v0, v1] := by cases args; simp_all
  obtain ⟨A0, len0, cap0, xs0, rfl, hc0, hm0, hI0⟩ := open_bytes (hval 0 22 v0 rfl rfl) h0
  obtain ⟨a1, rfl, rfl, rfl, w1⟩ := open_int Try.underlying23 (hval 1 23 v1 rfl rfl) h1
  obtain ⟨g1a, g1b⟩ := range_u16 w1
  obtain ⟨n1, rfl⟩ := Int.eq_ofNat_of_zero_le g1a
  exact inetBack_walk A0 len0 cap0 xs0 hc0 hm0 n1 (by omega) W hI0

theorem inetBack_said : Rows.InetBackSaid :=
  OpenClaim.holds_of_wide 7 Try.f7 rfl rfl rfl rfl rfl rfl rfl ⟨rfl, rfl, rfl, rfl, rfl⟩ rfl rfl rfl rfl rfl (by kernel_rfl) Try.func7 (by kernel_rfl)
    (of_decide_eq_true (by kernel_rfl)) (by unfold Func.isWrapper; first | (rw [if_pos (by decide +kernel)]; kernel_rfl) | (rw [if_neg (by decide +kernel)]; exact ⟨rfl, rfl⟩))
    (fun os started H enc _ => law_lift (s := Rows.inetBackSpec) Try.func7 (by kernel_rfl) rfl rfl (by intro H ds hd; match ds, hd with | [_, _], _ => exact ⟨rfl, rfl, rfl⟩) (by kernel_rfl) inetBack_walks os started H enc
      (ChangeSpec.witness6 (enc := enc) (C := Try.checked) false ⟨#[], #[.slice none 0 0, .int .u16 0], []⟩ 8 (by kernel_rfl) (by kernel_rfl) (by kernel_rfl) (by kernel_rfl)))

end Go.Proofs.Ytdfjdkbnbiglnaa
