/-
  PROVED HERE: 'PortReadsSaid': whatever n and b are, the Go function PortReads of package wayleavelaw10 returns true, and its arguments read behind the call as they read before. No condition.
-/
import Derived.Test.YtgjjepcjdekihaaPOpen
namespace Go.Proofs.Ytgjjepcjdekihaa
open Go.RowKit Go.Lib Go.ChangeShapes Go.WideShapes Go.ChangeAt

set_option maxRecDepth 100000 in
set_option maxHeartbeats 4000000 in
theorem portReads_walk (n : Int) (_hn1 : -9223372036854775808 ≤ n) (_hn2 : n ≤ 9223372036854775807) (A : Option Addr) (len cap : Nat) (xs : List UInt8) (hcap : len ≤ cap) (hcm : cap ≤ maxLen) (w : World) (hI : Rd w w.heap.size A len xs) :
    Calls Try.prog 3 #[.int .i64 n, .slice A len cap] w fun e w' => e = .returned (.bool true) ∧ Below w.heap.size w w' := by
  have hml : len ≤ 9223372036854775807 := by unfold maxLen at hcm; omega
  go_enter Try.func3, Try.ntmps3
  go_wp2_with fail
  refine (awake_any _).mono ?_
  rintro e w1 ⟨rfl, hb1⟩
  by_cases hle : 1000 < len
  · have hle' : (1000 : Int) < (len : Int) := by omega
    go_wp2_with fail
    refine (awake_any _).mono ?_
    rintro e w2 ⟨rfl, hb2⟩
    go_wp2_with fail
    go_ret
    exact ⟨rfl, hb1.trans (hb2.mono hb1.size)⟩
  · have hle' : ¬ (1000 : Int) < (len : Int) := by omega
    have HB1 := Lib.hid hb1
    have HR := Lib.hid (fun W (hB : Below w.heap.size w W) => read_any (cap := cap) (xs := xs) n (by omega) hcap hcm W ((hI.below hB).more hB.size))
    have HD := Lib.hid (fun W (hB : Below w.heap.size w W) => rread_any (cap := cap) (xs := xs) n W ((hI.below hB).more hB.size))
    have HPA := Lib.hid (place_any n)
    have HPB := Lib.hid (rplace_any n)
    obtain ⟨F, hF⟩ : ∃ F, faultP n xs = F := ⟨_, rfl⟩
    obtain ⟨p, hp⟩ : ∃ p, rdP n xs = p := ⟨_, rfl⟩
    obtain ⟨q, hq⟩ : ∃ q, plcI n = q := ⟨_, rfl⟩
    rw [hF, hp] at HR HD
    rw [hq] at HPA HPB
    have hFF : ((F : Int) == (F : Int)) = true := by simp
    clear hF hp hq hb1 hI
    go_wp2_with fail
    refine (HR.out _ HB1.out).mono ?_
    rintro e w3 ⟨rfl, hb3⟩
    have HB3 := Lib.hid (HB1.out.trans (hb3.mono HB1.out.size))
    clear hb3
    go_wp2_with ((with_reducible show wpList _ _ _ _ _ _); refine wpList_storeNew rfl _ _ rfl (by rfl) p (by rfl) ?_; intro w4 hp4 hb4 hz4; clear hz4; have HB4 := Lib.hid (HB3.out.trans (hb4.mono HB3.out.size)); have HP4 := Lib.hid hp4; clear hp4 hb4)
    refine (HD.out _ HB4.out).mono ?_
    rintro e w5 ⟨rfl, hb5⟩
    have HB5 := Lib.hid (HB4.out.trans (hb5.mono HB4.out.size))
    have HP5 := Lib.hid (HP4.out.below HP4.out.lt hb5)
    clear hb5
    go_wp2_with (first
      | ((with_reducible show wpList _ _ _ _ _ _); refine wpList_storeNew rfl _ _ rfl (by rfl) p (by rfl) ?_; intro w6 hp6 hb6 hz6; clear hz6; have HB6 := Lib.hid (HB5.out.trans (hb6.mono HB5.out.size)); have HP6 := Lib.hid (HP5.out.below HP5.out.lt hb6); have HQ6 := Lib.hid hp6; clear hp6 hb6)
      | ((with_reducible show wpList _ _ _ _ _ _); refine wpList_loadP (.tmp 5) rfl (by rfl) w3.heap.size (by rfl) p HP6.out ?_)
      | ((with_reducible show wpList _ _ _ _ _ _); refine wpList_loadP (.tmp 7) rfl (by rfl) w5.heap.size (by rfl) p HQ6.out ?_)
      | ((with_reducible show wpList _ _ _ _ _ _); refine wpList_eqlw 25 _ _ _ rfl (by rfl) (poL p).toArray (poL p).toArray (by rfl) (by rfl) guard_po true (fun W => run_eql_po W p) ?_))
    refine (HPA.out _).mono ?_
    rintro e w' ⟨rfl, rfl⟩
    go_wp2_with fail
    refine (HPB.out _).mono ?_
    rintro e w' ⟨rfl, rfl⟩
    have hqq : ((q : Int) == (q : Int)) = true := by simp
    go_wp2_with fail
    go_ret
    exact ⟨rfl, HB6.out⟩

theorem portReads_walks : WalksTrue 3 Try.f3 := by
  intro H enc W base args ds p hval hA
  rw [Try.params3] at hA hval
  obtain ⟨v0, vs0, d0, ds0, p0, q0, hargs, rfl, rfl, h0, r0⟩ := trodAll_cons hA
  obtain ⟨v1, vs1, d1, ds1, p1, q1, rfl, rfl, rfl, h1, r1⟩ := trodAll_cons r0
  obtain ⟨rfl, rfl, rfl⟩ := trodAll_nil r1
  obtain rfl : args = #[v0, v1] := by cases args; simp_all
  obtain ⟨a0, rfl, rfl, rfl, w0⟩ := open_int Try.underlying3 (hval 0 3 v0 rfl rfl) h0
  obtain ⟨g0a, g0b⟩ := range_i64 w0
  obtain ⟨A1, len1, cap1, xs1, rfl, hc1, hm1, hI1⟩ := open_bytes (hval 1 22 v1 rfl rfl) h1
  exact portReads_walk a0 g0a g0b A1 len1 cap1 xs1 hc1 hm1 W hI1

theorem portReads_said : Rows.PortReadsSaid :=
  OpenClaim.holds_of_wide 3 Try.f3 rfl rfl rfl rfl rfl rfl rfl ⟨rfl, rfl, rfl, rfl, rfl⟩ rfl rfl rfl rfl rfl (by kernel_rfl) Try.func3 (by kernel_rfl)
    (of_decide_eq_true (by kernel_rfl)) (by unfold Func.isWrapper; first | (rw [if_pos (by decide +kernel)]; kernel_rfl) | (rw [if_neg (by decide +kernel)]; exact ⟨rfl, rfl⟩))
    (fun os started H enc _ => law_lift (s := Rows.portReadsSpec) Try.func3 (by kernel_rfl) rfl rfl (by intro H ds hd; match ds, hd with | [_, _], _ => exact ⟨rfl, rfl, rfl⟩) (by kernel_rfl) portReads_walks os started H enc
      (ChangeSpec.witness6 (enc := enc) (C := Try.checked) false ⟨#[], #[.int .i64 0, .slice none 0 0], []⟩ 8 (by kernel_rfl) (by kernel_rfl) (by kernel_rfl) (by kernel_rfl)))

end Go.Proofs.Ytgjjepcjdekihaa
