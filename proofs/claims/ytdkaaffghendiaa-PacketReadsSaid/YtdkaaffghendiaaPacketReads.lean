/-
  PROVED HERE: 'PacketReadsSaid': whatever bytes frame are, the Go function PacketReads of package wayleavelaw11 returns true, and its argument reads behind the call as it read before. No condition.
-/
import Derived.Test.YtdkaaffghendiaaKAwake
import Derived.Test.YtdkaaffghendiaaKOpen
namespace Go.Proofs.Ytdkaaffghendiaa
set_option maxRecDepth 100000
open Go.RowKit Go.Lib Go.ChangeShapes Go.WideShapes Go.ChangeAt

set_option maxRecDepth 100000 in
set_option maxHeartbeats 4000000 in
theorem packetReads_walk (A : Option Addr) (len cap : Nat) (xs : List UInt8) (hcap : len ≤ cap) (hcm : cap ≤ maxLen) (w : World) (hI : Rd w w.heap.size A len xs) :
    Calls Try.prog 3 #[.slice A len cap] w fun e w' => e = .returned (.bool true) ∧ Below w.heap.size w w' := by
  have hml : len ≤ 9223372036854775807 := by unfold maxLen at hcm; omega
  go_enter Try.func3, Try.ntmps3
  go_wp2_with fail
  refine (awake_any _).mono ?_
  rintro e w1 ⟨rfl, hb1⟩
  by_cases hle : 3000 < len
  · have hle' : (3000 : Int) < (len : Int) := by omega
    go_wp2_with fail
    refine (awake_any _).mono ?_
    rintro e w2 ⟨rfl, hb2⟩
    go_wp2_with fail
    go_ret
    exact ⟨rfl, hb1.trans (hb2.mono hb1.size)⟩
  · have hle' : ¬ (3000 : Int) < (len : Int) := by omega
    have HB1 := Lib.hid hb1
    have HR := Lib.hid (fun W (hB : Below w.heap.size w W) => pread_any A len cap xs (by omega) hcap hcm W ((hI.below hB).more hB.size))
    have HD := Lib.hid (fun W (hB : Below w.heap.size w W) => kread_any A len cap xs (by omega) hcap W ((hI.below hB).more hB.size))
    have HO := Lib.hid (readK_ok xs)
    obtain ⟨p, hp⟩ : ∃ p, readK xs = p := ⟨_, rfl⟩
    rw [hp] at HR HD HO
    clear hp hb1 hI
    go_wp2_with fail
    refine (HR.out _ HB1.out).mono ?_
    rintro e w3 ⟨rfl, hb3⟩
    have HB3 := Lib.hid (HB1.out.trans (hb3.mono HB1.out.size))
    clear hb3
    go_wp2_with fail
    refine (HD.out _ HB3.out).mono ?_
    rintro e w5 ⟨rfl, hb5⟩
    have HB5 := Lib.hid (HB3.out.trans (hb5.mono HB3.out.size))
    clear hb5
    go_wp2_with (((with_reducible show wpList _ _ _ (⟨some 15, _, _, _, _, _⟩ :: _) _ _); refine wpList_eqlw_8 30 _ _ _ rfl (by rfl) (pkL p).toArray (pkL p).toArray (by rfl) (by rfl) guard_pk true (fun W => run_eql_pk W HO.out) ?_))
    go_ret
    exact ⟨rfl, HB5.out⟩

theorem packetReads_walks : WalksTrue 3 Try.f3 := by
  intro H enc W base args ds p hval hA
  rw [Try.params3] at hA hval
  obtain ⟨v0, vs0, d0, ds0, p0, q0, hargs, rfl, rfl, h0, r0⟩ := trodAll_cons hA
  obtain ⟨rfl, rfl, rfl⟩ := trodAll_nil r0
  obtain rfl : args = #[v0] := by cases args; simp_all
  obtain ⟨A0, len0, cap0, xs0, rfl, hc0, hm0, hI0⟩ := open_bytes (hval 0 22 v0 rfl rfl) h0
  exact packetReads_walk A0 len0 cap0 xs0 hc0 hm0 W hI0

theorem packetReads_said : Rows.PacketReadsSaid :=
  OpenClaim.holds_of_wide 3 Try.f3 rfl rfl rfl rfl rfl rfl rfl ⟨rfl, rfl, rfl, rfl, rfl⟩ rfl rfl rfl rfl rfl (by kernel_rfl) Try.func3 (by kernel_rfl)
    (of_decide_eq_true (by kernel_rfl)) (by unfold Func.isWrapper; first | (rw [if_pos (by decide +kernel)]; kernel_rfl) | (rw [if_neg (by decide +kernel)]; exact ⟨rfl, rfl⟩))
    (fun os started H enc _ => law_lift (s := Rows.packetReadsSpec) Try.func3 (by kernel_rfl) rfl rfl (by intro H ds hd; match ds, hd with | [_], _ => exact ⟨rfl, rfl, rfl⟩) (by kernel_rfl) packetReads_walks os started H enc
      (ChangeSpec.witness6 (enc := enc) (C := Try.checked) false ⟨#[], #[.slice none 0 0], []⟩ 8 (by kernel_rfl) (by kernel_rfl) (by kernel_rfl) (by kernel_rfl)))

end Go.Proofs.Ytdkaaffghendiaa
