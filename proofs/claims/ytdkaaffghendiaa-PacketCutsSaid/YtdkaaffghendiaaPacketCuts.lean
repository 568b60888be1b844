/-
  PROVED HERE: 'PacketCutsSaid': whatever bytes frame and more and number at are, the Go function PacketCuts of package wayleavelaw11 returns true, and its arguments read behind the call as they read before. No condition.
-/
import Derived.Test.YtdkaaffghendiaaKLaw2
import Derived.Test.YtdkaaffghendiaaKCut
namespace Go.Proofs.Ytdkaaffghendiaa
set_option maxRecDepth 100000
open Go.RowKit Go.Lib Go.ChangeShapes Go.WideShapes Go.ChangeAt

set_option maxHeartbeats 8000000 in
theorem packetCuts_walk (A : Option Addr) (len cap : Nat) (xs : List UInt8) (hca : len ≤ cap) (hma : cap ≤ maxLen) (nn : Nat) (hnn : nn < 65536) (D : Option Addr) (mm cd : Nat) (zs : List UInt8) (hcd : mm ≤ cd) (hmd : cd ≤ maxLen) (w : World) (hI : Rd w w.heap.size A len xs) (hJ : Rd w w.heap.size D mm zs) :
    Calls Try.prog 6 #[.slice A len cap, .int .u16 (nn : Int), .slice D mm cd] w fun e w' => e = .returned (.bool true) ∧ Below w.heap.size w w' := by
  have hml : len ≤ 9223372036854775807 := by unfold maxLen at hma; omega
  have hmm : mm ≤ 9223372036854775807 := by unfold maxLen at hmd; omega
  have HRX := Lib.hid (fun W (hB : Below w.heap.size w W) => (hI.below hB))
  have HRY := Lib.hid (fun W (hB : Below w.heap.size w W) => (hJ.below hB))
  have HXL := Lib.hid hI.len
  have HYL := Lib.hid hJ.len
  clear hI hJ
  go_enter Try.func6, Try.ntmps6
  go_wp2_with fail
  refine (awake_any _).mono ?_
  rintro e w1 ⟨rfl, hb1⟩
  have HB1 := Lib.hid hb1
  clear hb1
  by_cases hbig : 3000 < len ∨ 300 < mm
  · by_cases hn : 3000 < len
    · have hn' : (3000 : Int) < (len : Int) := by omega
      have hnb : decide ((3000 : Int) < (len : Int)) = true := decide_eq_true hn'
      clear hbig hn
      go_wp2_with fail
      refine (awake_any _).mono ?_
      rintro e w2 ⟨rfl, hb2⟩
      go_wp2_with fail
      go_ret
      exact ⟨rfl, HB1.out.trans (hb2.mono HB1.out.size)⟩
    · have hn' : ¬ (3000 : Int) < (len : Int) := by omega
      have hnb : decide ((3000 : Int) < (len : Int)) = false := decide_eq_false hn'
      have hl' : (300 : Int) < (mm : Int) := by omega
      have hlb : decide ((300 : Int) < (mm : Int)) = true := decide_eq_true hl'
      clear hbig hn
      go_wp2_with fail
      refine (awake_any _).mono ?_
      rintro e w2 ⟨rfl, hb2⟩
      go_wp2_with fail
      go_ret
      exact ⟨rfl, HB1.out.trans (hb2.mono HB1.out.size)⟩
  · have hn' : ¬ (3000 : Int) < (len : Int) := by omega
    have hnb : decide ((3000 : Int) < (len : Int)) = false := decide_eq_false hn'
    have hl' : ¬ (300 : Int) < (mm : Int) := by omega
    have hlb : decide ((300 : Int) < (mm : Int)) = false := decide_eq_false hl'
    have hlen : len ≤ 3000 := by omega
    have hm1 : mm ≤ 300 := by omega
    clear hbig
    obtain ⟨P, hP⟩ : ∃ P, readK xs = P := ⟨_, rfl⟩
    have hPo : P.t.Ok := hP ▸ readK_ok xs
    have HPO := Lib.hid hPo
    have HRD := Lib.hid (fun W (hB : Below w.heap.size w W) => pread_as hP (by omega) hca hma ((HRX.out W hB).more hB.size))
    go_wp2_with fail
    clear hn' hnb hl' hlb
    refine (HRD.out _ HB1.out).mono ?_
    rintro e w2 ⟨rfl, hb2⟩
    have HB2 := Lib.hid (HB1.out.trans (hb2.mono HB1.out.size))
    clear hb2 HRD
    obtain ⟨K, hK⟩ : ∃ K, P.kind = K := ⟨_, rfl⟩
    by_cases h0 : K = 0
    · subst h0
      obtain ⟨E, hE, hE1, hE2, hsame, hcut⟩ := cut_same (xs := xs) (by rw [hP]; exact hK)
      rw [hP] at hE hsame
      rw [HXL.out] at hE2
      have hE1' : decide ((E : Int) < 1) = false := decide_eq_false (by omega)
      have hE1p : ¬ (E : Int) < 1 := by omega
      have hE1n : ¬ E < 1 := by omega
      have hE1d : decide (E < 1) = false := decide_eq_false (by omega)
      have hE2' : decide ((len : Int) < (E : Int)) = false := decide_eq_false (by omega)
      have hE2p : ¬ (len : Int) < (E : Int) := by omega
      have hE2d : decide (len < E) = false := decide_eq_false (by omega)
      have hE2n : ¬ len < E := by omega
      obtain ⟨j, hj⟩ : ∃ j, nn % E = j := ⟨_, rfl⟩
      have hjE : j < E := by rw [← hj]; exact Nat.mod_lt _ (by omega)
      have hmod : Int.tmod (nn : Int) (E : Int) = (j : Int) := by rw [← hj]; exact (Int.tmod_eq_emod_of_nonneg (by omega)).trans (Int.natCast_emod nn E).symm
      have hEz : ((E : Int) == 0) = false := by simp; omega
      have hEz2 : ¬ (E : Int) = 0 := by omega
      have hEz3 : ¬ E = 0 := by omega
      have hcv : IntKind.i64.wrap (nn : Int) = (nn : Int) := by rw [IntKind.wrap_i64]; omega
      have hwj : IntKind.i64.wrap (j : Int) = (j : Int) := by rw [IntKind.wrap_i64]; omega
      have hcutE := fun W => run_upto8 A len cap E E rfl (by omega) W
      have hcutj := fun W => run_upto8 A len cap j j rfl (by omega) W
      have LA := Lib.hid (show ([] : List UInt8).length + E ≤ 2000000000 by simp; omega)
      have LB := Lib.hid (show (xs.take E).length + mm ≤ 2000000000 by rw [List.length_take, HXL.out]; omega)
      have LT := Lib.hid (show (xs.take E).length = E by rw [List.length_take, HXL.out]; omega)
      have LL := Lib.hid (show (xs.take E ++ zs).length = E + mm by rw [List.length_append, LT.out, HYL.out])
      obtain ⟨Q, hQ⟩ : ∃ Q, readK (xs.take j) = Q := ⟨_, rfl⟩
      have HQO := Lib.hid (show Q.t.Ok from hQ ▸ readK_ok _)
      have hQk := hcut j hjE
      rw [hQ] at hQk
      have HQK := Lib.hid hQk
      have HR1 := Lib.hid (fun (A' : Option Addr) (c' : Nat) (h1 : E + mm ≤ c') (h2 : c' ≤ maxLen) (W : World) (hR : Rd W W.heap.size A' (E + mm) (xs.take E ++ zs)) => pread_as (hsame zs) (by omega) h1 h2 hR)
      have HR2 := Lib.hid (fun W (hB : Below w.heap.size w W) => pread_as hQ (by omega) (show j ≤ cap by omega) hma (((HRX.out W hB).take (k := j) (by omega)).more hB.size))
      have HEN := Lib.hid hE
      have HKN := Lib.hid hK
      have EQP := Lib.hid (fun W => run_eql_pk W HPO.out)
      clear hsame hcut hj hP hPo hK hE hQ hQk
      go_wp2_with (first
        | ((with_reducible show wpList _ _ _ (⟨none, .store 30 (.tmp 7) _, _, _, _, _⟩ :: _) _ _); refine wpList_storePk rfl (.tmp 7) _ rfl (by rfl) P HPO.out (by rfl) (by rfl) ?_; intro w3 hp3 hb3; obtain ⟨k0, _, _, _, k4⟩ := pk_cells hp3 HPO.out; rw [HKN.out] at k0; rw [HEN.out] at k4; have HB3 := Lib.hid (HB2.out.trans (hb3.mono HB2.out.size)); have HP3 := Lib.hid hp3; have HE3 := Lib.hid (empty8 (base := w3.heap.size) w3 (Nat.le_refl _)); have HX3 := Lib.hid (((HRX.out w3 HB3.out).take (k := E) (by omega)).more HB3.out.size); have k4a : ∀ o, (w3.alloc o).cell? ⟨w2.heap.size, 41, none⟩ = some (.int .i64 (E : Int)) := (fun o => (World.cell?_alloc_lt _ _ _ HP3.out.lt).trans k4); clear hp3 hb3)
        | ((with_reducible show wpList _ _ _ (⟨some 58, _, _, _, _, _⟩ :: _) _ _); refine wpList_append8 (o := ⟨some 58, _, _, _, _, _⟩) rfl _ _ rfl w3.heap.size _ [] (by rfl) HE3.out _ A E cap (xs.take E) (by rfl) (HX3.out.alloc (Nat.le_refl _) _) LA.out (by simp) ?_; intro v4 w4 ho4 hg4 hq4; clear hq4 k4a; rw [List.nil_append] at ho4; have e4 : Below w3.heap.size w3 w4 := ((Below.refl _ w3).alloc (Nat.le_refl _) (.cells #[] 5)).grown hg4 (by simp) HE3.out.lt; obtain ⟨A4, c4, rfl, _, _, _⟩ := ho4.formN LT.out; have HO4 := Lib.hid ho4; have E4 := Lib.hid e4; have HB4 := Lib.hid (HB3.out.trans (e4.mono HB3.out.size)); clear ho4 hg4 e4)
        | ((with_reducible show wpList _ _ _ (⟨some 60, _, _, _, _, _⟩ :: _) _ _); refine wpList_append8 (o := ⟨some 60, _, _, _, _, _⟩) rfl _ _ rfl w3.heap.size _ (xs.take E) (by rfl) HO4.out _ D mm cd zs (by rfl) (HRY.out w4 HB4.out) LB.out E4.out.size ?_; intro v5 w5 ho5 hg5 hq5; clear hq5; have e5 : Below w3.heap.size w3 w5 := E4.out.grown hg5 E4.out.size HO4.out.lt; obtain ⟨A5, c5, rfl, hc5, hm5, hr5⟩ := ho5.formN LL.out; have HR5 := Lib.hid hr5; have HB5 := Lib.hid (HB3.out.trans (e5.mono HB3.out.size)); have HP5 := Lib.hid (HP3.out.below HP3.out.lt e5); clear ho5 hg5 e5 hr5))
      refine (HR1.out A5 c5 hc5 hm5 _ HR5.out).mono ?_
      rintro e w6 ⟨rfl, hb6⟩
      have HB6 := Lib.hid (HB5.out.trans (hb6.mono HB5.out.size))
      have HP6 := Lib.hid (HP5.out.below HP5.out.lt hb6)
      clear hb6 k0 k4
      go_wp2_with (((with_reducible show wpList _ _ _ (⟨none, .store 30 (.tmp 8) _, _, _, _, _⟩ :: _) _ _); refine wpList_storePk rfl (.tmp 8) _ rfl (by rfl) P HPO.out (by rfl) (by rfl) ?_; intro w7 hp7 hb7; have HB7 := Lib.hid (HB6.out.trans (hb7.mono HB6.out.size)); have HP7 := Lib.hid (HP6.out.below HP6.out.lt hb7); have HU7 := Lib.hid hp7; have k4 := (pk_cells HP7.out HPO.out).2.2.2.2; rw [HEN.out] at k4; clear hp7 hb7))
      refine (HR2.out _ HB7.out).mono ?_
      rintro e w8 ⟨rfl, hb8⟩
      have HB8 := Lib.hid (HB7.out.trans (hb8.mono HB7.out.size))
      have HP8 := Lib.hid (HP7.out.below HP7.out.lt hb8)
      have HU8 := Lib.hid (HU7.out.below HU7.out.lt hb8)
      clear hb8
      clear hcutE hcutj hmod hEz hEz2 hEz3 hcv hwj hE1' hE1p hE1n hE1d hE2' hE2p hE2d hE2n k4
      rcases HQK.out with hq | hq
      · go_wp2_with (first
          | ((with_reducible show wpList _ _ _ (⟨none, .store 30 (.tmp 9) _, _, _, _, _⟩ :: _) _ _); refine wpList_storePk rfl (.tmp 9) _ rfl (by rfl) Q HQO.out (by rfl) (by rfl) ?_; intro w9 hp9 hb9; have z0 := (pk_cells hp9 HQO.out).1; rw [hq] at z0; have HB9 := Lib.hid (HB8.out.trans (hb9.mono HB8.out.size)); have HP9 := Lib.hid (HP8.out.below HP8.out.lt hb9); have HU9 := Lib.hid (HU8.out.below HU8.out.lt hb9); clear hp9 hb9 hq)
          | ((with_reducible show wpList _ _ _ (⟨some 70, _, _, _, _, _⟩ :: _) _ _); refine wpList_loadPk (op := ⟨some 70, _, _, _, _, _⟩) _ rfl (by rfl) w6.heap.size (by rfl) P HPO.out HU9.out ?_)
          | ((with_reducible show wpList _ _ _ (⟨some 71, _, _, _, _, _⟩ :: _) _ _); refine wpList_loadPk (op := ⟨some 71, _, _, _, _, _⟩) _ rfl (by rfl) w2.heap.size (by rfl) P HPO.out HP9.out ?_)
          | ((with_reducible show wpList _ _ _ (⟨some 72, _, _, _, _, _⟩ :: _) _ _); refine wpList_eqlw_8 (op := ⟨some 72, _, _, _, _, _⟩) 30 _ _ _ rfl (by rfl) (pkL P).toArray (pkL P).toArray (by rfl) (by rfl) guard_pk true EQP.out ?_))
        go_ret
        exact ⟨rfl, HB9.out⟩
      · go_wp2_with (first
          | ((with_reducible show wpList _ _ _ (⟨none, .store 30 (.tmp 9) _, _, _, _, _⟩ :: _) _ _); refine wpList_storePk rfl (.tmp 9) _ rfl (by rfl) Q HQO.out (by rfl) (by rfl) ?_; intro w9 hp9 hb9; have z0 := (pk_cells hp9 HQO.out).1; rw [hq] at z0; have HB9 := Lib.hid (HB8.out.trans (hb9.mono HB8.out.size)); have HP9 := Lib.hid (HP8.out.below HP8.out.lt hb9); have HU9 := Lib.hid (HU8.out.below HU8.out.lt hb9); clear hp9 hb9 hq)
          | ((with_reducible show wpList _ _ _ (⟨some 70, _, _, _, _, _⟩ :: _) _ _); refine wpList_loadPk (op := ⟨some 70, _, _, _, _, _⟩) _ rfl (by rfl) w6.heap.size (by rfl) P HPO.out HU9.out ?_)
          | ((with_reducible show wpList _ _ _ (⟨some 71, _, _, _, _, _⟩ :: _) _ _); refine wpList_loadPk (op := ⟨some 71, _, _, _, _, _⟩) _ rfl (by rfl) w2.heap.size (by rfl) P HPO.out HP9.out ?_)
          | ((with_reducible show wpList _ _ _ (⟨some 72, _, _, _, _, _⟩ :: _) _ _); refine wpList_eqlw_8 (op := ⟨some 72, _, _, _, _, _⟩) 30 _ _ _ rfl (by rfl) (pkL P).toArray (pkL P).toArray (by rfl) (by rfl) guard_pk true EQP.out ?_))
        go_ret
        exact ⟨rfl, HB9.out⟩
    · have hkk := readK_kind xs
      rw [hP] at hkk
      have hPk : P = kindK K := by rw [hkk (by rw [hK]; exact h0), hK]
      have hv := kind_vals xs
      rw [hP, hK] at hv
      subst hPk
      have q1 : (K != 0) = true := by simp [h0]
      have q2 : decide (1 ≤ K) = true := decide_eq_true (by omega)
      have q3 : decide (K ≤ 6) = true := decide_eq_true (by omega)
      have q2' : 1 ≤ K := by omega
      have q3' : K ≤ 6 := by omega
      have EQP := Lib.hid (fun W => run_eql_pk W (p := kindK K) Tu.ok_zero)
      clear hkk hv hK hP hPo h0
      go_wp2_with (first
        | ((with_reducible show wpList _ _ _ (⟨none, .store 30 (.tmp 7) _, _, _, _, _⟩ :: _) _ _); refine wpList_storePk rfl (.tmp 7) _ rfl (by rfl) (kindK K) Tu.ok_zero (by rfl) (by rfl) ?_; intro w3 hp3 hb3; have k0 : w3.cell? ⟨w2.heap.size, 0, none⟩ = some (.int .i64 K) := (pk_cells hp3 Tu.ok_zero).1; have HB3 := Lib.hid (HB2.out.trans (hb3.mono HB2.out.size)); have HP3 := Lib.hid hp3; clear hp3 hb3)
        | ((with_reducible show wpList _ _ _ (⟨some 28, _, _, _, _, _⟩ :: _) _ _); refine wpList_loadPk (op := ⟨some 28, _, _, _, _, _⟩) _ rfl (by rfl) w2.heap.size (by rfl) (kindK K) Tu.ok_zero HP3.out ?_)
        | ((with_reducible show wpList _ _ _ (⟨some 31, _, _, _, _, _⟩ :: _) _ _); refine wpList_buildw (op := ⟨some 31, _, _, _, _, _⟩) 30 _ rfl (by rfl) _ (by kernel_rfl) (pkL (kindK K)).toArray (built_pk1 K) ?_)
        | ((with_reducible show wpList _ _ _ (⟨some 32, _, _, _, _, _⟩ :: _) _ _); refine wpList_eqlw_8 (op := ⟨some 32, _, _, _, _, _⟩) 30 _ _ _ rfl (by rfl) (pkL (kindK K)).toArray (pkL (kindK K)).toArray (by rfl) (by rfl) guard_pk true EQP.out ?_))
      go_ret
      exact ⟨rfl, HB3.out⟩

theorem packetCuts_walks : WalksTrue 6 Try.f6 := by
  intro H enc W base args ds p hval hA
  rw [Try.params6] at hA hval
  obtain ⟨v0, vs0, d0, ds0, p0, q0, hargs, rfl, rfl, h0, r0⟩ := trodAll_cons hA
  obtain ⟨v1, vs1, d1, ds1, p1, q1, rfl, rfl, rfl, h1, r1⟩ := trodAll_cons r0
  obtain ⟨v2, vs2, d2, ds2, p2, q2, rfl, rfl, rfl, h2, r2⟩ := trodAll_cons r1
  obtain ⟨rfl, rfl, rfl⟩ := trodAll_nil r2
  obtain rfl : args = #[v0, v1, v2] := by cases args; simp_all
  obtain ⟨A0, len0, cap0, xs0, rfl, hc0, hm0, hI0⟩ := open_bytes (hval 0 22 v0 rfl rfl) h0
  obtain ⟨a1, rfl, rfl, rfl, w1⟩ := open_int Try.underlying46 (hval 1 46 v1 rfl rfl) h1
  obtain ⟨g1a, g1b⟩ := range_u16 w1
  obtain ⟨n1, rfl⟩ := Int.eq_ofNat_of_zero_le g1a
  obtain ⟨A2, len2, cap2, xs2, rfl, hc2, hm2, hI2⟩ := open_bytes (hval 2 22 v2 rfl rfl) h2
  exact packetCuts_walk A0 len0 cap0 xs0 hc0 hm0 n1 (by omega) A2 len2 cap2 xs2 hc2 hm2 W hI0 hI2

theorem packetCuts_said : Rows.PacketCutsSaid :=
  OpenClaim.holds_of_wide 6 Try.f6 rfl rfl rfl rfl rfl rfl rfl ⟨rfl, rfl, rfl, rfl, rfl⟩ rfl rfl rfl rfl rfl (by kernel_rfl) Try.func6 (by kernel_rfl)
    (of_decide_eq_true (by kernel_rfl)) (by unfold Func.isWrapper; first | (rw [if_pos (by decide +kernel)]; kernel_rfl) | (rw [if_neg (by decide +kernel)]; exact ⟨rfl, rfl⟩))
    (fun os started H enc _ => law_lift (s := Rows.packetCutsSpec) Try.func6 (by kernel_rfl) rfl rfl (by intro H ds hd; match ds, hd with | [_, _, _], _ => exact ⟨rfl, rfl, rfl⟩) (by kernel_rfl) packetCuts_walks os started H enc
      (ChangeSpec.witness6 (enc := enc) (C := Try.checked) false ⟨#[], #[.slice none 0 0, .int .u16 0, .slice none 0 0], []⟩ 8 (by kernel_rfl) (by kernel_rfl) (by kernel_rfl) (by kernel_rfl)))

end Go.Proofs.Ytdkaaffghendiaa
