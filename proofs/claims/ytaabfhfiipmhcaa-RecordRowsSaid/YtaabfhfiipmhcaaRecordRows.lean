/-
  PROVED HERE: 'RecordRowsSaid': whatever l and at are, the Go function RecordRows of package wayleavelaw05 returns true, and its arguments read behind the call as they read before. No condition.
-/
import Derived.Test.YtaabfhfiipmhcaaROpen
import Derived.Test.YtaabfhfiipmhcaaRDoc
namespace Go.Proofs.Ytaabfhfiipmhcaa
open Go.RowKit Go.Lib Go.ChangeShapes Go.WideShapes Go.ChangeAt

theorem rowOf_short : ∀ l : List (List UInt8), (∀ xs ∈ l, xs.length ≤ 300) → (rowOf l).length ≤ 307 * l.length
  | [], _ => Nat.le_refl _
  | xs :: l, h => by
    have h1 := rowOf_short l fun ys hy => h ys (List.mem_cons_of_mem _ hy)
    have h2 := h xs (List.mem_cons_self ..)
    have h3 := uvarint_max (n := xs.length) (by omega)
    rw [rowOf, List.length_append, recOf_len, List.length_cons]
    omega
/-- l[:h] of byte slices. -/
theorem run_uptoL (A : Option Addr) (len cap h : Nat) (h2 : h ≤ cap) (W : World) :
    (Instr.slice 32 (.slice A len cap) none (some (.int .i64 (h : Int))) none).run Try.prog W = .ok (.slice A h cap) W := by
  obtain ⟨i0, hi, hz0, hz1, hz2⟩ := info_parts infoL
  have hc := run_sliceBound (P := Try.prog) (w := W) .i64 (h : Int) cap .sliceAcap (by omega) (by omega)
  cases A <;> simp [Instr.slice, hc, run_underlying Try.underlying32, Instr.sliceBounds, sizeOf, typeInfo, hi, Addr.add] <;> (try split) <;> simp_all

set_option maxRecDepth 100000 in
set_option maxHeartbeats 2000000 in
theorem recordRows_walk (A : Option Addr) (len cap : Nat) (l : List (List UInt8)) (hcap : len ≤ cap) (hcm : cap ≤ maxLen) (at_ : Nat) (hat : at_ < 65536) (w : World) (hI : LsAt w w.heap.size A len l) :
    Calls Try.prog 6 #[.slice A len cap, .int .u16 (at_ : Int)] w fun e W' => e = .returned (.bool true) ∧ Below w.heap.size w W' := by
  have HF := Lib.hid (fun W h => dfew_any (w := W) (B := w.heap.size) (A := A) (len := len) (l := l) cap (by omega) h)
  obtain ⟨F, hF⟩ : ∃ F, fewL l = F := ⟨_, rfl⟩
  rw [hF] at HF
  cases F with
  | false =>
    clear hF
    go_enter Try.func6, Try.ntmps6
    go_wp2_with fail
    refine (awake_any _).mono ?_
    rintro e w1 ⟨rfl, hb1⟩
    go_wp2_with fail
    refine (HF.out _ (hI.below hb1)).mono ?_
    rintro e w2 ⟨rfl, rfl⟩
    go_wp2_with fail
    refine (awake_any _).mono ?_
    rintro e w2 ⟨rfl, hb2⟩
    go_wp2_with fail
    go_ret
    exact ⟨rfl, hb1.trans (hb2.mono hb1.size)⟩
  | true =>
    obtain ⟨hs, hl⟩ := fewL_yes hF
    have hsz := hI.size
    have hr1 := rowOf_short l hs
    have hmax : ∀ xs ∈ l, xs.length ≤ 1048576 := fun xs hx => by have := hs xs hx; omega
    have HRow := Lib.hid (fun W h => row_any A len cap l (by omega) hmax (by omega) W h)
    have hcutall := fun k => all_cut l k hmax
    obtain ⟨R, hR⟩ : ∃ R, (rowOf l).length = R := ⟨_, rfl⟩
    have hRb : R ≤ 6140 := by omega
    have hd0 : ((R : Int) + 1 == 0) = false := beq_eq_false_iff_ne.2 (by omega)
    obtain ⟨K, hK, hKR⟩ : ∃ K : Nat, (at_ : Int) % ((R : Int) + 1) = (K : Int) ∧ K ≤ R := by
      have e1 := Int.emod_nonneg (at_ : Int) (b := (R : Int) + 1) (by omega)
      have e2 := Int.emod_lt_of_pos (at_ : Int) (b := (R : Int) + 1) (by omega)
      exact ⟨((at_ : Int) % ((R : Int) + 1)).toNat, by omega, by omega⟩
    obtain ⟨j, j1, j2, j3, j4⟩ := hcutall K (by omega)
    have HAll := Lib.hid (fun A' c W (h1 : K ≤ c) (h2 : c ≤ maxLen) h => all_any A' K c ((rowOf l).take K) (by omega) h1 h2 W h)
    rw [j4] at HAll
    have hj5 : ((rowOf (l.take j)).length = K → (if (rowOf (l.take j)).length = K then 0 else 2) = 0) ∧ (¬ (rowOf (l.take j)).length = K → (if (rowOf (l.take j)).length = K then 0 else 2) = 2) := ⟨fun h => if_pos h, fun h => if_neg h⟩
    have HE := Lib.hid (fun i (h : i ≤ j) => rowOf_mono l h)
    obtain ⟨E, hE⟩ : ∃ E, (rowOf (l.take j)).length = E := ⟨_, rfl⟩
    rw [hE] at HAll j2 hj5 HE
    have HEE := Lib.hid hE
    have HJ := Lib.hid j3
    have HL := Lib.hid hsz
    have HS := Lib.hid hs
    have HRR := Lib.hid hR
    have hjl : j ≤ len := by omega
    have hl20 : len ≤ 20 := by omega
    have hjt : (l.take j).length = j := by rw [List.length_take]; omega
    have HJT := Lib.hid hjt
    obtain ⟨T, hT⟩ : ∃ T, (if E = K then 0 else 2) = T := ⟨_, rfl⟩
    rw [hT] at HAll hj5
    have hfin : ∃ x : Bool, ((E : Int) == (K : Int)) = x ∧ (E == K) = x ∧ ((x = true ∧ T = 0) ∨ (x = false ∧ T = 2)) := by
      by_cases h : E = K
      · exact ⟨true, beq_iff_eq.2 (by omega), beq_iff_eq.2 h, .inl ⟨rfl, hj5.1 h⟩⟩
      · exact ⟨false, beq_eq_false_iff_ne.2 (by omega), beq_eq_false_iff_ne.2 h, .inr ⟨rfl, hj5.2 h⟩⟩
    have HFin := Lib.hid hfin
    clear hF hs hl hsz hr1 hmax hcutall hR j3 j4 hE hjt hT hj5 hfin j1
    go_enter Try.func6, Try.ntmps6
    go_wp2_with fail
    refine (awake_any _).mono ?_
    rintro e w1 ⟨rfl, hb1⟩
    have z1 := hb1.size
    go_wp2_with fail
    refine (HF.out _ (hI.below hb1)).mono ?_
    rintro e w2 ⟨rfl, rfl⟩
    go_wp2_with fail
    refine (HRow.out _ ((hI.below hb1).more z1)).mono ?_
    rintro e w3 ⟨v3, rfl, ho3, hb3⟩
    obtain ⟨A3, m3, c3, rfl, hm3, hmc3, hcm3, hr3⟩ := ho3.sl
    rw [HRR.out] at hm3
    subst hm3
    have B3 := hb1.trans (hb3.mono z1)
    have z3 := B3.size
    have hcut := run_upto8 A3 m3 c3 K (K : Int) rfl (by omega)
    have hr3K := hr3.take (k := K) hKR
    clear ho3
    go_wp2_with fail
    rw [hK]
    refine (HAll.out A3 c3 w3 (by omega) hcm3 hr3K).mono ?_
    rintro e w4 ⟨v4, rfl, ho4, hb4⟩
    obtain ⟨A4, m4, c4, rfl, hm4, _, _, hr4⟩ := ho4.sl
    rw [show (⟨l.take j, E, T⟩ : AL).l = l.take j from rfl, HJT.out] at hm4
    subst hm4
    have hr4 : LsAt w4 w4.heap.size A4 m4 (l.take m4) := hr4
    have B4 := B3.trans (hb4.mono z3)
    have z4 := B4.size
    have hI4 := hI.below B4
    have hcutL := run_uptoL A len cap m4 (by omega)
    have HR4 := Lib.hid hr4
    have HT4 := Lib.hid (hI4.take hjl)
    have HI4 := Lib.hid hI4
    clear ho4 hr4 hr3 hr3K hcut hd0 hK hb1 hb3 hb4 hI hI4 hat
    go_wp2_with fail
    go_loop [11, 12] (fun e i => ∃ k : Nat, k ≤ m4 ∧ i = .int .i64 (k : Int) ∧ e = .int .i64 (((rowOf (l.take k)).length : Nat) : Int)) (fun _ i => m4 - (intOf i).toNat)
    case atStart => exact ⟨0, Nat.zero_le _, rfl, by rw [List.take_zero]; rfl⟩
    case round =>
      obtain ⟨k, hk, rfl, rfl⟩ := hrel
      by_cases hkl : k < len
      · have hlt' : (k : Int) < (len : Int) := by omega
        have hk0 : (0 : Int) ≤ (k : Int) := by omega
        obtain ⟨b, off, rfl, _, hc⟩ := HI4.out.2 (by omega)
        obtain ⟨xs, hx⟩ : ∃ xs, l[k]? = some xs := ⟨_, List.getElem?_eq_getElem (by rw [HL.out]; exact hkl)⟩
        obtain ⟨A1, n1, c1, x1, _, _, hr1⟩ := hc k xs hx
        have hxl := HS.out xs (List.mem_of_getElem? hx)
        have hnl := hr1.len
        have hs := congrArg List.length (rowOf_snoc hx)
        rw [List.length_append, recOf_len, hnl] at hs
        have h3 := uvarint_max (n := n1) (by omega)
        have hn1 : n1 ≤ 300 := by omega
        have HV := Lib.hid (fun W => rsize_any n1 (by omega) W)
        have hle := HE.out k hk
        have hnext : k < m4 → (rowOf (l.take (k + 1))).length ≤ E := fun h => HE.out (k + 1) (by omega)
        have hlast : k = m4 → K < (rowOf (l.take (k + 1))).length := fun h => by rw [h]; exact HJ.out (by rw [HL.out]; omega)
        obtain ⟨U, hU⟩ : ∃ U, (uvarint n1).length = U := ⟨_, rfl⟩
        obtain ⟨Rk, hRk⟩ : ∃ Rk, (rowOf (l.take k)).length = Rk := ⟨_, rfl⟩
        rw [hU] at HV h3 hs
        rw [hRk] at hs hle ⊢
        rw [hs] at hnext hlast
        have HS2 := Lib.hid hs
        have HRk := Lib.hid hRk
        have HSn := Lib.hid hx
        clear hU hRk hc hr1 hnl hxl hs hx
        by_cases hlt : k < m4
        · have hok := hnext hlt
          have hokI : (Rk : Int) + ((U + n1 + 4 : Nat) : Int) ≤ (K : Int) := by omega
          have hokI2 : decide ((Rk : Int) + ((U + n1 + 4 : Nat) : Int) ≤ (K : Int)) = true := decide_eq_true hokI
          have hokN : decide (Rk + (U + n1 + 4) ≤ K) = true := decide_eq_true (by omega)
          clear hnext hlast
          go_wp2_with fail
          refine (HV.out _).mono ?_
          rintro e w1 ⟨rfl, rfl⟩
          go_wp2_with fail
          refine (HV.out _).mono ?_
          rintro e w1 ⟨rfl, rfl⟩
          go_wp2_with fail
          go_round
          case rel => exact ⟨k + 1, by omega, by go_num, by rw [HS2.out]; go_num⟩
          case measure => simp [intOf]; omega
        · obtain rfl : k = m4 := by omega
          have hno := hlast rfl
          have hnoI : decide ((Rk : Int) + ((U + n1 + 4 : Nat) : Int) ≤ (K : Int)) = false := decide_eq_false (by omega)
          have hnoN : decide (Rk + (U + n1 + 4) ≤ K) = false := decide_eq_false (by omega)
          obtain rfl : Rk = E := by rw [← HRk.out]; exact HEE.out
          obtain ⟨x, hf1, hf2, hf3⟩ := HFin.out
          have e1 : ((Rk : Int) == (Rk : Int)) = true := by simp
          clear hnext hlast
          go_wp2_with fail
          refine (HV.out _).mono ?_
          rintro e w1 ⟨rfl, rfl⟩
          go_wp2_with fail
          refine (dsame_any c4 cap (by omega) HR4.out HT4.out).mono ?_
          rintro e w7 ⟨rfl, q, rfl⟩
          rcases hf3 with ⟨rfl, rfl⟩ | ⟨rfl, rfl⟩
          · go_wp2_with fail
            go_ret
            exact ⟨rfl, below_drewN B4 q⟩
          · go_wp2_with fail
            go_ret
            exact ⟨rfl, below_drewN B4 q⟩
      · obtain rfl : k = m4 := by omega
        obtain rfl : k = len := by omega
        obtain ⟨x, hf1, hf2, hf3⟩ := HFin.out
        rw [HEE.out]
        have e1 : ((E : Int) == (E : Int)) = true := by simp
        go_wp2_with fail
        refine (dsame_any c4 cap (by omega) HR4.out HT4.out).mono ?_
        rintro e w7 ⟨rfl, q, rfl⟩
        rcases hf3 with ⟨rfl, rfl⟩ | ⟨rfl, rfl⟩
        · go_wp2_with fail
          go_ret
          exact ⟨rfl, below_drewN B4 q⟩
        · go_wp2_with fail
          go_ret
          exact ⟨rfl, below_drewN B4 q⟩

theorem recordRows_walks : WalksTrue 6 Try.f6 := by
  intro H enc W base args ds p hval hA
  rw [Try.params6] at hA hval
  obtain ⟨v0, vs0, d0, ds0, p0, q0, hargs, rfl, rfl, h0, r0⟩ := trodAll_cons hA
  obtain ⟨v1, vs1, d1, ds1, p1, q1, rfl, rfl, rfl, h1, r1⟩ := trodAll_cons r0
  obtain ⟨rfl, rfl, rfl⟩ := trodAll_nil r1
  obtain rfl : args = #[v0, v1] := by cases args; simp_all
  obtain ⟨A0, len0, cap0, xs0, rfl, hc0, hm0, hI0⟩ := open_lists (hval 0 32 v0 rfl rfl) h0
  obtain ⟨a1, rfl, rfl, rfl, w1⟩ := open_int Try.underlying43 (hval 1 43 v1 rfl rfl) h1
  obtain ⟨g1a, g1b⟩ := range_u16 w1
  obtain ⟨n1, rfl⟩ := Int.eq_ofNat_of_zero_le g1a
  exact recordRows_walk A0 len0 cap0 xs0 hc0 hm0 n1 (by omega) W hI0

theorem recordRows_said : Rows.RecordRowsSaid :=
  OpenClaim.holds_of_wide 6 Try.f6 rfl rfl rfl rfl rfl rfl rfl ⟨rfl, rfl, rfl, rfl, rfl⟩ rfl rfl rfl rfl rfl (by kernel_rfl) Try.func6 (by kernel_rfl)
    (of_decide_eq_true (by kernel_rfl)) (by unfold Func.isWrapper; first | (rw [if_pos (by decide +kernel)]; kernel_rfl) | (rw [if_neg (by decide +kernel)]; exact ⟨rfl, rfl⟩))
    (fun os started H enc _ => law_lift (s := Rows.recordRowsSpec) Try.func6 (by kernel_rfl) rfl rfl (by intro H ds hd; match ds, hd with | [_, _], _ => exact ⟨rfl, rfl, rfl⟩) (by kernel_rfl) recordRows_walks os started H enc
      (ChangeSpec.witness6 (enc := enc) (C := Try.checked) false ⟨#[], #[.slice none 0 0, .int .u16 0], []⟩ 8 (by kernel_rfl) (by kernel_rfl) (by kernel_rfl) (by kernel_rfl)))

end Go.Proofs.Ytaabfhfiipmhcaa
