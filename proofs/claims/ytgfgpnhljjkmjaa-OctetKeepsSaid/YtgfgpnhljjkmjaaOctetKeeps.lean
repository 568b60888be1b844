/-
  PROVED HERE: 'OctetKeepsSaid': whatever b is, the Go function OctetKeeps of package wayleavelaw01 returns true, and its argument reads behind the call as it read before. No condition.
-/
import Derived.Test.YtgfgpnhljjkmjaaAwake
import Derived.Test.YtgfgpnhljjkmjaaLift
namespace Go.Proofs.Ytgfgpnhljjkmjaa
open Go.RowKit Go.Shelf Go.ChangeShapes Go.WideShapes Go.ChangeAt

theorem grownBy_set {a w : World} {g : Nat} (h : a.grownBy w (some g)) (k : Nat) (u : Value) : a.grownBy (w.setCell ⟨g, k, none⟩ u) (some g) :=
  ⟨h.os, h.tape, h.output, by simpa [World.setCell] using h.size, fun i hi hne => (Below.heap_setCell w ⟨g, k, none⟩ u i (fun e => hne (by rw [e]))).trans (h.block i hi hne)⟩

theorem Own8.frozen {w : World} {base g n c : Nat} {xs : List UInt8} (h : Own8 w base (.slice (some ⟨g, 0, none⟩) n c) xs) (j : Nat) : w.frozen? ⟨g, j, none⟩ = false := by
  rcases h.2 with ⟨e, _⟩ | ⟨g', cap', cur, e, _, hg, _⟩
  · cases e
  · cases e
    exact frozen_of_row w g j cur _ hg

set_option maxRecDepth 100000 in
set_option maxHeartbeats 4000000 in
theorem octetKeeps_walk (A : Option Addr) (len cap : Nat) (xs : List UInt8) (_ : len ≤ cap) (_ : cap ≤ maxLen) (w : World) (hI : Rd w w.heap.size A len xs) :
    Calls Try.prog 8 #[.slice A len cap] w fun e W' => e = .returned (.bool true) ∧ Below w.heap.size w W' := by
  by_cases hbig : 1000 < len
  · have hb' : (1000 : Int) < (len : Int) := by omega
    go_enter Try.func8, Try.ntmps8
    go_wp2_with fail
    refine (awake_any _).mono ?_
    rintro e w1 ⟨rfl, hb1⟩
    go_wp2_with fail
    refine (awake_any _).mono ?_
    rintro e w2 ⟨rfl, hb2⟩
    go_wp2_with fail
    go_ret
    exact ⟨rfl, hb1.trans (hb2.mono hb1.size)⟩
  · have hb' : (len : Int) ≤ 1000 := by omega
    go_enter Try.func8, Try.ntmps8
    go_wp2_with fail
    refine (awake_any _).mono ?_
    rintro e w1 ⟨rfl, hb1⟩
    have hI1 := (hI.below hb1).more hb1.size
    have how0 := (show Row8 (w1.alloc (.cells #[] 5)) w1.heap.size [] from heap_alloc_new w1 _).own (base := w1.heap.size) (Nat.le_refl _) (Nat.le_refl _) (by unfold maxLen; simp)
    go_wp2_with (at_builtin; refine wpList_append8 rfl _ _ rfl w1.heap.size _ [] (by rfl) how0 _ _ _ _ xs (by rfl) (hI1.alloc (Nat.le_refl _) _) (by simp; omega) (by simp) ?_; intro v2 w2 ho2 hgrow2 _)
    have hb2 := ((Below.refl w1.heap.size w1).alloc (Nat.le_refl _) (.cells #[] 5)).grown hgrow2 (by simp) how0.lt
    have B2 := hb1.trans (hb2.mono hb1.size)
    rw [List.nil_append] at ho2
    obtain ⟨A2, c2, rfl, hmc2, hcm2, hr2, hg2⟩ := ho2.rd
    rw [hI.len] at ho2 hmc2 hr2 hg2 ⊢
    have hz2 := hgrow2.size
    rw [World.size_alloc] at hz2
    clear how0 hgrow2 hI1
    refine (turn_any A2 len c2 xs (by omega) _ hr2).mono ?_
    rintro e w3 ⟨v3, rfl, ho3, hb3⟩
    have B3 := B2.trans (hb3.mono B2.size)
    have hr3 := (hr2.below hb3).more hb3.size
    go_wp2_with fail
    refine (padded_any A2 len c2 xs (by omega) _ hr3).mono ?_
    rintro e w4 ⟨v4, rfl, ho4, hb4⟩
    have B4 := B3.trans (hb4.mono B3.size)
    have hr4 := (hr3.below hb4).more hb4.size
    have ho34 := ho3.below hb4
    go_wp2_with fail
    refine (get_any A2 len c2 xs true (by omega) hmc2 hcm2 _ hr4).mono ?_
    rintro e w5 ⟨rfl, hb5⟩
    have B5 := B4.trans (hb5.mono B4.size)
    have hr5 := (hr4.below hb5).more hb5.size
    have ho35 := ho34.below hb5
    have ho45 := ho4.below hb5
    have hI5 := (hI.below B5).more B5.size
    go_wp2_with fail
    refine (same_any _ _ _ hr5 hI5).mono ?_
    rintro e w6 ⟨rfl, rfl⟩
    -- what the loop starts from: own's row is g; x's and y's rows lie behind it, b ahead of it
    obtain ⟨g, hA, hg0, hg1, hfz⟩ : ∃ g, (0 < len → A2 = some ⟨g, 0, none⟩) ∧ w.heap.size ≤ g ∧ g < w2.heap.size ∧ (∀ j, j < len → w5.frozen? ⟨g, j, none⟩ = false) := by
      rcases Nat.eq_zero_or_pos len with h0 | h0
      · exact ⟨w.heap.size, fun h => absurd h (by omega), Nat.le_refl _, by have := hb1.size; omega, fun j hj => absurd hj (by omega)⟩
      · obtain ⟨g, rfl, hbg⟩ := hg2 h0
        obtain ⟨b, off, e, hlt⟩ := hr2.addr h0
        cases e
        refine ⟨g, fun _ => rfl, by have := hb1.size; omega, hlt, fun j hj => ?_⟩
        rw [hb5.frozen (by have := hb3.size; have := hb4.size; show g < _; omega), hb4.frozen (by have := hb3.size; show g < _; omega), hb3.frozen (by show g < _; omega)]
        exact ho2.frozen j
    have HL := Lib.hid hI.len
    have hz3 := hb3.size
    have H4 := Lib.hid ho35
    have H5 := Lib.hid ho45
    have HB := Lib.hid B5
    have HI := Lib.hid hI
    have HF := Lib.hid hfz
    have HR := Lib.hid hr5
    have hz5 := B5.size
    clear ho2 ho3 ho4 ho34 ho35 ho45 hb2 hb3 hb4 hb5 hr2 hr3 hr4 hr5 hg2 B2 B3 B4 B5 hI hI5 hb1 hfz
    go_wp2_with fail
    go_loopw [6] (fun i wr => ∃ k : Nat, k ≤ len ∧ i = .int .i64 (k : Int) ∧ w5.grownBy wr (some g) ∧ ∀ j x, k ≤ j → xs[j]? = some x → wr.cell? ⟨g, j, none⟩ = some (v8 x) ∧ wr.frozen? ⟨g, j, none⟩ = false)
      (fun i _ => len - (intOf i).toNat)
    case atStart =>
      refine ⟨0, Nat.zero_le _, rfl, World.grownBy.refl _ _, fun j x _ hx => ?_⟩
      have hj : j < len := by
        rw [← HL.out]
        exact (List.getElem?_eq_some_iff.1 hx).1
      obtain ⟨b, off, e, _, hc⟩ := HR.out.2 (by omega)
      rw [hA (by omega)] at e
      cases e
      have := hc j x hx
      rw [Nat.zero_add] at this
      exact ⟨this, HF.out j hj⟩
    case round =>
      obtain ⟨k, hk, rfl, hgr, hcs⟩ := hrel
      by_cases hlt : k < len
      · have hlt' : (k : Int) < (len : Int) := by omega
        have hk0 : (0 : Int) ≤ (k : Int) := by omega
        obtain ⟨hc, hf⟩ := hcs k (xs[k]'(by rw [HL.out]; exact hlt)) (Nat.le_refl _) (List.getElem?_eq_getElem _)
        obtain ⟨x, hx⟩ : ∃ x, xs[k]'(by rw [HL.out]; exact hlt) = x := ⟨_, rfl⟩
        rw [hx] at hc
        unfold v8 at hc
        clear hx
        have HC := Lib.hid hcs
        clear hcs
        obtain rfl := hA (by omega)
        go_wp2_with fail
        go_roundw
        case rel =>
          refine ⟨k + 1, by omega, by go_num, grownBy_set hgr _ _, fun j y hj hy => ?_⟩
          obtain ⟨c1, c2⟩ := HC.out j y (by omega) hy
          rw [World.cell?_setCell_other _ _ _ _ (by intro e; cases e; omega), World.frozen?_setCell]
          exact ⟨c1, c2⟩
        case measure => simp [intOf]; omega
      · obtain rfl : len = k := by omega
        clear hcs hA
        have hBr : Below w.heap.size w wr := HB.out.grown hgr hz5 (fun g' e => by cases e; exact hg0)
        have hIr := (HI.out.below hBr).more hBr.size
        have ho4r := H4.out.kept hgr (.inr (fun e => by have := H4.out.lt g e; omega))
        have ho5r := H5.out.kept hgr (.inr (fun e => by have := H5.out.lt g e; omega))
        obtain ⟨A3, m3, c3, rfl, hm3, _, _, hr3⟩ := ho4r.sl
        obtain ⟨A4, m4, c4, rfl, hm4, _, _, hr4⟩ := ho5r.sl
        clear ho4r ho5r hm3 hm4
        go_wp2_with fail
        refine (rturn_any A len cap xs (by omega) _ hIr).mono ?_
        rintro e w7 ⟨v7, rfl, ho7, hb7⟩
        have B7 := hBr.trans (hb7.mono hBr.size)
        obtain ⟨A7, m7, c7, rfl, hm7, _, _, hr7⟩ := ho7.sl
        clear hm7
        go_wp2_with fail
        refine (same_any _ _ _ (hr3.below hb7) hr7).mono ?_
        rintro e w8 ⟨rfl, rfl⟩
        have hI7 := (HI.out.below B7).more B7.size
        go_wp2_with fail
        refine (rpadded_any A len cap xs (by omega) _ hI7).mono ?_
        rintro e w9 ⟨v9, rfl, ho9, hb9⟩
        have B9 := B7.trans (hb9.mono B7.size)
        obtain ⟨A9, m9, c9, rfl, hm9, _, _, hr9⟩ := ho9.sl
        clear hm9
        go_wp2_with fail
        refine (same_any _ _ _ (((hr4.below hb7).more hb7.size).below hb9) hr9).mono ?_
        rintro e w10 ⟨rfl, rfl⟩
        go_wp2_with fail
        go_ret
        exact ⟨rfl, B9⟩

theorem octetKeeps_walks : WalksTrue 8 Try.f8 := by
  intro H enc W base args ds p hval hA
  rw [Try.params8] at hA hval
  obtain ⟨v0, vs0, d0, ds0, p0, q0, hargs, rfl, rfl, h0, r0⟩ := trodAll_cons hA
  obtain ⟨rfl, rfl, rfl⟩ := trodAll_nil r0
  obtain rfl : args = #[v0] := by cases args; simp_all
  obtain ⟨A0, len0, cap0, xs0, rfl, hc0, hm0, hI0⟩ := open_bytes (hval 0 23 v0 rfl rfl) h0
  exact octetKeeps_walk A0 len0 cap0 xs0 hc0 hm0 W hI0

theorem octetKeeps_said : Rows.OctetKeepsSaid :=
  OpenClaim.holds_of_wide 8 Try.f8 rfl rfl rfl rfl rfl rfl rfl ⟨rfl, rfl, rfl, rfl, rfl⟩ rfl rfl rfl rfl rfl (by kernel_rfl) Try.func8 (by kernel_rfl)
    (of_decide_eq_true (by kernel_rfl)) (by unfold Func.isWrapper; first | (rw [if_pos (by decide +kernel)]; kernel_rfl) | (rw [if_neg (by decide +kernel)]; exact ⟨rfl, rfl⟩))
    (fun os started H enc _ => law_lift (s := Rows.octetKeepsSpec) Try.func8 (by kernel_rfl) rfl rfl (by intro H ds hd; match ds, hd with | [_], _ => exact ⟨rfl, rfl, rfl⟩) (by kernel_rfl) octetKeeps_walks os started H enc
      (ChangeSpec.witness6 (enc := enc) (C := Try.checked) false ⟨#[], #[.slice none 0 0], []⟩ 8 (by kernel_rfl) (by kernel_rfl) (by kernel_rfl) (by kernel_rfl)))

end Go.Proofs.Ytgfgpnhljjkmjaa
