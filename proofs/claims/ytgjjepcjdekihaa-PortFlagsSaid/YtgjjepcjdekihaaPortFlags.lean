/-
  PROVED HERE: 'PortFlagsSaid': whatever b, flags and words are, the Go function PortFlags of package wayleavelaw10 returns true, and its arguments read behind the call as they read before. No condition.
-/
import Derived.Test.YtgjjepcjdekihaaPOpen
namespace Go.Proofs.Ytgjjepcjdekihaa
open Go.RowKit Go.Lib Go.ChangeShapes Go.WideShapes Go.ChangeAt

theorem or_low (m r : Nat) (hm : m < 16) (hr : r < 16) : bits .or .u8 (16 * (m : Int)) (r : Int) = ((16 * m + r : Nat) : Int) := by
  have h := u8_or_nat (16 * m) r (by omega) (by omega)
  rw [show ((16 * m : Nat) : Int) = 16 * (m : Int) by omega] at h
  rw [h]
  congr 1
  exact (Nat.two_pow_add_eq_or_of_lt (i := 4) hr m).symm
/-- The bytes with a header's length and flags put in. -/
def flagged (xs : List UInt8) (z fl : Nat) : List UInt8 := (xs.set 12 (UInt8.ofNat z)).set 13 (UInt8.ofNat fl)
theorem flagged_facts (xs : List UInt8) (h : 20 ≤ xs.length) (m fl : Nat) (hm : m < 16) (hfl : fl < 256) :
    (flagged xs (16 * m + batN xs 12 % 16) fl).length = xs.length ∧ hlN (flagged xs (16 * m + batN xs 12 % 16) fl) = 4 * m ∧ poT (flagged xs (16 * m + batN xs 12 % 16) fl) = ⟨wat xs 0, wat xs 2, fl % 64, 4 * m, xs.length⟩ := by
  have hl : (flagged xs (16 * m + batN xs 12 % 16) fl).length = xs.length := by unfold flagged; rw [List.length_set, List.length_set]
  have h12 : batN (flagged xs (16 * m + batN xs 12 % 16) fl) 12 = 16 * m + batN xs 12 % 16 := by
    unfold flagged
    rw [batN_set_ne _ _ (by decide), batN_set _ _ (by omega), u8nat (by omega)]
  have h13 : batN (flagged xs (16 * m + batN xs 12 % 16) fl) 13 = fl := by
    unfold flagged
    rw [batN_set _ _ (by rw [List.length_set]; omega), u8nat hfl]
  have hk : ∀ j, j < 12 → batN (flagged xs (16 * m + batN xs 12 % 16) fl) j = batN xs j := by
    intro j hj
    unfold flagged
    rw [batN_set_ne _ _ (by omega), batN_set_ne _ _ (by omega)]
  have hh : hlN (flagged xs (16 * m + batN xs 12 % 16) fl) = 4 * m := by unfold hlN; rw [h12]; omega
  refine ⟨hl, hh, ?_⟩
  unfold poT
  rw [hl, hh, h13]
  unfold wat
  rw [hk 0 (by omega), hk 1 (by omega), hk 2 (by omega), hk 3 (by omega)]

set_option maxRecDepth 100000 in
set_option maxHeartbeats 8000000 in
theorem portFlags_walk (A : Option Addr) (len cap : Nat) (xs : List UInt8) (hcap : len ≤ cap) (hcm : cap ≤ maxLen) (fl : Nat) (hfl : fl < 256) (wd : Nat) (hwd : wd < 256) (w : World) (hI : Rd w w.heap.size A len xs) :
    Calls Try.prog 7 #[.slice A len cap, .int .u8 (fl : Int), .int .u8 (wd : Int)] w fun e w' => e = .returned (.bool true) ∧ Below w.heap.size w w' := by
  have hml : len ≤ 9223372036854775807 := by unfold maxLen at hcm; omega
  have HL := Lib.hid hI.len
  have HI := Lib.hid hI
  clear hI
  go_enter Try.func7, Try.ntmps7
  go_wp2_with fail
  refine (awake_any _).mono ?_
  rintro e w1 ⟨rfl, hb1⟩
  have HB1 := Lib.hid hb1
  clear hb1
  by_cases hlow : len < 20
  · have h1 : (len : Int) < 20 := by omega
    go_wp2_with fail
    refine (awake_any _).mono ?_
    rintro e w2 ⟨rfl, hb2⟩
    have HB2 := Lib.hid (HB1.out.trans (hb2.mono HB1.out.size))
    clear hb2
    go_wp2_with fail
    go_ret
    exact ⟨rfl, HB2.out⟩
  · by_cases hbig : 1000 < len
    · have h1 : ¬ (len : Int) < 20 := by omega
      have h2 : (1000 : Int) < (len : Int) := by omega
      go_wp2_with fail
      refine (awake_any _).mono ?_
      rintro e w2 ⟨rfl, hb2⟩
      have HB2 := Lib.hid (HB1.out.trans (hb2.mono HB1.out.size))
      clear hb2
      go_wp2_with fail
      go_ret
      exact ⟨rfl, HB2.out⟩
    · have h1 : ¬ (len : Int) < 20 := by omega
      have h2 : ¬ (1000 : Int) < (len : Int) := by omega
      obtain ⟨m, hm⟩ : ∃ m, wd % 16 = m := ⟨_, rfl⟩
      have hm16 : m < 16 := by omega
      obtain ⟨r, hr⟩ : ∃ r, batN xs 12 % 16 = r := ⟨_, rfl⟩
      have hr16 : r < 16 := by omega
      obtain ⟨z, hz⟩ : ∃ z, 16 * m + r = z := ⟨_, rfl⟩
      have hz256 : z < 256 := by omega
      have hff := flagged_facts xs (by rw [HL.out]; omega) m fl hm16 hfl
      rw [hr, hz, HL.out] at hff
      have HCL := Lib.hid hff.1
      have HCH := Lib.hid hff.2.1
      have HCP := Lib.hid hff.2.2
      have HFE : Hid ((xs.set 12 (UInt8.ofNat z)).set 13 (UInt8.ofNat fl) = flagged xs z fl) := Lib.hid rfl
      have HS1 := Lib.hid (show (xs.set 12 (UInt8.ofNat z)).length = len by rw [List.length_set]; exact HL.out)
      have hor : bits .or .u8 (16 * (m : Int)) (r : Int) = (z : Int) := by rw [or_low m r hm16 hr16, hz]
      have hx12 := batN_lt xs 12
      have hand : bits .and .u8 (batN xs 12 : Int) 15 = (r : Int) := by
        have : bits .and .u8 (batN xs 12 : Int) 15 = (batN xs 12 : Int) % 16 := bits_mask .u8 8 (by decide) wraps_u8 4 (by decide) _ (by omega) (by omega)
        rw [this]; omega
      have htm : Int.tmod (wd : Int) 16 = (m : Int) := by rw [Int.tmod_eq_emod_of_nonneg (by omega)]; omega
      have hem : (wd : Int) % 16 = (m : Int) := by omega
      have hw1 : IntKind.i64.wrap (16 * (m : Int)) = 16 * (m : Int) := by rw [IntKind.wrap_i64]; omega
      have hw2 : IntKind.u8.wrap (16 * (m : Int)) = 16 * (m : Int) := by rw [IntKind.wrap_u8]; omega
      have hw3 : IntKind.i64.wrap (4 * (m : Int)) = 4 * (m : Int) := by rw [IntKind.wrap_i64]; omega
      have hw4 : IntKind.i64.wrap (m : Int) = (m : Int) := by rw [IntKind.wrap_i64]; omega
      have HZV := Lib.hid (show (z : Int) = ((UInt8.ofNat z).toNat : Int) by rw [u8nat hz256])
      have HFV := Lib.hid (show (fl : Int) = ((UInt8.ofNat fl).toNat : Int) by rw [u8nat hfl])
      have HR := Lib.hid (fun (A : Option Addr) (c : Nat) (h1 : len ≤ c) (h2 : c ≤ maxLen) W (hI : Rd W W.heap.size A len (flagged xs z fl)) => read_any (cap := c) 6 (by omega) h1 h2 W hI)
      have HE := Lib.hid (empty8 (base := w1.heap.size) w1 (Nat.le_refl _))
      have HI1 := Lib.hid ((HI.out.below HB1.out).more HB1.out.size)
      have l12 : (12 : Int) < (len : Int) := by omega
      have l13 : (13 : Int) < (len : Int) := by omega
      have n12 : 12 < len := by omega
      have n13 : 13 < len := by omega
      clear hff hr hz
      obtain ⟨x12, hx⟩ : ∃ x, batN xs 12 = x := ⟨_, rfl⟩
      rw [hx] at hand hx12
      have HX := Lib.hid hx
      clear hx
      go_wp2_with (first
        | (at_builtin; refine wpList_append8 (o := ⟨some 26, _, _, _, _, _⟩) rfl _ _ rfl w1.heap.size _ [] (by rfl) HE.out _ A len cap xs (by rfl) (HI1.out.alloc (Nat.le_refl _) _) (by simp; omega) (by simp) ?_; intro v3 w3 ho3 hg3 _; rw [List.nil_append] at ho3; obtain ⟨g, cg, rfl, hcg, hmg, hgb, hgl, hrd⟩ := ho3.formG HL.out (by omega); have HO3 := Lib.hid ho3; have hbb := ((Below.refl _ w1).alloc (Nat.le_refl _) (.cells #[] 5)).grown hg3 (by simp) HE.out.lt; have HB3 := Lib.hid (HB1.out.trans (hbb.mono HB1.out.size)); have c12 := hrd.cellD n12; rw [HX.out] at c12; simp only [Nat.zero_add] at c12; clear ho3 hg3 hbb hrd)
        | ((with_reducible show wpList _ _ _ _ _ _); refine wpList_storeO rfl (.tmp 39) _ rfl g 12 (by rfl) (UInt8.ofNat z) (z : Int) HZV.out (by rfl) xs len cg w1.heap.size HL.out HO3.out n12 ?_; intro w4 ho4 hb4; have HO4 := Lib.hid ho4; have HB4 := Lib.hid (HB3.out.trans (hb4.mono (Nat.le_trans HB1.out.size hgb))); clear ho4 hb4)
        | ((with_reducible show wpList _ _ _ _ _ _); refine wpList_storeO rfl (.tmp 42) _ rfl g 13 (by rfl) (UInt8.ofNat fl) (fl : Int) HFV.out (by rfl) (xs.set 12 (UInt8.ofNat z)) len cg w1.heap.size HS1.out HO4.out n13 ?_; intro w5 ho5 hb5; rw [HFE.out] at ho5; have HO5 := Lib.hid ho5; have HB5 := Lib.hid (HB4.out.trans (hb5.mono (Nat.le_trans HB1.out.size hgb))); clear ho5 hb5))
      have hrd5 : Rd w5 w5.heap.size (some ⟨g, 0, none⟩) len (flagged xs z fl) := by
        obtain ⟨g', c', e, _, _, _, _, h⟩ := HO5.out.formG HCL.out (by omega)
        cases e
        exact h
      refine (HR.out _ cg hcg hmg w5 hrd5).mono ?_
      rintro e w6 ⟨rfl, hb6⟩
      have HB6 := Lib.hid (HB5.out.trans (hb6.mono HB5.out.size))
      clear hb6 hrd5 c12 HO3 HO4 HO5
      have n1 := Lib.hid (show ¬ (flagged xs z fl).length < 20 by rw [HCL.out]; omega)
      by_cases h5 : m < 5
      · have E : faultP 6 (flagged xs z fl) = 3 := by show faultT _ = 3; unfold faultT; rw [if_neg n1.out, HCH.out, if_pos (by omega)]
        rw [rdP_no (by rw [E]; decide), E]
        have h5' : (m : Int) < 5 := by omega
        clear E
        go_wp2_with (first
          | ((with_reducible show wpList _ _ _ _ _ _); refine wpList_storeNew rfl _ _ rfl (by rfl) Po.zero (by rfl) ?_; intro w7 hp7 hb7 hz7; clear hz7; have HB7 := Lib.hid (HB6.out.trans (hb7.mono HB6.out.size)); have HP7 := Lib.hid hp7; clear hp7 hb7)
          | ((with_reducible show wpList _ _ _ _ _ _); refine wpList_loadP _ rfl (by rfl) w6.heap.size (by rfl) Po.zero HP7.out ?_)
          | ((with_reducible show wpList _ _ _ _ _ _); refine wpList_buildw 25 _ rfl (by rfl) _ (by kernel_rfl) (poL Po.zero).toArray (by kernel_rfl) ?_)
          | ((with_reducible show wpList _ _ _ _ _ _); refine wpList_eqlw 25 _ _ _ rfl (by rfl) (poL Po.zero).toArray (poL Po.zero).toArray (by rfl) (by rfl) guard_po true (fun W => run_eql_po W _) ?_))
        go_ret
        exact ⟨rfl, HB7.out⟩
      · have h5' : ¬ (m : Int) < 5 := by omega
        by_cases h6 : len < 4 * m
        · have E : faultP 6 (flagged xs z fl) = 2 := by show faultT _ = 2; unfold faultT; rw [if_neg n1.out, HCH.out, if_neg (by omega), HCL.out, if_pos h6]
          rw [rdP_no (by rw [E]; decide), E]
          have h6' : (len : Int) < 4 * (m : Int) := by omega
          clear E
          go_wp2_with (first
            | ((with_reducible show wpList _ _ _ _ _ _); refine wpList_storeNew rfl _ _ rfl (by rfl) Po.zero (by rfl) ?_; intro w7 hp7 hb7 hz7; clear hz7; have HB7 := Lib.hid (HB6.out.trans (hb7.mono HB6.out.size)); have HP7 := Lib.hid hp7; clear hp7 hb7)
            | ((with_reducible show wpList _ _ _ _ _ _); refine wpList_loadP _ rfl (by rfl) w6.heap.size (by rfl) Po.zero HP7.out ?_)
            | ((with_reducible show wpList _ _ _ _ _ _); refine wpList_buildw 25 _ rfl (by rfl) _ (by kernel_rfl) (poL Po.zero).toArray (by kernel_rfl) ?_)
            | ((with_reducible show wpList _ _ _ _ _ _); refine wpList_eqlw 25 _ _ _ rfl (by rfl) (poL Po.zero).toArray (poL Po.zero).toArray (by rfl) (by rfl) guard_po true (fun W => run_eql_po W _) ?_))
          go_ret
          exact ⟨rfl, HB7.out⟩
        · have E : faultP 6 (flagged xs z fl) = 0 := by show faultT _ = 0; unfold faultT; rw [if_neg n1.out, HCH.out, if_neg (by omega), HCL.out, if_neg h6]
          rw [rdP_T E, E, HCP.out]
          have h6' : ¬ (len : Int) < 4 * (m : Int) := by omega
          clear E
          go_wp2_with ((with_reducible show wpList _ _ _ _ _ _); refine wpList_storeNew rfl _ _ rfl (by rfl) ⟨wat xs 0, wat xs 2, fl % 64, 4 * m, len⟩ (by rfl) ?_; intro w7 hp7 hb7 hz7; clear hz7; have HB7 := Lib.hid (HB6.out.trans (hb7.mono HB6.out.size)); have HP7 := Lib.hid hp7; clear hp7 hb7)
          obtain ⟨bb, off, rfl, _⟩ := HI.out.addr (by omega)
          have HX0 := Lib.hid (fun W (hW : Below w7.heap.size w7 W) => (HI.out.below (HB7.out.trans (hW.mono HB7.out.size))).cellD (k := 0) (by omega))
          have HX1 := Lib.hid (fun W (hW : Below w7.heap.size w7 W) => (HI.out.below (HB7.out.trans (hW.mono HB7.out.size))).cellD (k := 1) (by omega))
          have HX2 := Lib.hid (fun W (hW : Below w7.heap.size w7 W) => (HI.out.below (HB7.out.trans (hW.mono HB7.out.size))).cellD (k := 2) (by omega))
          have HX3 := Lib.hid (fun W (hW : Below w7.heap.size w7 W) => (HI.out.below (HB7.out.trans (hW.mono HB7.out.size))).cellD (k := 3) (by omega))
          simp only [Nat.add_zero] at HX0
          have y0 := batN_lt xs 0
          have y1 := batN_lt xs 1
          have y2 := batN_lt xs 2
          have y3 := batN_lt xs 3
          have HBU : Hid (Try.prog.built 25 [(0, .int .i64 (256 * (batN xs 0 : Int) + (batN xs 1 : Int))), (1, .int .i64 (256 * (batN xs 2 : Int) + (batN xs 3 : Int))), (2, .int .i64 ((fl : Int) % 64)), (3, .int .i64 (4 * (m : Int))), (4, .int .i64 (len : Int))] = some (poL ⟨wat xs 0, wat xs 2, fl % 64, 4 * m, len⟩).toArray) := Lib.hid (by kernel_rfl)
          generalize batN xs 0 = x0 at *
          generalize batN xs 1 = x1 at *
          generalize batN xs 2 = x2 at *
          generalize batN xs 3 = x3 at *
          have l0 : (0 : Int) < (len : Int) := by omega
          have ln0 : ¬ len = 0 := by omega
          have l1 : (1 : Int) < (len : Int) := by omega
          have l2 : (2 : Int) < (len : Int) := by omega
          have l3 : (3 : Int) < (len : Int) := by omega
          have v0 : IntKind.i64.wrap (256 * (x0 : Int)) = 256 * (x0 : Int) := by rw [IntKind.wrap_i64]; omega
          have v1 : IntKind.i64.wrap (256 * (x0 : Int) + (x1 : Int)) = 256 * (x0 : Int) + (x1 : Int) := by rw [IntKind.wrap_i64]; omega
          have v2 : IntKind.i64.wrap (256 * (x2 : Int)) = 256 * (x2 : Int) := by rw [IntKind.wrap_i64]; omega
          have v3 : IntKind.i64.wrap (256 * (x2 : Int) + (x3 : Int)) = 256 * (x2 : Int) + (x3 : Int) := by rw [IntKind.wrap_i64]; omega
          have v4 : IntKind.i64.wrap (fl : Int) = (fl : Int) := by rw [IntKind.wrap_i64]; omega
          have v5 : Int.tmod (fl : Int) 64 = (fl : Int) % 64 := Int.tmod_eq_emod_of_nonneg (by omega)
          have v6 : IntKind.i64.wrap ((fl : Int) % 64) = (fl : Int) % 64 := by rw [IntKind.wrap_i64]; omega
          have u0 : IntKind.i64.wrap (x0 : Int) = (x0 : Int) := by rw [IntKind.wrap_i64]; omega
          have u1 : IntKind.i64.wrap (x1 : Int) = (x1 : Int) := by rw [IntKind.wrap_i64]; omega
          have u2 : IntKind.i64.wrap (x2 : Int) = (x2 : Int) := by rw [IntKind.wrap_i64]; omega
          have u3 : IntKind.i64.wrap (x3 : Int) = (x3 : Int) := by rw [IntKind.wrap_i64]; omega
          refine wp_region_held_drew (S := fun W => Below w7.heap.size w7 W) (by kernel_rfl) ((Below.refl _ _).drew) (fun hHeld => ?_)
          refine wpAnyH_take (i := 0) (oi := ⟨some 69, _, _, _, _, _⟩) (v := .int .i64 0) rfl (by kernel_rfl) (by kernel_rfl) (by kernel_rfl) (fun _ _ _ h => h) (Or.inl ⟨by rfl, fun _ _ => by go_simp⟩) hHeld ?_
          simp only [Act.put, List.setIfInBounds_toArray, List.set_cons_zero, List.set_cons_succ]
          refine wpAnyH_take (i := 1) (oi := ⟨some 70, _, _, _, _, _⟩) (v := .bool true) rfl (by kernel_rfl) (by kernel_rfl) (by kernel_rfl) (fun _ _ _ h => h) (Or.inl ⟨by rfl, fun _ _ => by go_simp⟩) hHeld ?_
          simp only [Act.put, List.setIfInBounds_toArray, List.set_cons_zero, List.set_cons_succ]
          refine wpAnyH_take (i := 2) (oi := ⟨some 71, _, _, _, _, _⟩) (v := .bool true) rfl (by kernel_rfl) (by kernel_rfl) (by kernel_rfl) (fun _ _ _ h => h) (Or.inl ⟨by rfl, fun _ _ => by go_simp⟩) hHeld ?_
          simp only [Act.put, List.setIfInBounds_toArray, List.set_cons_zero, List.set_cons_succ]
          refine wpAnyH_take (i := 3) (oi := ⟨some 72, _, _, _, _, _⟩) (v := .agg (poL ⟨wat xs 0, wat xs 2, fl % 64, 4 * m, len⟩).toArray) rfl (by kernel_rfl) (by kernel_rfl) (by kernel_rfl) (fun _ _ _ h => h) (yieldsIf_load_mid (by rfl) 25 _ rfl w6.heap.size 0 (by rfl) (poL ⟨wat xs 0, wat xs 2, fl % 64, 4 * m, len⟩) _ (fun W hW => (HP7.out.below HP7.out.lt hW).range) Try.underlying25 rfl (sizePoL _)) hHeld ?_
          simp only [Act.put, List.setIfInBounds_toArray, List.set_cons_zero, List.set_cons_succ]
          refine wpAnyH_take (i := 4) (oi := ⟨some 73, _, _, _, _, _⟩) (v := .slice (some ⟨bb, off, none⟩) len cap) rfl (by kernel_rfl) (by kernel_rfl) (by kernel_rfl) (fun _ _ _ h => h) (Or.inl ⟨by rfl, fun _ _ => by go_simp⟩) hHeld ?_
          simp only [Act.put, List.setIfInBounds_toArray, List.set_cons_zero, List.set_cons_succ]
          refine wpAnyH_take (i := 5) (oi := ⟨some 74, _, _, _, _, _⟩) (v := .pointer (some ⟨bb, off, none⟩)) rfl (by kernel_rfl) (by kernel_rfl) (by kernel_rfl) (fun _ _ _ h => h) (Or.inl ⟨by rfl, fun _ _ => by go_simp⟩) hHeld ?_
          simp only [Act.put, List.setIfInBounds_toArray, List.set_cons_zero, List.set_cons_succ]
          refine wpAnyH_take (i := 6) (oi := ⟨some 75, _, _, _, _, _⟩) (v := .int .u8 (x0 : Int)) rfl (by kernel_rfl) (by kernel_rfl) (by kernel_rfl) (fun _ _ _ h => h) (Or.inl ⟨by rfl, fun W hW => by have hc := HX0.out W hW; go_simp⟩) hHeld ?_
          simp only [Act.put, List.setIfInBounds_toArray, List.set_cons_zero, List.set_cons_succ]
          refine wpAnyH_take (i := 7) (oi := ⟨some 76, _, _, _, _, _⟩) (v := .int .i64 (x0 : Int)) rfl (by kernel_rfl) (by kernel_rfl) (by kernel_rfl) (fun _ _ _ h => h) (Or.inl ⟨by rfl, fun _ _ => by go_simp⟩) hHeld ?_
          simp only [Act.put, List.setIfInBounds_toArray, List.set_cons_zero, List.set_cons_succ]
          refine wpAnyH_take (i := 8) (oi := ⟨some 77, _, _, _, _, _⟩) (v := .int .i64 (256 * (x0 : Int))) rfl (by kernel_rfl) (by kernel_rfl) (by kernel_rfl) (fun _ _ _ h => h) (Or.inl ⟨by rfl, fun _ _ => by go_simp⟩) hHeld ?_
          simp only [Act.put, List.setIfInBounds_toArray, List.set_cons_zero, List.set_cons_succ]
          refine wpAnyH_take (i := 9) (oi := ⟨some 78, _, _, _, _, _⟩) (v := .slice (some ⟨bb, off, none⟩) len cap) rfl (by kernel_rfl) (by kernel_rfl) (by kernel_rfl) (fun _ _ _ h => h) (Or.inl ⟨by rfl, fun _ _ => by go_simp⟩) hHeld ?_
          simp only [Act.put, List.setIfInBounds_toArray, List.set_cons_zero, List.set_cons_succ]
          refine wpAnyH_take (i := 10) (oi := ⟨some 79, _, _, _, _, _⟩) (v := .pointer (some ⟨bb, off + 1, none⟩)) rfl (by kernel_rfl) (by kernel_rfl) (by kernel_rfl) (fun _ _ _ h => h) (Or.inl ⟨by rfl, fun _ _ => by go_simp⟩) hHeld ?_
          simp only [Act.put, List.setIfInBounds_toArray, List.set_cons_zero, List.set_cons_succ]
          refine wpAnyH_take (i := 11) (oi := ⟨some 80, _, _, _, _, _⟩) (v := .int .u8 (x1 : Int)) rfl (by kernel_rfl) (by kernel_rfl) (by kernel_rfl) (fun _ _ _ h => h) (Or.inl ⟨by rfl, fun W hW => by have hc := HX1.out W hW; go_simp⟩) hHeld ?_
          simp only [Act.put, List.setIfInBounds_toArray, List.set_cons_zero, List.set_cons_succ]
          refine wpAnyH_take (i := 12) (oi := ⟨some 81, _, _, _, _, _⟩) (v := .int .i64 (x1 : Int)) rfl (by kernel_rfl) (by kernel_rfl) (by kernel_rfl) (fun _ _ _ h => h) (Or.inl ⟨by rfl, fun _ _ => by go_simp⟩) hHeld ?_
          simp only [Act.put, List.setIfInBounds_toArray, List.set_cons_zero, List.set_cons_succ]
          refine wpAnyH_take (i := 13) (oi := ⟨some 82, _, _, _, _, _⟩) (v := .int .i64 (256 * (x0 : Int) + (x1 : Int))) rfl (by kernel_rfl) (by kernel_rfl) (by kernel_rfl) (fun _ _ _ h => h) (Or.inl ⟨by rfl, fun _ _ => by go_simp⟩) hHeld ?_
          simp only [Act.put, List.setIfInBounds_toArray, List.set_cons_zero, List.set_cons_succ]
          refine wpAnyH_take (i := 14) (oi := ⟨some 83, _, _, _, _, _⟩) (v := .slice (some ⟨bb, off, none⟩) len cap) rfl (by kernel_rfl) (by kernel_rfl) (by kernel_rfl) (fun _ _ _ h => h) (Or.inl ⟨by rfl, fun _ _ => by go_simp⟩) hHeld ?_
          simp only [Act.put, List.setIfInBounds_toArray, List.set_cons_zero, List.set_cons_succ]
          refine wpAnyH_take (i := 15) (oi := ⟨some 84, _, _, _, _, _⟩) (v := .pointer (some ⟨bb, off + 2, none⟩)) rfl (by kernel_rfl) (by kernel_rfl) (by kernel_rfl) (fun _ _ _ h => h) (Or.inl ⟨by rfl, fun _ _ => by go_simp⟩) hHeld ?_
          simp only [Act.put, List.setIfInBounds_toArray, List.set_cons_zero, List.set_cons_succ]
          refine wpAnyH_take (i := 16) (oi := ⟨some 85, _, _, _, _, _⟩) (v := .int .u8 (x2 : Int)) rfl (by kernel_rfl) (by kernel_rfl) (by kernel_rfl) (fun _ _ _ h => h) (Or.inl ⟨by rfl, fun W hW => by have hc := HX2.out W hW; go_simp⟩) hHeld ?_
          simp only [Act.put, List.setIfInBounds_toArray, List.set_cons_zero, List.set_cons_succ]
          refine wpAnyH_take (i := 17) (oi := ⟨some 86, _, _, _, _, _⟩) (v := .int .i64 (x2 : Int)) rfl (by kernel_rfl) (by kernel_rfl) (by kernel_rfl) (fun _ _ _ h => h) (Or.inl ⟨by rfl, fun _ _ => by go_simp⟩) hHeld ?_
          simp only [Act.put, List.setIfInBounds_toArray, List.set_cons_zero, List.set_cons_succ]
          refine wpAnyH_take (i := 18) (oi := ⟨some 87, _, _, _, _, _⟩) (v := .int .i64 (256 * (x2 : Int))) rfl (by kernel_rfl) (by kernel_rfl) (by kernel_rfl) (fun _ _ _ h => h) (Or.inl ⟨by rfl, fun _ _ => by go_simp⟩) hHeld ?_
          simp only [Act.put, List.setIfInBounds_toArray, List.set_cons_zero, List.set_cons_succ]
          refine wpAnyH_take (i := 19) (oi := ⟨some 88, _, _, _, _, _⟩) (v := .slice (some ⟨bb, off, none⟩) len cap) rfl (by kernel_rfl) (by kernel_rfl) (by kernel_rfl) (fun _ _ _ h => h) (Or.inl ⟨by rfl, fun _ _ => by go_simp⟩) hHeld ?_
          simp only [Act.put, List.setIfInBounds_toArray, List.set_cons_zero, List.set_cons_succ]
          refine wpAnyH_take (i := 20) (oi := ⟨some 89, _, _, _, _, _⟩) (v := .pointer (some ⟨bb, off + 3, none⟩)) rfl (by kernel_rfl) (by kernel_rfl) (by kernel_rfl) (fun _ _ _ h => h) (Or.inl ⟨by rfl, fun _ _ => by go_simp⟩) hHeld ?_
          simp only [Act.put, List.setIfInBounds_toArray, List.set_cons_zero, List.set_cons_succ]
          refine wpAnyH_take (i := 21) (oi := ⟨some 90, _, _, _, _, _⟩) (v := .int .u8 (x3 : Int)) rfl (by kernel_rfl) (by kernel_rfl) (by kernel_rfl) (fun _ _ _ h => h) (Or.inl ⟨by rfl, fun W hW => by have hc := HX3.out W hW; go_simp⟩) hHeld ?_
          simp only [Act.put, List.setIfInBounds_toArray, List.set_cons_zero, List.set_cons_succ]
          refine wpAnyH_take (i := 22) (oi := ⟨some 91, _, _, _, _, _⟩) (v := .int .i64 (x3 : Int)) rfl (by kernel_rfl) (by kernel_rfl) (by kernel_rfl) (fun _ _ _ h => h) (Or.inl ⟨by rfl, fun _ _ => by go_simp⟩) hHeld ?_
          simp only [Act.put, List.setIfInBounds_toArray, List.set_cons_zero, List.set_cons_succ]
          refine wpAnyH_take (i := 23) (oi := ⟨some 92, _, _, _, _, _⟩) (v := .int .i64 (256 * (x2 : Int) + (x3 : Int))) rfl (by kernel_rfl) (by kernel_rfl) (by kernel_rfl) (fun _ _ _ h => h) (Or.inl ⟨by rfl, fun _ _ => by go_simp⟩) hHeld ?_
          simp only [Act.put, List.setIfInBounds_toArray, List.set_cons_zero, List.set_cons_succ]
          refine wpAnyH_take (i := 24) (oi := ⟨some 93, _, _, _, _, _⟩) (v := .int .u8 (fl : Int)) rfl (by kernel_rfl) (by kernel_rfl) (by kernel_rfl) (fun _ _ _ h => h) (Or.inl ⟨by rfl, fun _ _ => by go_simp⟩) hHeld ?_
          simp only [Act.put, List.setIfInBounds_toArray, List.set_cons_zero, List.set_cons_succ]
          refine wpAnyH_take (i := 25) (oi := ⟨some 94, _, _, _, _, _⟩) (v := .int .i64 (fl : Int)) rfl (by kernel_rfl) (by kernel_rfl) (by kernel_rfl) (fun _ _ _ h => h) (Or.inl ⟨by rfl, fun _ _ => by go_simp⟩) hHeld ?_
          simp only [Act.put, List.setIfInBounds_toArray, List.set_cons_zero, List.set_cons_succ]
          refine wpAnyH_take (i := 26) (oi := ⟨some 95, _, _, _, _, _⟩) (v := .int .i64 ((fl : Int) % 64)) rfl (by kernel_rfl) (by kernel_rfl) (by kernel_rfl) (fun _ _ _ h => h) (Or.inl ⟨by rfl, fun _ _ => by go_simp⟩) hHeld ?_
          simp only [Act.put, List.setIfInBounds_toArray, List.set_cons_zero, List.set_cons_succ]
          refine wpAnyH_take (i := 27) (oi := ⟨some 96, _, _, _, _, _⟩) (v := .int .i64 (m : Int)) rfl (by kernel_rfl) (by kernel_rfl) (by kernel_rfl) (fun _ _ _ h => h) (Or.inl ⟨by rfl, fun _ _ => by go_simp⟩) hHeld ?_
          simp only [Act.put, List.setIfInBounds_toArray, List.set_cons_zero, List.set_cons_succ]
          refine wpAnyH_take (i := 28) (oi := ⟨some 97, _, _, _, _, _⟩) (v := .int .i64 (4 * (m : Int))) rfl (by kernel_rfl) (by kernel_rfl) (by kernel_rfl) (fun _ _ _ h => h) (Or.inl ⟨by rfl, fun _ _ => by go_simp⟩) hHeld ?_
          simp only [Act.put, List.setIfInBounds_toArray, List.set_cons_zero, List.set_cons_succ]
          refine wpAnyH_take (i := 29) (oi := ⟨some 98, _, _, _, _, _⟩) (v := .slice (some ⟨bb, off, none⟩) len cap) rfl (by kernel_rfl) (by kernel_rfl) (by kernel_rfl) (fun _ _ _ h => h) (Or.inl ⟨by rfl, fun _ _ => by go_simp⟩) hHeld ?_
          simp only [Act.put, List.setIfInBounds_toArray, List.set_cons_zero, List.set_cons_succ]
          refine wpAnyH_take (i := 30) (oi := ⟨some 99, _, _, _, _, _⟩) (v := .int .i64 (len : Int)) rfl (by kernel_rfl) (by kernel_rfl) (by kernel_rfl) (fun _ _ _ h => h) (Or.inl ⟨by rfl, fun _ _ => by go_simp⟩) hHeld ?_
          simp only [Act.put, List.setIfInBounds_toArray, List.set_cons_zero, List.set_cons_succ]
          refine wpAnyH_take (i := 31) (oi := ⟨some 100, _, _, _, _, _⟩) (v := .agg (poL ⟨wat xs 0, wat xs 2, fl % 64, 4 * m, len⟩).toArray) rfl (by kernel_rfl) (by kernel_rfl) (by kernel_rfl) (fun _ _ _ h => h) (yields_build (by rfl) 25 _ rfl [(0, .int .i64 (256 * (x0 : Int) + (x1 : Int))), (1, .int .i64 (256 * (x2 : Int) + (x3 : Int))), (2, .int .i64 ((fl : Int) % 64)), (3, .int .i64 (4 * (m : Int))), (4, .int .i64 (len : Int))] (by kernel_rfl) _ HBU.out) hHeld ?_
          simp only [Act.put, List.setIfInBounds_toArray, List.set_cons_zero, List.set_cons_succ]
          refine wpAnyH_take (i := 32) (oi := ⟨some 101, _, _, _, _, _⟩) (v := .bool true) rfl (by kernel_rfl) (by kernel_rfl) (by kernel_rfl) (fun _ _ _ h => h) (yields_eql (by rfl) 25 _ _ _ rfl (poL ⟨wat xs 0, wat xs 2, fl % 64, 4 * m, len⟩).toArray (poL ⟨wat xs 0, wat xs 2, fl % 64, 4 * m, len⟩).toArray (by rfl) (by rfl) guard_po true (fun W => run_eql_po W _)) hHeld ?_
          simp only [Act.put, List.setIfInBounds_toArray, List.set_cons_zero, List.set_cons_succ]
          refine wpAnyH_take (i := 33) (oi := ⟨some 102, _, _, _, _, _⟩) (v := .bool true) rfl (by kernel_rfl) (by kernel_rfl) (by kernel_rfl) (fun _ _ _ h => h) (Or.inl ⟨by rfl, fun _ _ => by go_simp⟩) hHeld ?_
          simp only [Act.put, List.setIfInBounds_toArray, List.set_cons_zero, List.set_cons_succ]
          refine wpAnyH_take (i := 34) (oi := ⟨some 6, _, _, _, _, _⟩) (v := .bool true) rfl (by kernel_rfl) (by kernel_rfl) (by kernel_rfl) (fun _ _ _ h => h) (Or.inl ⟨by rfl, fun _ _ => by go_simp⟩) hHeld ?_
          simp only [Act.put, List.setIfInBounds_toArray, List.set_cons_zero, List.set_cons_succ]
          refine wpAnyH_done (by kernel_rfl) ?_ _
          go_wp2_with fail
          go_ret
          exact ⟨rfl, HB7.out.trans (hHeld.mono HB7.out.size)⟩

theorem portFlags_walks : WalksTrue 7 Try.f7 := by
  intro H enc W base args ds p hval hA
  rw [Try.params7] at hA hval
  obtain ⟨v0, vs0, d0, ds0, p0, q0, hargs, rfl, rfl, h0, r0⟩ := trodAll_cons hA
  obtain ⟨v1, vs1, d1, ds1, p1, q1, rfl, rfl, rfl, h1, r1⟩ := trodAll_cons r0
  obtain ⟨v2, vs2, d2, ds2, p2, q2, rfl, rfl, rfl, h2, r2⟩ := trodAll_cons r1
  obtain ⟨rfl, rfl, rfl⟩ := trodAll_nil r2
  obtain rfl : args = #[v0, v1, v2] := by cases args; simp_all
  obtain ⟨A0, len0, cap0, xs0, rfl, hc0, hm0, hI0⟩ := open_bytes (hval 0 22 v0 rfl rfl) h0
  obtain ⟨a1, rfl, rfl, rfl, w1⟩ := open_int Try.underlying5 (hval 1 5 v1 rfl rfl) h1
  obtain ⟨g1a, g1b⟩ := range_u8 w1
  obtain ⟨n1, rfl⟩ := Int.eq_ofNat_of_zero_le g1a
  obtain ⟨a2, rfl, rfl, rfl, w2⟩ := open_int Try.underlying5 (hval 2 5 v2 rfl rfl) h2
  obtain ⟨g2a, g2b⟩ := range_u8 w2
  obtain ⟨n2, rfl⟩ := Int.eq_ofNat_of_zero_le g2a
  exact portFlags_walk A0 len0 cap0 xs0 hc0 hm0 n1 (by omega) n2 (by omega) W hI0

theorem portFlags_said : Rows.PortFlagsSaid :=
  OpenClaim.holds_of_wide 7 Try.f7 rfl rfl rfl rfl rfl rfl rfl ⟨rfl, rfl, rfl, rfl, rfl⟩ rfl rfl rfl rfl rfl (by kernel_rfl) Try.func7 (by kernel_rfl)
    (of_decide_eq_true (by kernel_rfl)) (by unfold Func.isWrapper; first | (rw [if_pos (by decide +kernel)]; kernel_rfl) | (rw [if_neg (by decide +kernel)]; exact ⟨rfl, rfl⟩))
    (fun os started H enc _ => law_lift (s := Rows.portFlagsSpec) Try.func7 (by kernel_rfl) rfl rfl (by intro H ds hd; match ds, hd with | [_, _, _], _ => exact ⟨rfl, rfl, rfl⟩) (by kernel_rfl) portFlags_walks os started H enc
      (ChangeSpec.witness6 (enc := enc) (C := Try.checked) false ⟨#[], #[.slice none 0 0, .int .u8 0, .int .u8 0], []⟩ 8 (by kernel_rfl) (by kernel_rfl) (by kernel_rfl) (by kernel_rfl)))

end Go.Proofs.Ytgjjepcjdekihaa
