/-
  The statements' 'awake', which answers true.
  What stage 17's walks share: a Build with its two slices written out, tables stored, tables alike.
  The statements' own: right and greatest.
-/
import Derived.Test.YtmngagcekhlppaaVC
namespace Go.Proofs.Ytmngagcekhlppaa
set_option maxRecDepth 100000
open Go.RowKit Go.Lib

def K0 : List UInt8 := List.replicate 16 0
theorem size_seven : SizeN 7 := ⟨by decide, by decide⟩
theorem size_eight : ¬ (0 ≤ (8 : Int) ∧ SizeN (8 : Int).toNat) := fun h => absurd h.2.prime (by decide)
def xsA : List Shr := [⟨[98], 5⟩, ⟨[99], 0⟩, ⟨[97], 5⟩]
def xsB : List Shr := [⟨[98], 0⟩, ⟨[98], 0⟩]
def RA : List Shr := [⟨[97], 5⟩, ⟨[98], 5⟩]
theorem rise_A : riseL xsA = RA := by rfl
theorem may_A : MayS xsA := (mayB_iff _).1 (by decide)
theorem may_nil : MayS [] := (mayB_iff _).1 (by decide)
theorem may_B : ¬ MayS xsB := fun h => absurd ((mayB_iff _).2 h) (by decide)
theorem short_A : ∀ x, x ∈ xsA → x.nm.length ≤ 60 := by decide
theorem short_B : ∀ x, x ∈ xsB → x.nm.length ≤ 60 := by decide
theorem quanta_B : ∀ x, x ∈ xsB → -9223372036854775808 ≤ x.q ∧ x.q ≤ 9223372036854775807 := by decide
theorem full_A : Full RA := rise_A ▸ may_A.full
/-- Two names of the same quanta, seven slots: four and three. -/
theorem cnt_A : cntN (slotL K0 7 RA) 0 = 4 ∧ cntN (slotL K0 7 RA) 1 = 3 := by
  have hne : RA ≠ [] := by decide
  have ok := full_A.ok hne K0 size_seven
  have e : slotL K0 7 RA = (tbOf K0 7 RA).out := by unfold slotL; rw [if_neg hne]
  rw [e]
  obtain ⟨r, i, hi, hc⟩ := Tb.out_cnt ok
  have hn : (tbOf K0 7 RA).n = 2 := rfl
  have hs := Tb.out_sum ok
  have hm : (tbOf K0 7 RA).m = 7 := rfl
  have hG : (tbOf K0 7 RA).G = 5 := by rfl
  have q0 : (tbOf K0 7 RA).q 0 = 5 := by rfl
  have q1 : (tbOf K0 7 RA).q 1 = 5 := by rfl
  have h0 := hc 0 (by rw [hn]; decide)
  have h1 := hc 1 (by rw [hn]; decide)
  rw [hG, q0, if_pos (Nat.zero_le _), Nat.mul_div_cancel _ (by decide)] at h0
  rw [hG, q1, Nat.mul_div_cancel _ (by decide)] at h1
  rw [hn, hm] at hs
  have hs2 : cntN (tbOf K0 7 RA).out 0 + cntN (tbOf K0 7 RA).out 1 = 7 := by
    have h9 : sumC (cntN (tbOf K0 7 RA).out) 2 = cntN (tbOf K0 7 RA).out 0 + cntN (tbOf K0 7 RA).out 1 := by simp [sumC]
    rw [← h9]
    exact hs
  rw [hn] at hi
  split at h1 <;> omega
theorem below_step {a b c d : World} {o : Obj} (h : Below a.heap.size a b) (hz : b.alloc o = c) (k : Below c.heap.size c d) : Below a.heap.size a d := by
  subst hz
  exact (h.alloc h.size o).trans (k.mono (by rw [World.size_alloc]; exact Nat.le_succ_of_le h.size))
theorem below_zed {a b c : World} {o : Obj} (h : Below a.heap.size a b) (hz : b.alloc o = c) : Below a.heap.size a c := by
  subst hz
  exact h.alloc h.size o
set_option maxHeartbeats 16000000 in
theorem awake_any (S : MagC) (w : World) : Calls Try.prog 10 #[] w fun e w' => e = .returned (.bool true) ∧ Below w.heap.size w w' := by
  have hlen : (slotL K0 7 RA).length = 7 := slotL_len K0 (by decide)
  have hrg : ∀ x, x ∈ slotL K0 7 RA → 0 ≤ x ∧ x < ((2 : Nat) : Int) := fun x hx => slotL_range full_A K0 size_seven hx
  obtain ⟨hc0, hc1⟩ := cnt_A
  obtain ⟨L, hL⟩ : ∃ L, slotL K0 7 RA = L := ⟨_, rfl⟩
  rw [hL] at hlen hrg hc0 hc1
  obtain ⟨x2, hx2⟩ : ∃ x, L[2]? = some x := ⟨_, List.getElem?_eq_getElem (by omega)⟩
  have hx2r := hrg x2 (List.mem_of_getElem? hx2)
  obtain ⟨s2, rfl⟩ := Int.eq_ofNat_of_zero_le hx2r.1
  have hs2 : s2 < 2 := by have := hx2r.2; omega
  obtain ⟨sN, hsN⟩ : ∃ s, ([[97], [98]] : List (List UInt8))[s2]? = some s := ⟨_, List.getElem?_eq_getElem hs2⟩
  have hpk : pickS [[97], [98]] L 9 = sN := pickS_eq (by rw [hlen]; exact hx2) hsN
  have P1 : Hid (∀ W : World, Calls Try.prog 12 #[.agg (K0.map v8).toArray, .int .i64 7, .slice (some ⟨W.heap.size, 0, none⟩) 3 3] (W.alloc (.cells #[.string ⟨#[98]⟩, .int .i64 5, .string ⟨#[99]⟩, .int .i64 0, .string ⟨#[97]⟩, .int .i64 5] 48)) fun e W' => ∃ nv sv, e = .returned (.tuple #[.agg #[nv, sv], .int .i64 0]) ∧ OwnG eN W' W.heap.size nv [[97], [98]] ∧ OwnG eZ W' W.heap.size sv L ∧ Below W.heap.size W W') := Lib.hid (fun W => by
    have h := S.build K0 rfl 7 size_seven (some ⟨W.heap.size, 0, none⟩) 3 3 xsA may_A (by decide) short_A (by decide) (by decide) _ _ (by rw [World.size_alloc]; exact Nat.le_refl _) (RdG.laid eS W xsA 3 rfl #[.string ⟨#[98]⟩, .int .i64 5, .string ⟨#[99]⟩, .int .i64 0, .string ⟨#[97]⟩, .int .i64 5] rfl)
    rw [rise_A, hL] at h
    refine h.mono ?_
    rintro e W' ⟨nv, sv, he, h1, h2, hb⟩
    have hb0 : Below W.heap.size W (W.alloc (.cells #[.string ⟨#[98]⟩, .int .i64 5, .string ⟨#[99]⟩, .int .i64 0, .string ⟨#[97]⟩, .int .i64 5] eS.T)) := (Below.refl W.heap.size W).alloc (Nat.le_refl _) _
    exact ⟨nv, sv, he, h1.base_le hb0.size, h2.base_le hb0.size, hb0.trans (hb.mono hb0.size)⟩)
  have P2 : Hid (∀ W : World, Calls Try.prog 12 #[.agg (K0.map v8).toArray, .int .i64 7, .slice none 0 0] W fun e W' => ∃ A1 A2 c1 c2, e = .returned (.tuple #[.agg #[.slice A1 0 c1, .slice A2 0 c2], .int .i64 0]) ∧ c1 ≤ maxLen ∧ c2 ≤ maxLen ∧ Below W.heap.size W W') := Lib.hid (fun W => by
    have h := S.build K0 rfl 7 size_seven none 0 0 [] may_nil (by decide) (fun x hx => by cases hx) (by decide) (by decide) W _ (Nat.le_refl _) (RdG.nil_ _)
    refine h.mono ?_
    rintro e W' ⟨nv, sv, he, h1, h2, hb⟩
    obtain ⟨A1, m1, c1, rfl, e1, _, k1, _⟩ := h1.sl
    obtain ⟨A2, m2, c2, rfl, e2, _, k2, _⟩ := h2.sl
    have e3 : m1 = 0 := e1
    have e4 : m2 = 0 := e2
    subst e3 e4
    exact ⟨A1, A2, c1, c2, he, k1, k2, hb⟩)
  have P3 : Hid (∀ W : World, Calls Try.prog 12 #[.agg (K0.map v8).toArray, .int .i64 8, .slice none 0 0] W fun e W' => e = .returned (.tuple #[.agg #[.slice none 0 0, .slice none 0 0], .int .i64 1]) ∧ Below W.heap.size W W') := Lib.hid (fun W => S.none_ K0 rfl 8 (by decide) (by decide) none 0 0 [] (by decide) (fun x hx => by cases hx) (fun x hx => by cases hx) (by decide) (by decide) (.inl size_eight) W _ (Nat.le_refl _) (RdG.nil_ _))
  have P4 : Hid (∀ W : World, Calls Try.prog 12 #[.agg (K0.map v8).toArray, .int .i64 7, .slice (some ⟨W.heap.size, 0, none⟩) 2 2] (W.alloc (.cells #[.string ⟨#[98]⟩, .int .i64 0, .string ⟨#[98]⟩, .int .i64 0] 48)) fun e W' => e = .returned (.tuple #[.agg #[.slice none 0 0, .slice none 0 0], .int .i64 1]) ∧ Below W.heap.size W W') := Lib.hid (fun W => by
    have h := S.none_ K0 rfl 7 (by decide) (by decide) (some ⟨W.heap.size, 0, none⟩) 2 2 xsB (by decide) short_B quanta_B (by decide) (by decide) (.inr may_B) _ _ (by rw [World.size_alloc]; exact Nat.le_refl _) (RdG.laid eS W xsB 2 rfl #[.string ⟨#[98]⟩, .int .i64 0, .string ⟨#[98]⟩, .int .i64 0] rfl)
    refine h.mono ?_
    rintro e W' ⟨he, hb⟩
    have hb0 : Below W.heap.size W (W.alloc (.cells #[.string ⟨#[98]⟩, .int .i64 0, .string ⟨#[98]⟩, .int .i64 0] eS.T)) := (Below.refl W.heap.size W).alloc (Nat.le_refl _) _
    exact ⟨he, hb0.trans (hb.mono hb0.size)⟩)
  have HS := Lib.hid S
  have HLN := Lib.hid hlen
  have HRG := Lib.hid hrg
  have HX2 := Lib.hid hx2
  have HSN := Lib.hid hsN
  have HPK := Lib.hid hpk
  have HC0 := Lib.hid hc0
  have HC1 := Lib.hid hc1
  have h2a : (0 : Int) ≤ (s2 : Int) := by omega
  have h2b : (s2 : Int) < 2 := by omega
  clear hL hlen hrg hc0 hc1 hx2 hx2r hsN hpk S
  go_enter Try.func10, Try.ntmps10
  go_wp2_with (first
    | ((with_reducible show wpList _ _ _ (⟨some 15, _, _, _, _, _⟩ :: _) _ _); refine wpList_buildw (op := ⟨some 15, _, _, _, _, _⟩) 22 #[] rfl (by rfl) [] (by simp) (K0.map v8).toArray (by kernel_rfl) ?_)
    | ((with_reducible show wpList _ _ _ (⟨some 24, _, _, _, _, _⟩ :: _) _ _); refine wpList_buildw (op := ⟨some 24, _, _, _, _, _⟩) 22 #[] rfl (by rfl) [] (by simp) (K0.map v8).toArray (by kernel_rfl) ?_)
    | ((with_reducible show wpList _ _ _ (⟨some 29, _, _, _, _, _⟩ :: _) _ _); refine wpList_buildw (op := ⟨some 29, _, _, _, _, _⟩) 22 #[] rfl (by rfl) [] (by simp) (K0.map v8).toArray (by kernel_rfl) ?_)
    | ((with_reducible show wpList _ _ _ (⟨some 34, _, _, _, _, _⟩ :: _) _ _); refine wpList_buildw (op := ⟨some 34, _, _, _, _, _⟩) 22 #[] rfl (by rfl) [] (by simp) (K0.map v8).toArray (by kernel_rfl) ?_)
    | ((with_reducible refine (P1.out w).mono ?_); rintro e W1 ⟨nv, sv, rfl, hn1, hs1, hb1⟩; obtain ⟨gn, cn, rfl, kn1, kn2, kn3, kn4⟩ := hn1.form (show 0 < 2 by decide); obtain ⟨gs, cs, hsv, ks1, ks2, ks3, ks4⟩ := hs1.form (by rw [HLN.out]; decide); rw [HLN.out] at hsv ks1; subst hsv; have HN1 := Lib.hid hn1; have HS1 := Lib.hid hs1; have HB1 := Lib.hid hb1; have KN1 := Lib.hid kn1; have KN2 := Lib.hid kn2; have KS1 := Lib.hid ks1; have KS2 := Lib.hid ks2; clear hn1 hs1 hb1 kn1 kn2 kn3 kn4 ks1 ks2 ks3 ks4)
    | (obtain ⟨Z1, hZ1⟩ : ∃ Z, W1.alloc (.cells #[.slice (some ⟨gn, 0, none⟩) 2 cn, .slice (some ⟨gs, 0, none⟩) 7 cs] 30) = Z := ⟨_, rfl⟩; rw [hZ1]; have HZ1 := Lib.hid hZ1; clear hZ1; (with_reducible refine (P2.out Z1).mono ?_); rintro e W2 ⟨A1, A2, c1, c2, rfl, kc1, kc2, hb2⟩; have HB2 := Lib.hid hb2; have KC1 := Lib.hid kc1; have KC2 := Lib.hid kc2; clear hb2 kc1 kc2)
    | (obtain ⟨Z2, hZ2⟩ : ∃ Z, W2.alloc (.cells #[.slice A1 0 c1, .slice A2 0 c2] 30) = Z := ⟨_, rfl⟩; rw [hZ2]; have HZ2 := Lib.hid hZ2; clear hZ2; (with_reducible refine (P3.out Z2).mono ?_); rintro e W3 ⟨rfl, hb3⟩; have HB3 := Lib.hid hb3; clear hb3)
    | (obtain ⟨Z3, hZ3⟩ : ∃ Z, W3.alloc (.cells #[.slice none 0 0, .slice none 0 0] 30) = Z := ⟨_, rfl⟩; rw [hZ3]; have HZ3 := Lib.hid hZ3; clear hZ3; rw [show W3.heap.size + 1 = Z3.heap.size by rw [← HZ3.out, World.size_alloc]]; (with_reducible refine (P4.out Z3).mono ?_); rintro e W4 ⟨rfl, hb4⟩; have D3 := Lib.hid (below_step HB2.out HZ2.out HB3.out); have D4 := Lib.hid (below_step D3.out HZ3.out hb4); have E4 := Lib.hid (below_step HB3.out HZ3.out hb4); clear hb4; have HT1 : Hid (Blk Z1 30 W1.heap.size [.slice (some ⟨gn, 0, none⟩) 2 cn, .slice (some ⟨gs, 0, none⟩) 7 cs]) := Lib.hid (by rw [← HZ1.out]; exact Blk_10.new W1 _ [.slice (some ⟨gn, 0, none⟩) 2 cn, .slice (some ⟨gs, 0, none⟩) 7 cs]); have HT3 : Hid (Blk Z2 30 W2.heap.size [.slice A1 0 c1, .slice A2 0 c2]) := Lib.hid (by rw [← HZ2.out]; exact Blk_10.new W2 _ [.slice A1 0 c1, .slice A2 0 c2]); have HN2 : Hid (OwnG eN Z1 w.heap.size (.slice (some ⟨gn, 0, none⟩) 2 cn) [[97], [98]]) := Lib.hid (by rw [← HZ1.out]; exact HN1.out.alloc _); have HS2 : Hid (OwnG eZ Z1 w.heap.size (.slice (some ⟨gs, 0, none⟩) 7 cs) L) := Lib.hid (by rw [← HZ1.out]; exact HS1.out.alloc _); have D4z := Lib.hid (D4.out.alloc D4.out.size (.cells #[.slice none 0 0, .slice none 0 0] 30)); have e0 : (W4.alloc (.cells #[.slice none 0 0, .slice none 0 0] 30)).cell? ⟨W1.heap.size, 0, none⟩ = some (.slice (some ⟨gn, 0, none⟩) 2 cn) := Blk_10.cell (Blk_10.below HT1.out (Blk_10.lt HT1.out) D4z.out) rfl; have e1 : (W4.alloc (.cells #[.slice none 0 0, .slice none 0 0] 30)).cell? ⟨W1.heap.size, 1, none⟩ = some (.slice (some ⟨gs, 0, none⟩) 7 cs) := Blk_10.cell (Blk_10.below HT1.out (Blk_10.lt HT1.out) D4z.out) rfl; have n0 : (W4.alloc (.cells #[.slice none 0 0, .slice none 0 0] 30)).cell? ⟨gn, 0, none⟩ = some (.string ⟨#[97]⟩) := ((HN2.out.below D4z.out).cell (j := 0) rfl 0 rfl))
    | (go_at_call 22; obtain ⟨Z4, hZ4⟩ : ∃ Z, W4.alloc (.cells #[.slice none 0 0, .slice none 0 0] 30) = Z := ⟨_, rfl⟩; rw [hZ4]; have HZ4 := Lib.hid hZ4; clear hZ4; clear e0 e1 n0; have D5 : Hid (Below Z1.heap.size Z1 Z4) := Lib.hid (below_zed D4.out HZ4.out); have E5 : Hid (Below Z2.heap.size Z2 Z4) := Lib.hid (below_zed E4.out HZ4.out); refine (HS.out.count (some ⟨gn, 0, none⟩) (some ⟨gs, 0, none⟩) 2 cn 7 cs [[97], [98]] L (by decide) (by decide) KN1.out KN2.out KS1.out KS2.out HRG.out Z4 _ _ (Nat.le_refl _) (Nat.le_refl _) (HN2.out.below D5.out).rd (HS2.out.below D5.out).rd).mono ?_; rintro e W5 ⟨v, rfl, hv, hb5⟩; obtain ⟨gc, cc, hcv, _, _, _, _⟩ := hv.form (by rw [cntZ_len]; decide); rw [cntZ_len] at hcv; subst hcv; have HV := Lib.hid hv; have D6 := Lib.hid (D5.out.trans (hb5.mono D5.out.size)); have E6 := Lib.hid (E5.out.trans (hb5.mono E5.out.size)); clear hv hb5; have a5 : W5.cell? ⟨W1.heap.size, 0, none⟩ = some (.slice (some ⟨gn, 0, none⟩) 2 cn) := Blk_10.cell (Blk_10.below HT1.out (Blk_10.lt HT1.out) D6.out) rfl; have b5 : W5.cell? ⟨W1.heap.size, 1, none⟩ = some (.slice (some ⟨gs, 0, none⟩) 7 cs) := Blk_10.cell (Blk_10.below HT1.out (Blk_10.lt HT1.out) D6.out) rfl)
    | (go_at_call 17; have hp6 : Calls Try.prog 17 #[.agg #[.slice (some ⟨gn, 0, none⟩) 2 cn, .slice (some ⟨gs, 0, none⟩) 7 cs], .int .u64 9] W5 fun e w' => e = .returned (.tuple #[.string ⟨sN.toArray⟩, .bool true]) ∧ Below W5.heap.size W5 w' := (by have h9 := HS.out.pick (some ⟨gn, 0, none⟩) (some ⟨gs, 0, none⟩) 2 cn 7 cs [[97], [98]] L (by decide) (by decide) KN1.out KN2.out KS1.out KS2.out HRG.out 9 (by decide) W5 _ _ (Nat.le_refl _) (Nat.le_refl _) (HN2.out.below D6.out).rd (HS2.out.below D6.out).rd; rw [HPK.out] at h9; exact h9); (with_reducible refine hp6.mono ?_); rintro e W6 ⟨rfl, hb6⟩; clear hp6 a5 b5; have F6 := Lib.hid hb6; have D7 := Lib.hid (D6.out.trans (hb6.mono D6.out.size)); have E7 := Lib.hid (E6.out.trans (hb6.mono E6.out.size)); clear hb6; have a6 : W6.cell? ⟨W2.heap.size, 0, none⟩ = some (.slice A1 0 c1) := Blk_10.cell (Blk_10.below HT3.out (Blk_10.lt HT3.out) E7.out) rfl; have b6 : W6.cell? ⟨W2.heap.size, 1, none⟩ = some (.slice A2 0 c2) := Blk_10.cell (Blk_10.below HT3.out (Blk_10.lt HT3.out) E7.out) rfl)
    | (go_at_call 17; have hp7 : Calls Try.prog 17 #[.agg #[.slice A1 0 c1, .slice A2 0 c2], .int .u64 9] W6 fun e w' => e = .returned (.tuple #[.string ⟨#[]⟩, .bool false]) ∧ Below W6.heap.size W6 w' := HS.out.pick A1 A2 0 c1 0 c2 [] [] (by decide) (by decide) (Nat.zero_le _) KC1.out (Nat.zero_le _) KC2.out (fun x hx => by cases hx) 9 (by decide) W6 0 0 (Nat.zero_le _) (Nat.zero_le _) (RdG.nil_ _) (RdG.nil_ _); (with_reducible refine hp7.mono ?_); rintro e W7 ⟨rfl, hb7⟩; clear hp7 a6 b6; have F7 := Lib.hid (F6.out.trans (hb7.mono F6.out.size)); have D8 := Lib.hid (D7.out.trans (hb7.mono D7.out.size)); have E8 := Lib.hid (E7.out.trans (hb7.mono E7.out.size)); clear hb7; have a7 : W7.cell? ⟨W1.heap.size, 0, none⟩ = some (.slice (some ⟨gn, 0, none⟩) 2 cn) := Blk_10.cell (Blk_10.below HT1.out (Blk_10.lt HT1.out) D8.out) rfl; have b7 : W7.cell? ⟨W1.heap.size, 1, none⟩ = some (.slice (some ⟨gs, 0, none⟩) 7 cs) := Blk_10.cell (Blk_10.below HT1.out (Blk_10.lt HT1.out) D8.out) rfl; have c7 : W7.cell? ⟨W2.heap.size, 1, none⟩ = some (.slice A2 0 c2) := Blk_10.cell (Blk_10.below HT3.out (Blk_10.lt HT3.out) E8.out) rfl; have i0 := (HV.out.below F7.out).cell (j := 0) (cntZ_get 2 L (by decide)) 0 rfl; have i1 := (HV.out.below F7.out).cell (j := 1) (cntZ_get 2 L (by decide)) 0 rfl; rw [HC0.out] at i0; rw [HC1.out] at i1; have j0 : W7.cell? ⟨gc, 0, none⟩ = some (.int .i64 4) := i0; have j1 : W7.cell? ⟨gc, 1, none⟩ = some (.int .i64 3) := i1; clear i0 i1; have s7 : W7.cell? ⟨gs, 2, none⟩ = some (.int .i64 (s2 : Int)) := (HS2.out.below D8.out).cell HX2.out 0 rfl; have m7 := (HN2.out.below D8.out).cell HSN.out 0 (u := strV sN) rfl; rw [show s2 * eN.k + 0 = s2 from by show s2 * 1 + 0 = s2; omega] at m7; unfold strV at m7))
  go_quiet (fail)
  go_wp2_with fail
  go_ret
  refine ⟨rfl, ?_⟩
  have hz1 : Below w.heap.size w Z1 := below_zed HB1.out HZ1.out
  exact below_drewN (hz1.trans (D8.out.mono hz1.size)) _
end Go.Proofs.Ytmngagcekhlppaa
namespace Go.Proofs.Ytmngagcekhlppaa
set_option maxRecDepth 100000
open Go.RowKit Go.Lib

/-- A Build's answer: names N and slots L, as slices. -/
def BuildGave (N : List (List UInt8)) (L : List Int) (W : World) (e : Ending) (W' : World) : Prop :=
  ∃ A1 c1 A2 c2, e = .returned (.tuple #[.agg #[.slice A1 N.length c1, .slice A2 L.length c2], .int .i64 0]) ∧ N.length ≤ c1 ∧ c1 ≤ maxLen ∧ L.length ≤ c2 ∧ c2 ≤ maxLen ∧ OwnG eN W' W.heap.size (.slice A1 N.length c1) N ∧ OwnG eZ W' W.heap.size (.slice A2 L.length c2) L ∧ Below W.heap.size W W'
theorem build_gave (S : MagC) (key : List UInt8) (hk : key.length = 16) (p : Nat) (hp : SizeN p) (A : Option Addr) (n c : Nat) (xs : List Shr) (hm : MayS xs) (hn : n ≤ 30) (hs : ∀ x, x ∈ xs → x.nm.length ≤ 60) (hc : n ≤ c) (hcm : c ≤ maxLen) (W : World) (B : Nat) (hB : B ≤ W.heap.size) (hI : RdG eS W B A n xs)
    (N : List (List UInt8)) (hN : (riseL xs).map Shr.nm = N) (L : List Int) (hL : slotL key p (riseL xs) = L) :
    Calls Try.prog 12 #[keyC key, .int .i64 (p : Int), .slice A n c] W (BuildGave N L W) := by
  refine (S.build key hk p hp A n c xs hm hn hs hc hcm W B hB hI).mono ?_
  rintro e W' ⟨nv, sv, he, h1, h2, hb⟩
  rw [hN] at h1
  rw [hL] at h2
  obtain ⟨A1, m1, c1, rfl, e1, k1, k2, _⟩ := h1.sl
  obtain ⟨A2, m2, c2, rfl, e2, k3, k4, _⟩ := h2.sl
  subst e1 e2
  exact ⟨A1, c1, A2, c2, he, k1, k2, k3, k4, h1, h2, hb⟩
/-- A table laid in a new block. -/
theorem tbl_new (W : World) (a b : Value) : Blk (W.alloc (.cells #[a, b] 30)) 30 W.heap.size [a, b] := Blk_10.new W _ [a, b]
theorem fewB_n {n : Nat} {xs : List Shr} (h : fewB xs = true) (hl : xs.length = n) : n ≤ 30 := hl ▸ ((fewB_iff xs).1 h).1
theorem fewB_s {xs : List Shr} (h : fewB xs = true) : ∀ x, x ∈ xs → x.nm.length ≤ 60 := ((fewB_iff xs).1 h).2
theorem slotL_most (key : List UInt8) {p : Nat} (hp : SizeN p) (R : List Shr) : (slotL key p R).length ≤ 65537 := by
  by_cases h : R = []
  · unfold slotL
    rw [if_pos h]
    exact Nat.zero_le _
  · rw [slotL_len key h]
    exact hp.most
/-- Equal tables are told so. -/
theorem same_tbl {W : World} {A1 A2 A3 A4 : Option Addr} {c1 c2 c3 c4 : Nat} {N : List (List UInt8)} {L : List Int} {B1 B2 B3 B4 : Nat} (hn : N.length ≤ 30) (hl : L.length ≤ 65537) (h1 : OwnG eN W B1 (.slice A1 N.length c1) N) (h2 : OwnG eZ W B2 (.slice A2 L.length c2) L) (h3 : OwnG eN W B3 (.slice A3 N.length c3) N) (h4 : OwnG eZ W B4 (.slice A4 L.length c4) L) :
    Calls Try.prog 15 #[.agg #[.slice A1 N.length c1, .slice A2 L.length c2], .agg #[.slice A3 N.length c3, .slice A4 L.length c4]] W fun e w' => e = .returned (.bool true) ∧ Below W.heap.size W w' :=
  rtsame_any c1 c3 c2 c4 (by omega) (by omega) W (Nat.le_refl _) (Nat.le_refl _) (Nat.le_refl _) (Nat.le_refl _) h1.rd h3.rd h2.rd h4.rd
theorem rise_len {xs : List Shr} {n : Nat} (h : n ≤ 30) (hl : xs.length = n) : (riseL xs).length ≤ 30 := by
  have h9 := (riseL_perm xs).length_eq
  have h8 := List.length_filter_le (fun x : Shr => decide (x.q ≠ 0)) xs
  omega
/-- Of two types: of two blocks. -/
theorem ne_types {α : Type} {E : Enc α} {w : World} {base b : Nat} {v : Value} {xs : List α} {T : TypeId} {cs : List Value} (h : OwnG E w base v xs) (hb : Blk w T b cs) (hne : E.T ≠ T) : v.ownBlock ≠ some b := by
  intro e
  rcases h.2 with ⟨hv, _⟩ | ⟨g, cap, cur, rfl, _, hg, _⟩
  · rw [hv] at e
    cases e
  · cases e
    have h3 : w.heap[g]? = some (.cells cs.toArray T (0, 0)) := hb
    rw [hg] at h3
    injection h3 with h4
    injection h4 with _ h5
    exact hne h5
/-- The document's Build, its two slices written out. -/
theorem rbuild_gave (key : List UInt8) (hk : key.length = 16) (p : Nat) (hp : SizeN p) (A : Option Addr) (n c : Nat) (xs : List Shr) (hm : MayS xs) (hs : ∀ x, x ∈ xs → x.nm.length ≤ 60) (W : World) (B : Nat) (hB : B ≤ W.heap.size) (hI : RdG eS W B A n xs)
    (N : List (List UInt8)) (hN : (riseL xs).map Shr.nm = N) (L : List Int) (hL : slotL key p (riseL xs) = L) :
    Calls Try.prog 16 #[keyC key, .int .i64 (p : Int), .slice A n c] W fun e W' => ∃ A1 c1 A2 c2, e = .returned (.agg #[.slice A1 N.length c1, .slice A2 L.length c2]) ∧ OwnG eN W' W.heap.size (.slice A1 N.length c1) N ∧ OwnG eZ W' W.heap.size (.slice A2 L.length c2) L ∧ Below W.heap.size W W' := by
  refine (rbuild_any key hk hp c hm hs W hB hI).mono ?_
  rintro e W' ⟨nv, sv, he, h1, h2, hb⟩
  rw [hN] at h1
  rw [hL] at h2
  obtain ⟨A1, m1, c1, rfl, e1, _⟩ := h1.sl
  obtain ⟨A2, m2, c2, rfl, e2, _⟩ := h2.sl
  subst m1 m2
  exact ⟨A1, c1, A2, c2, he, h1, h2, hb⟩
end Go.Proofs.Ytmngagcekhlppaa
namespace Go.Proofs.Ytmngagcekhlppaa
set_option maxRecDepth 100000
open Go.RowKit Go.Lib

set_option maxHeartbeats 4000000 in
theorem right_tbl {A A' : Option Addr} {n c m c' B B' : Nat} {nm : List (List UInt8)} {xs : List Int} (_hn : n ≤ 1024) (hm : m ≤ 65537) (hr : ∀ x, x ∈ xs → 0 ≤ x ∧ x < (n : Int)) (w : World) (hB' : B' ≤ w.heap.size) (_h : RdG eN w B A n nm) (h' : RdG eZ w B' A' m xs) :
    Calls Try.prog 21 #[.agg #[.slice A n c, .slice A' m c']] w fun e w' => e = .returned (.bool true) ∧ Below w.heap.size w w' := by
  obtain ⟨Y, hY⟩ : ∃ Y, w.alloc (.cells #[.slice A n c, .slice A' m c'] 30) = Y := ⟨_, rfl⟩
  have HT := Lib.hid (show Blk Y 30 w.heap.size [.slice A n c, .slice A' m c'] by rw [← hY]; exact tbl_new _ _ _)
  have HB := Lib.hid (show Below w.heap.size w Y by rw [← hY]; exact (Below.refl w.heap.size w).alloc (Nat.le_refl _) _)
  have HX : Hid (RdG eZ Y B' A' m xs) := Lib.hid (by rw [← hY]; exact h'.alloc hB' _)
  have HY := Lib.hid hY
  have HR := Lib.hid hr
  have HL := Lib.hid h'.len
  clear hY h' hr hB' _h
  go_enter Try.func21, Try.ntmps21
  go_wp2_with fail
  rw [HY.out]
  go_loopw [3] (fun i wr => ∃ j : Nat, j ≤ m ∧ i = .int .i64 (j : Int) ∧ Blk wr 30 w.heap.size [.slice A n c, .slice A' m c'] ∧ RdG eZ wr B' A' m xs ∧ Below w.heap.size w wr)
    (fun i _ => m - (intOf i).toNat)
  case atStart => exact ⟨0, Nat.zero_le _, rfl, HT.out, HX.out, HB.out⟩
  case round =>
    obtain ⟨j, hj, rfl, hw1, hw2, hw3⟩ := hrel
    have HT' := Lib.hid hw1
    have HX' := Lib.hid hw2
    have HB' := Lib.hid hw3
    clear hw1 hw2 hw3
    have q1 := Blk_10.cell HT'.out (i := 0) (v := .slice A n c) rfl
    have q2 := Blk_10.cell HT'.out (i := 1) (v := .slice A' m c') rfl
    by_cases hlt : j < m
    · have h1 : (j : Int) < (m : Int) := by omega
      have h0 : (0 : Int) ≤ (j : Int) := by omega
      obtain ⟨x, hx⟩ : ∃ x, xs[j]? = some x := ⟨_, List.getElem?_eq_getElem (by rw [HL.out]; exact hlt)⟩
      obtain ⟨hx0, hx1⟩ := HR.out x (List.mem_of_getElem? hx)
      obtain ⟨b, off, hA, _⟩ := HX'.out.addr (by omega)
      have q3 : wr.cell? ⟨b, off + j, none⟩ = some (.int .i64 x) := by have h9 := HX'.out; rw [hA] at h9; exact h9.cell1 hx rfl
      have hx2 : ¬ x < 0 := by omega
      have hx3 : ¬ x ≥ (n : Int) := by omega
      have hx4 : ¬ (n : Int) ≤ x := by omega
      have HLT := Lib.hid hlt
      subst hA
      clear hx hlt hj
      go_wp2_with fail
      go_quiet (fail)
      go_wp2_with fail
      go_roundw
      case rel => exact ⟨j + 1, HLT.out, (by have := HLT.out; go_num), HT'.out, HX'.out.drewN _, below_drewN HB'.out _⟩
      case measure =>
        have := HLT.out
        simp [intOf]
        omega
    · obtain rfl : m = j := by omega
      have h1 : ¬ (m : Int) < (m : Int) := by omega
      clear hlt hj
      go_wp2_with fail
      go_ret
      exact ⟨rfl, HB'.out⟩
set_option maxHeartbeats 4000000 in
theorem greatest_any {A : Option Addr} {n B : Nat} (c : Nat) {xs : List Shr} (hn : n ≤ 1024) (w : World) (h : RdG eS w B A n xs) :
    Calls Try.prog 23 #[.slice A n c] w fun e w' => e = .returned (.int .i64 (bestL xs)) ∧ w' = w := by
  have HX := Lib.hid h
  have HL := Lib.hid h.len
  clear h
  go_enter Try.func23, Try.ntmps23
  go_wp2_with fail
  go_loopw [3, 4] (fun g i wr => ∃ j : Nat, j ≤ n ∧ i = .int .i64 (j : Int) ∧ g = .int .i64 (bestL (xs.take j)) ∧ wr = w)
    (fun _ i _ => n - (intOf i).toNat)
  case atStart => exact ⟨0, Nat.zero_le _, rfl, rfl, rfl⟩
  case round =>
    obtain ⟨j, hj, rfl, rfl, rfl⟩ := hrel
    by_cases hlt : j < n
    · have h1 : (j : Int) < (n : Int) := by omega
      have h0 : (0 : Int) ≤ (j : Int) := by omega
      obtain ⟨x, hx⟩ : ∃ x, xs[j]? = some x := ⟨_, List.getElem?_eq_getElem (by rw [HL.out]; exact hlt)⟩
      obtain ⟨b, off, rfl, _⟩ := HX.out.addr (by omega)
      have q3 := HX.out.quanta hx
      have HBS : Hid (bestL (xs.take (j + 1)) = bestF (bestL (xs.take j)) x) := Lib.hid (by
        unfold bestL
        rw [List.take_add_one, hx, List.foldl_append]
        rfl)
      obtain ⟨g, hg⟩ : ∃ g, bestL (xs.take j) = g := ⟨_, rfl⟩
      rw [hg] at HBS ⊢
      have HLT := Lib.hid hlt
      clear hg hx hlt hj
      by_cases hgt : x.q > g
      · have HB2 : Hid (bestL (xs.take (j + 1)) = x.q) := Lib.hid (by rw [HBS.out]; unfold bestF; rw [if_pos hgt])
        have hgt2 : g < x.q := hgt
        clear hgt
        go_wp2_with fail
        go_roundw
        case rel => exact ⟨j + 1, HLT.out, (by have := HLT.out; go_num), (by rw [HB2.out]), trivial⟩
        case measure =>
          have := HLT.out
          simp [intOf]
          omega
      · have HB2 : Hid (bestL (xs.take (j + 1)) = g) := Lib.hid (by rw [HBS.out]; unfold bestF; rw [if_neg hgt])
        have hgt2 : ¬ g < x.q := hgt
        clear hgt
        go_wp2_with fail
        go_roundw
        case rel => exact ⟨j + 1, HLT.out, (by have := HLT.out; go_num), (by rw [HB2.out]), trivial⟩
        case measure =>
          have := HLT.out
          simp [intOf]
          omega
    · obtain rfl : n = j := by omega
      have h1 : ¬ (n : Int) < (n : Int) := by omega
      have ht : xs.take n = xs := by rw [← HL.out]; exact List.take_length
      rw [ht]
      clear hlt hj ht
      go_wp2_with fail
      go_ret
      exact ⟨rfl, rfl⟩
/-- The least of the counts of those whose quanta are the greatest. -/
def mrN (q c : Nat → Nat) (G p : Nat) : Nat → Nat
  | 0 => p
  | j + 1 => if q j = G ∧ c j < mrN q c G p j then c j else mrN q c G p j
theorem mrN_le (q c : Nat → Nat) (G p : Nat) : ∀ k j, j < k → q j = G → mrN q c G p k ≤ c j
  | 0, j, h, _ => absurd h (by omega)
  | k + 1, j, h, hq => by
    have ih := mrN_le q c G p k j
    unfold mrN
    by_cases e : j = k
    · subst e
      split
      · exact Nat.le_refl _
      · rename_i h2
        omega
    · have h3 := ih (by omega) hq
      split
      · rename_i h2
        omega
      · exact h3
theorem mrN_or (q c : Nat → Nat) (G p : Nat) : ∀ k, mrN q c G p k = p ∨ ∃ j, j < k ∧ q j = G ∧ mrN q c G p k = c j
  | 0 => .inl rfl
  | k + 1 => by
    unfold mrN
    split
    · rename_i h
      exact .inr ⟨k, by omega, h.1, rfl⟩
    · rcases mrN_or q c G p k with h | ⟨j, h1, h2, h3⟩
      · exact .inl h
      · exact .inr ⟨j, by omega, h2, h3⟩
theorem mrN_top (q c : Nat → Nat) (G p : Nat) : ∀ k, mrN q c G p k ≤ p
  | 0 => Nat.le_refl _
  | k + 1 => by
    have ih := mrN_top q c G p k
    unfold mrN
    split
    · omega
    · exact ih
theorem sum_mono (c : Nat → Nat) (k : Nat) : ∀ d, sumC c k ≤ sumC c (k + d)
  | 0 => Nat.le_refl _
  | d + 1 => Nat.le_trans (sum_mono c k d) (Nat.le_add_right _ _)
theorem sum_to (c : Nat → Nat) {k n : Nat} (h : k ≤ n) : sumC c k ≤ sumC c n := by
  obtain ⟨d, rfl⟩ := Nat.le.dest h
  exact sum_mono c k d
theorem sum_one (c : Nat → Nat) (k : Nat) : sumC c (k + 1) = sumC c k + c k := rfl
theorem mr_one (q c : Nat → Nat) (G p k : Nat) : mrN q c G p (k + 1) = if q k = G ∧ c k < mrN q c G p k then c k else mrN q c G p k := rfl
/-- What the counts of a table are, by turns of the greatest: as the statement asks. -/
theorem shares_ok {t : Tb} (ht : t.Ok) : ∀ j, j < t.n → (0 < mrN t.q (cntN t.out) t.G t.m t.n → (mrN t.q (cntN t.out) t.G t.m t.n - 1) * t.q j / t.G ≤ cntN t.out j) ∧ cntN t.out j ≤ (mrN t.q (cntN t.out) t.G t.m t.n + 1) * t.q j / t.G := by
  obtain ⟨r, i, hi, hc⟩ := Tb.out_cnt ht
  have hs := Tb.out_sum ht
  obtain ⟨k, hk, hkq⟩ := ht.top
  have hG := ht.g0
  have htop : ∀ j, j < t.n → t.q j = t.G → cntN t.out j = r ∨ cntN t.out j = r + 1 := by
    intro j hj hq
    rw [hc j hj, hq, Nat.mul_div_cancel _ hG]
    split
    · exact .inr rfl
    · exact .inl rfl
  have hm : mrN t.q (cntN t.out) t.G t.m t.n = r ∨ mrN t.q (cntN t.out) t.G t.m t.n = r + 1 := by
    rcases mrN_or t.q (cntN t.out) t.G t.m t.n with h | ⟨j, h1, h2, h3⟩
    · have h4 := mrN_le t.q (cntN t.out) t.G t.m t.n k hk hkq
      have h5 := sum_le (cntN t.out) hk
      rw [hs] at h5
      have h6 := htop k hk hkq
      omega
    · have h6 := htop j h1 h2
      omega
  intro j hj
  have e1 : ∀ a b : Nat, a ≤ b → a * t.q j / t.G ≤ b * t.q j / t.G := fun a b hab => Nat.div_le_div_right (Nat.mul_le_mul_right _ hab)
  have h7 := hc j hj
  rw [h7]
  refine ⟨fun _ => e1 _ _ ?_, e1 _ _ ?_⟩ <;> (split <;> omega)
/-- Of the same quanta: none has two more than another. -/
theorem cnt_near {t : Tb} (ht : t.Ok) {i k : Nat} (hi : i < t.n) (hk : k < t.n) (hq : t.q i = t.q k) : cntN t.out i ≤ cntN t.out k + 1 := by
  obtain ⟨r, j, _, hc⟩ := Tb.out_cnt ht
  have hG := ht.g0
  have hl := ht.le k hk
  rw [hc i hi, hc k hk, hq]
  have e1 : ∀ a b : Nat, a ≤ b → a * t.q k / t.G ≤ b * t.q k / t.G := fun a b hab => Nat.div_le_div_right (Nat.mul_le_mul_right _ hab)
  have e2 : (r + 1) * t.q k / t.G ≤ r * t.q k / t.G + 1 := by
    rw [Nat.add_mul, Nat.one_mul, ← Nat.add_div_right _ hG]
    exact Nat.div_le_div_right (Nat.add_le_add_left hl _)
  have e3 := e1 (r + if i ≤ j then 1 else 0) (r + 1) (by split <;> omega)
  have e4 := e1 r (r + if k ≤ j then 1 else 0) (by omega)
  omega
theorem ch_first {a p : Nat} (b : Nat) (h : a < p) : chN a b p 0 = a := by
  unfold chN
  simp [Nat.mod_eq_of_lt h]
/-- A Build's answer with the lengths named. -/
def BuildG (rn ln : Nat) (N : List (List UInt8)) (L : List Int) (W : World) (e : Ending) (W' : World) : Prop :=
  ∃ A1 c1 A2 c2, e = .returned (.tuple #[.agg #[.slice A1 rn c1, .slice A2 ln c2], .int .i64 0]) ∧ rn ≤ c1 ∧ c1 ≤ maxLen ∧ ln ≤ c2 ∧ c2 ≤ maxLen ∧ OwnG eN W' W.heap.size (.slice A1 rn c1) N ∧ OwnG eZ W' W.heap.size (.slice A2 ln c2) L ∧ Below W.heap.size W W'
theorem build_g {rn ln : Nat} {N : List (List UInt8)} {L : List Int} {W : World} {f : Nat} {args : Array Value} (h : Calls Try.prog f args W (BuildGave N L W)) (hn : N.length = rn) (hl : L.length = ln) : Calls Try.prog f args W (BuildG rn ln N L W) := by
  subst hn hl
  exact h
end Go.Proofs.Ytmngagcekhlppaa
