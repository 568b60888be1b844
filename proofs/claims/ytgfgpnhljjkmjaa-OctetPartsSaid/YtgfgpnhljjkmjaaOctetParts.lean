/-
  PROVED HERE: 'OctetPartsSaid': whatever a, b, c and d are, the Go function OctetParts of package wayleavelaw01 returns true. No condition.
-/
import Derived.Test.YtgfgpnhljjkmjaaAwake
import Derived.Test.YtgfgpnhljjkmjaaLift
import Derived.Deep.RegionWith
namespace Go.Proofs.Ytgfgpnhljjkmjaa
open Go.RowKit Go.Shelf Go.ChangeShapes Go.WideShapes Go.ChangeAt

theorem less_num : ∀ (xs ys : List UInt8), xs.length = ys.length → Op.bytesLess xs ys = decide (num xs < num ys)
  | [], [], _ => rfl
  | x :: xs, y :: ys, h => by
    have hl : xs.length = ys.length := by simpa using h
    have ih := less_num xs ys hl
    have h1 := num_lt xs
    have h2 := num_lt ys
    rw [← hl] at h2
    rw [Op.bytesLess, ih, num_cons, num_cons, ← hl]
    generalize 256 ^ xs.length = p at *
    rcases Nat.lt_trichotomy x.toNat y.toNat with hxy | hxy | hxy
    · have e1 : x < y := UInt8.lt_iff_toNat_lt.2 hxy
      have e2 : p * x.toNat + num xs < p * y.toNat + num ys := by
        have : p * (x.toNat + 1) ≤ p * y.toNat := Nat.mul_le_mul_left _ hxy
        rw [Nat.mul_add] at this
        omega
      simp [e1, e2]
    · have e0 : x = y := UInt8.toNat_inj.1 hxy
      subst e0
      have e1 : ¬ x < x := by simp
      simp [e1]
    · have e1 : ¬ x < y := by rw [UInt8.lt_iff_toNat_lt]; omega
      have e0 : ¬ x = y := fun e => by rw [e] at hxy; omega
      have e2 : ¬ p * x.toNat + num xs < p * y.toNat + num ys := by
        have : p * (y.toNat + 1) ≤ p * x.toNat := Nat.mul_le_mul_left _ hxy
        rw [Nat.mul_add] at this
        omega
      simp [e1, e0, e2]
theorem less_dig (c d : Nat) (hc : c < 18446744073709551616) (hd : d < 18446744073709551616) : Op.bytesLess (bytesOf c 8 true) (bytesOf d 8 true) = decide (c < d) := by
  rw [less_num _ _ (by rw [bytesOf_length, bytesOf_length])]
  simp only [bytesOf, if_true, num_dig]
  rw [Nat.mod_eq_of_lt (by simpa using hc), Nat.mod_eq_of_lt (by simpa using hd)]
theorem parts_big (a b : Nat) (ha : a < 4294967296) (hb : b < 4294967296) : getOf (bytesOf a 4 true ++ bytesOf b 4 true) true = a * 4294967296 + b := by
  unfold getOf
  rw [List.take_of_length_le (by rw [List.length_append, bytesOf_length, bytesOf_length]; omega)]
  simp only [if_true]
  rw [num_append, bytesOf_length]
  simp only [bytesOf, if_true, num_dig]
  rw [Nat.mod_eq_of_lt (by simpa using ha), Nat.mod_eq_of_lt (by simpa using hb)]
  omega
theorem parts_small (a b : Nat) (ha : a < 4294967296) (hb : b < 4294967296) : getOf (bytesOf b 4 false ++ bytesOf a 4 false) false = a * 4294967296 + b := by
  unfold getOf
  rw [List.take_of_length_le (by rw [List.length_append, bytesOf_length, bytesOf_length]; omega)]
  simp only [Bool.false_eq_true, if_false]
  rw [List.reverse_append, num_append, List.length_reverse, bytesOf_length]
  simp only [bytesOf, Bool.false_eq_true, if_false, num_dig]
  rw [Nat.mod_eq_of_lt (by simpa using ha), Nat.mod_eq_of_lt (by simpa using hb)]
  omega

/-- A slice that is turned into the string of xs, now and in whatever world comes later. -/
def StrLater (W : World) (A : Option Addr) (m cp : Nat) (xs : List UInt8) : Prop :=
  ∀ W', Below W.heap.size W W' → (convert 23 9 (.slice A m cp)).run Try.prog W' = .ok (.string ⟨xs.toArray⟩) W'

set_option maxRecDepth 100000 in
set_option maxHeartbeats 4000000 in
theorem octetParts_walk (a : Nat) (ha : a < 4294967296) (b : Nat) (hb : b < 4294967296) (c : Nat) (hc : c < 18446744073709551616) (d : Nat) (hd : d < 18446744073709551616) (w : World) :
    Calls Try.prog 6 #[.int .u32 (a : Int), .int .u32 (b : Int), .int .u64 (c : Int), .int .u64 (d : Int)] w fun e W' => e = .returned (.bool true) ∧ Below w.heap.size w W' := by
  have hor : bits .or .u64 ((a : Int) * 4294967296) (b : Int) = ((a * 4294967296 + b : Nat) : Int) := by
    have h1 := u64_or_nat (a * 4294967296) b (by omega) (by omega)
    have h2 := Nat.shiftLeft_add_eq_or_of_lt (i := 32) (b := b) (by simpa using hb) a
    rw [Nat.shiftLeft_eq, show (2 : Nat) ^ 32 = 4294967296 from rfl] at h2
    rw [← h2, Int.natCast_mul] at h1
    exact h1
  go_enter Try.func6, Try.ntmps6
  go_wp2_with fail
  refine (awake_any _).mono ?_
  rintro e w1 ⟨rfl, hb1⟩
  go_wp2_with fail
  refine (put_any a 4 true _).mono ?_
  rintro e w2 ⟨v2, rfl, ho2, hb2⟩
  rw [show sizeOf8 4 = 4 from by decide] at ho2
  have B2 := hb1.trans (hb2.mono hb1.size)
  go_wp2_with fail
  refine (put_any b 4 true _).mono ?_
  rintro e w3 ⟨v3, rfl, ho3, hb3⟩
  rw [show sizeOf8 4 = 4 from by decide] at ho3
  have B3 := B2.trans (hb3.mono B2.size)
  have ho23 := ho2.below hb3
  obtain ⟨A3, m3, c3, rfl, hm3, _, _, hr3⟩ := ho3.sl
  rw [bytesOf_length] at hm3
  subst hm3
  have hl2 := bytesOf_length a 4 true
  have hz := B3.size
  have HL := Lib.hid hl2
  clear hl2
  go_wp2_with (at_builtin; refine wpList_append8 rfl _ _ rfl w1.heap.size _ (bytesOf a 4 true) (by rfl) ho23 _ _ _ _ (bytesOf b 4 true) (by rfl) hr3 (by rw [HL.out]; omega) (by have := hb2.size; have := hb3.size; omega) ?_; intro v4 w4 ho4 hgrow4 _)
  have hz2 := hb2.size
  have hz3 := hb3.size
  have B4 : Below w.heap.size w w4 := B3.grown hgrow4 hz (fun g e => by have := ho23.lt g e; have := hb1.size; omega)
  obtain ⟨A4, m4, c4, rfl, hm4, hmc4, hcm4, hr4⟩ := ho4.sl
  rw [List.length_append, bytesOf_length, bytesOf_length] at hm4
  subst hm4
  clear ho2 ho3 ho23 ho4 hr3 hgrow4 HL hb1 hb2 hb3 hz2 hz3 B2 B3 hz
  refine (put_any b 4 false _).mono ?_
  rintro e w5 ⟨v5, rfl, ho5, hb5⟩
  rw [show sizeOf8 4 = 4 from by decide] at ho5
  have B5 := B4.trans (hb5.mono B4.size)
  have hr45 := (hr4.below hb5)
  go_wp2_with fail
  refine (put_any a 4 false _).mono ?_
  rintro e w6 ⟨v6, rfl, ho6, hb6⟩
  rw [show sizeOf8 4 = 4 from by decide] at ho6
  have B6 := B5.trans (hb6.mono B5.size)
  have ho56 := ho5.below hb6
  have hr46 := (hr45.more hb5.size).below hb6
  obtain ⟨A6, m6, c6, rfl, hm6, _, _, hr6⟩ := ho6.sl
  rw [bytesOf_length] at hm6
  subst hm6
  have hl5 := bytesOf_length b 4 false
  have hz := B6.size
  have hz4 := B4.size
  have hz5 := hb5.size
  have hz6 := hb6.size
  have HL := Lib.hid hl5
  clear hl5
  go_wp2_with (at_builtin; refine wpList_append8 rfl _ _ rfl w4.heap.size _ (bytesOf b 4 false) (by rfl) ho56 _ _ _ _ (bytesOf a 4 false) (by rfl) hr6 (by rw [HL.out]; omega) (by omega) ?_; intro v7 w7 ho7 hgrow7 _)
  have B7 : Below w.heap.size w w7 := B6.grown hgrow7 hz (fun g e => by have := ho56.lt g e; omega)
  have hr47 := (((hr4.below hb5).below (hb6.mono hz5)).grown hgrow7 (by omega) (fun g e => ho56.lt g e)).more (B' := w7.heap.size) (by have := hgrow7.size; omega)
  obtain ⟨A7, m7, c7, rfl, hm7, hmc7, hcm7, hr7⟩ := ho7.sl
  rw [List.length_append, bytesOf_length, bytesOf_length] at hm7
  subst hm7
  obtain ⟨N, hN⟩ : ∃ N, a * 4294967296 + b = N := ⟨_, rfl⟩
  have G1 : ∀ W, Below w7.heap.size w7 W → Calls Try.prog 13 #[.slice A4 8 c4, .bool true] W fun e W' => e = .returned (.int .u64 (N : Int)) ∧ Below w7.heap.size w7 W' := fun W h =>
    (get_any A4 8 c4 _ true (by omega) hmc4 hcm4 W ((hr47.below h).more h.size)).mono fun e W' k => by
      rw [parts_big a b ha hb, hN] at k
      exact ⟨k.1, h.trans (k.2.mono h.size)⟩
  have G2 : ∀ W, Below w7.heap.size w7 W → Calls Try.prog 13 #[.slice A7 8 c7, .bool false] W fun e W' => e = .returned (.int .u64 (N : Int)) ∧ Below w7.heap.size w7 W' := fun W h =>
    (get_any A7 8 c7 _ false (by omega) hmc7 hcm7 W ((hr7.below h).more h.size)).mono fun e W' k => by
      rw [parts_small a b ha hb, hN] at k
      exact ⟨k.1, h.trans (k.2.mono h.size)⟩
  have P1 : ∀ (x : Nat) W, Below w7.heap.size w7 W → Calls Try.prog 11 #[.int .u64 (x : Int), .int .i64 8, .bool true] W fun e W' => ∃ A m cp, e = .returned (.slice A m cp) ∧ StrLater W' A m cp (bytesOf x 8 true) ∧ Below w7.heap.size w7 W' ∧ Below W.heap.size W W' := fun x W h =>
    (put_any x 8 true W).mono fun e W' k => by
      obtain ⟨v, rfl, ho, hb⟩ := k
      obtain ⟨A, m, cp, rfl, _, _, _, hr⟩ := ho.sl
      exact ⟨A, m, cp, rfl, fun W'' h' => run_str8 (hr.below h') cp, h.trans (hb.mono h.size), hb⟩
  have hlt := less_dig c d hc hd
  have H1 := Lib.hid G1
  have H2 := Lib.hid G2
  have HP := Lib.hid P1
  have HB := Lib.hid B7
  have e0 : (a : Int) * 4294967296 + (b : Int) = (N : Int) := by omega
  rw [e0]
  clear e0 hN hor G1 G2 P1 B7 B4 B5 B6 hr4 hr45 hr46 hr47 hr6 hr7 ho5 ho6 ho56 ho7 hgrow7 hb5 hb6 hz hz4 hz5 hz6 HL hmc4 hcm4 hmc7 hcm7
  go_region_with (first
    | (go_at_call_of 13 (Value.bool true); refine (H1.out _ ?_).mono ?_; exact (Below.refl _ _).drew; rintro e W1 ⟨rfl, hB1⟩)
    | (go_at_call_of 13 (Value.bool false); refine (H2.out _ ?_).mono ?_; exact hB1; rintro e W2 ⟨rfl, hB2⟩)
    | (go_at_call_of 11 (Value.int .u64 (c : Int)); refine (HP.out c _ ?_).mono ?_; exact hB2; rintro e W3 ⟨A8, m8, c8, rfl, hs3, hB3, _⟩; have hs3' := hs3 W3 (Below.refl _ _))
    | (go_at_call_of 11 (Value.int .u64 (d : Int)); refine (HP.out d _ ?_).mono ?_; exact hB3; rintro e W4 ⟨A9, m9, c9, rfl, hs4, hB4, hB34⟩; have hs4' := hs4 W4 (Below.refl _ _); have hs34 := hs3 W4 hB34))
  all_goals go_wp2_with fail
  all_goals go_ret
  all_goals exact ⟨rfl, HB.out.trans (hB4.mono HB.out.size)⟩

theorem octetParts_walks : WalksTrue 6 Try.f6 := by
  intro H enc W base args ds p hval hA
  rw [Try.params6] at hA hval
  obtain ⟨v0, vs0, d0, ds0, p0, q0, hargs, rfl, rfl, h0, r0⟩ := trodAll_cons hA
  obtain ⟨v1, vs1, d1, ds1, p1, q1, rfl, rfl, rfl, h1, r1⟩ := trodAll_cons r0
  obtain ⟨v2, vs2, d2, ds2, p2, q2, rfl, rfl, rfl, h2, r2⟩ := trodAll_cons r1
  obtain ⟨v3, vs3, d3, ds3, p3, q3, rfl, rfl, rfl, h3, r3⟩ := trodAll_cons r2
  obtain ⟨rfl, rfl, rfl⟩ := trodAll_nil r3
  obtain rfl : args = #[v0, v1, v2, v3] := by cases args; simp_all
  obtain ⟨a0, rfl, rfl, rfl, w0⟩ := open_int Try.underlying33 (hval 0 33 v0 rfl rfl) h0
  obtain ⟨g0a, g0b⟩ := range_u32 w0
  obtain ⟨n0, rfl⟩ := Int.eq_ofNat_of_zero_le g0a
  obtain ⟨a1, rfl, rfl, rfl, w1⟩ := open_int Try.underlying33 (hval 1 33 v1 rfl rfl) h1
  obtain ⟨g1a, g1b⟩ := range_u32 w1
  obtain ⟨n1, rfl⟩ := Int.eq_ofNat_of_zero_le g1a
  obtain ⟨a2, rfl, rfl, rfl, w2⟩ := open_int Try.underlying22 (hval 2 22 v2 rfl rfl) h2
  obtain ⟨g2a, g2b⟩ := range_u64 w2
  obtain ⟨n2, rfl⟩ := Int.eq_ofNat_of_zero_le g2a
  obtain ⟨a3, rfl, rfl, rfl, w3⟩ := open_int Try.underlying22 (hval 3 22 v3 rfl rfl) h3
  obtain ⟨g3a, g3b⟩ := range_u64 w3
  obtain ⟨n3, rfl⟩ := Int.eq_ofNat_of_zero_le g3a
  exact octetParts_walk n0 (by omega) n1 (by omega) n2 (by omega) n3 (by omega) W

theorem octetParts_said : Rows.OctetPartsSaid :=
  OpenClaim.holds_of_wide 6 Try.f6 rfl rfl rfl rfl rfl rfl rfl ⟨rfl, rfl, rfl, rfl, rfl⟩ rfl rfl rfl rfl rfl (by kernel_rfl) Try.func6 (by kernel_rfl)
    (of_decide_eq_true (by kernel_rfl)) (by unfold Func.isWrapper; first | (rw [if_pos (by decide +kernel)]; kernel_rfl) | (rw [if_neg (by decide +kernel)]; exact ⟨rfl, rfl⟩))
    (fun os started H enc _ => law_lift (s := Rows.octetPartsSpec) Try.func6 (by kernel_rfl) rfl rfl (by intro H ds hd; match ds, hd with | [_, _, _, _], _ => exact ⟨rfl, rfl, rfl⟩) (by kernel_rfl) octetParts_walks os started H enc
      (ChangeSpec.witness6 (enc := enc) (C := Try.checked) false ⟨#[], #[.int .u32 0, .int .u32 0, .int .u64 0, .int .u64 0], []⟩ 8 (by kernel_rfl) (by kernel_rfl) (by kernel_rfl) (by kernel_rfl)))

end Go.Proofs.Ytgfgpnhljjkmjaa
