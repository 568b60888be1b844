/-
  PROVED HERE: 'OctetBackSaid': whatever n, size, big and b are, the Go function OctetBack of package wayleavelaw01 returns true, and its arguments read behind the call as they read before. No condition.
-/
import Derived.Test.YtgfgpnhljjkmjaaAwake
import Derived.Test.YtgfgpnhljjkmjaaLift
namespace Go.Proofs.Ytgfgpnhljjkmjaa
open Go.RowKit Go.Shelf Go.ChangeShapes Go.WideShapes Go.ChangeAt

theorem sizeOf8_nat (k : Nat) (h : k ≤ 8) : sizeOf8 (k : Int) = k := by
  unfold sizeOf8
  rw [if_neg (by omega), if_neg (by omega)]
  simp
theorem get_put (n k : Nat) (big : Bool) (h : k ≤ 8) : getOf (bytesOf n k big) big = n % 256 ^ k := by
  unfold getOf
  rw [List.take_of_length_le (by rw [bytesOf_length]; exact h)]
  cases big <;> simp [bytesOf, num_dig]
theorem put_get (xs : List UInt8) (big : Bool) (h : xs.length ≤ 8) : bytesOf (getOf xs big) xs.length big = xs := by
  unfold getOf
  rw [List.take_of_length_le h]
  cases big
  · simp [bytesOf, dig_num]
  · have := dig_num xs.reverse
    rw [List.reverse_reverse, List.length_reverse] at this
    simp [bytesOf, this]

set_option maxRecDepth 100000 in
set_option maxHeartbeats 2000000 in
theorem octetBack_walk (n : Nat) (hn : n < 18446744073709551616) (s : Nat) (hs : s < 256) (big : Bool) (A : Option Addr) (len cap : Nat) (xs : List UInt8) (hcap : len ≤ cap) (hcm : cap ≤ maxLen) (w : World) (hI : Rd w w.heap.size A len xs) :
    Calls Try.prog 4 #[.int .u64 (n : Int), .int .u8 (s : Int), .bool big, .slice A len cap] w fun e W' => e = .returned (.bool true) ∧ Below w.heap.size w W' := by
  by_cases hbig : 8 < len
  · have hb' : (8 : Int) < (len : Int) := by omega
    go_enter Try.func4, Try.ntmps4
    go_wp2_with fail
    refine (awake_any _).mono ?_
    rintro e w1 ⟨rfl, hb1⟩
    go_wp2_with fail
    refine (awake_any _).mono ?_
    rintro e w2 ⟨rfl, hb2⟩
    go_wp2_with fail
    go_ret
    exact ⟨rfl, hb1.trans (hb2.mono hb1.size)⟩
  · have hb' : (len : Int) ≤ 8 := by omega
    obtain ⟨k, hk, hk8⟩ : ∃ k : Nat, (s : Int) % 9 = (k : Int) ∧ k ≤ 8 := ⟨s % 9, by omega, by omega⟩
    have HK := Lib.hid hk
    clear hk
    go_enter Try.func4, Try.ntmps4
    go_wp2_with fail
    refine (awake_any _).mono ?_
    rintro e w1 ⟨rfl, hb1⟩
    by_cases h8 : k < 8
    · have hk' := HK.out
      have h8' : (k : Int) < 8 := by omega
      obtain ⟨p, hp⟩ : ∃ p : Nat, p = 256 ^ k := ⟨_, rfl⟩
      have hp1 : 0 < p := by rw [hp]; exact Nat.pos_of_ne_zero (by simp)
      have hp2 : p < 18446744073709551616 := by
        have : 256 ^ k ≤ 256 ^ 7 := Nat.pow_le_pow_right (by omega) (by omega)
        rw [hp]; omega
      have e2 : (2 : Int) ^ (8 * k) = (p : Int) := by
        rw [hp, Int.natCast_pow, Int.pow_mul]; rfl
      have e3 : IntKind.u64.wrap ((2 : Int) ^ (8 * k)) = (p : Int) := by
        rw [e2, IntKind.wrap_u64]; omega
      have hp0 : (0 : Int) < (p : Int) := by omega
      clear e2
      have HP := Lib.hid hp
      clear hp
      go_wp2_with fail
      refine (put_any n _ big _).mono ?_
      rintro e w2 ⟨v2, rfl, ho2, hb2⟩
      rw [sizeOf8_nat k hk8] at ho2
      have B2 := hb1.trans (hb2.mono hb1.size)
      obtain ⟨A2, m2, c2, rfl, hm2, hmc2, hcm2, hr2⟩ := ho2.sl
      rw [bytesOf_length] at hm2
      have hm2' : m2 ≤ 8 := by omega
      clear hm2
      go_wp2_with fail
      refine (get_any A2 m2 c2 _ big (by omega) hmc2 hcm2 _ hr2).mono ?_
      rintro e w3 ⟨rfl, hb3⟩
      rw [get_put n k big hk8, ← HP.out]
      have B3 := B2.trans (hb3.mono B2.size)
      have hI3 := (hI.below B3).more B3.size
      go_wp2_with fail
      refine (get_any A len cap xs big (by omega) hcap hcm _ hI3).mono ?_
      rintro e w4 ⟨rfl, hb4⟩
      have B4 := B3.trans (hb4.mono B3.size)
      have hI4 := (hI.below B4).more B4.size
      go_wp2_with fail
      refine (put_any _ _ big _).mono ?_
      rintro e w5 ⟨v5, rfl, ho5, hb5⟩
      rw [sizeOf8_nat len (by omega), ← hI.len, put_get xs big (by rw [hI.len]; omega)] at ho5
      have B5 := B4.trans (hb5.mono B4.size)
      obtain ⟨A5, m5, c5, rfl, hm5, hmc5, hcm5, hr5⟩ := ho5.sl
      clear hm5
      go_wp2_with fail
      refine (same_any _ _ _ hr5 (hI4.below hb5)).mono ?_
      rintro e w6 ⟨rfl, rfl⟩
      go_wp2_with fail
      go_ret
      exact ⟨rfl, B5⟩
    · have hk' := HK.out
      obtain rfl : k = 8 := by omega
      clear HK
      go_wp2_with fail
      refine (put_any n _ big _).mono ?_
      rintro e w2 ⟨v2, rfl, ho2, hb2⟩
      rw [show sizeOf8 8 = 8 from by decide] at ho2
      have B2 := hb1.trans (hb2.mono hb1.size)
      obtain ⟨A2, m2, c2, rfl, hm2, hmc2, hcm2, hr2⟩ := ho2.sl
      rw [bytesOf_length] at hm2
      have hm2' : m2 ≤ 8 := by omega
      clear hm2
      go_wp2_with fail
      refine (get_any A2 m2 c2 _ big (by omega) hmc2 hcm2 _ hr2).mono ?_
      rintro e w3 ⟨rfl, hb3⟩
      rw [get_put n 8 big (by omega), Nat.mod_eq_of_lt (by simpa using hn)]
      have B3 := B2.trans (hb3.mono B2.size)
      have hI3 := (hI.below B3).more B3.size
      go_wp2_with fail
      refine (get_any A len cap xs big (by omega) hcap hcm _ hI3).mono ?_
      rintro e w4 ⟨rfl, hb4⟩
      have B4 := B3.trans (hb4.mono B3.size)
      have hI4 := (hI.below B4).more B4.size
      go_wp2_with fail
      refine (put_any _ _ big _).mono ?_
      rintro e w5 ⟨v5, rfl, ho5, hb5⟩
      rw [sizeOf8_nat len (by omega), ← hI.len, put_get xs big (by rw [hI.len]; omega)] at ho5
      have B5 := B4.trans (hb5.mono B4.size)
      obtain ⟨A5, m5, c5, rfl, hm5, hmc5, hcm5, hr5⟩ := ho5.sl
      clear hm5
      go_wp2_with fail
      refine (same_any _ _ _ hr5 (hI4.below hb5)).mono ?_
      rintro e w6 ⟨rfl, rfl⟩
      go_wp2_with fail
      go_ret
      exact ⟨rfl, B5⟩

theorem octetBack_walks : WalksTrue 4 Try.f4 := by
  intro H enc W base args ds p hval hA
  rw [Try.params4] at hA hval
  obtain ⟨v0, vs0, d0, ds0, p0, q0, hargs, rfl, rfl, h0, r0⟩ := trodAll_cons hA
  obtain ⟨v1, vs1, d1, ds1, p1, q1, rfl, rfl, rfl, h1, r1⟩ := trodAll_cons r0
  obtain ⟨v2, vs2, d2, ds2, p2, q2, rfl, rfl, rfl, h2, r2⟩ := trodAll_cons r1
  obtain ⟨v3, vs3, d3, ds3, p3, q3, rfl, rfl, rfl, h3, r3⟩ := trodAll_cons r2
  obtain ⟨rfl, rfl, rfl⟩ := trodAll_nil r3
  obtain rfl : args = #[v0, v1, v2, v3] := by cases args; simp_all
  obtain ⟨a0, rfl, rfl, rfl, w0⟩ := open_int Try.underlying22 (hval 0 22 v0 rfl rfl) h0
  obtain ⟨g0a, g0b⟩ := range_u64 w0
  obtain ⟨n0, rfl⟩ := Int.eq_ofNat_of_zero_le g0a
  obtain ⟨a1, rfl, rfl, rfl, w1⟩ := open_int Try.underlying5 (hval 1 5 v1 rfl rfl) h1
  obtain ⟨g1a, g1b⟩ := range_u8 w1
  obtain ⟨n1, rfl⟩ := Int.eq_ofNat_of_zero_le g1a
  obtain ⟨a2, rfl, rfl, rfl⟩ := open_bool Try.underlying4 (hval 2 4 v2 rfl rfl) h2
  obtain ⟨A3, len3, cap3, xs3, rfl, hc3, hm3, hI3⟩ := open_bytes (hval 3 23 v3 rfl rfl) h3
  exact octetBack_walk n0 (by omega) n1 (by omega) a2 A3 len3 cap3 xs3 hc3 hm3 W hI3

theorem octetBack_said : Rows.OctetBackSaid :=
  OpenClaim.holds_of_wide 4 Try.f4 rfl rfl rfl rfl rfl rfl rfl ⟨rfl, rfl, rfl, rfl, rfl⟩ rfl rfl rfl rfl rfl (by kernel_rfl) Try.func4 (by kernel_rfl)
    (of_decide_eq_true (by kernel_rfl)) (by unfold Func.isWrapper; first | (rw [if_pos (by decide +kernel)]; kernel_rfl) | (rw [if_neg (by decide +kernel)]; exact ⟨rfl, rfl⟩))
    (fun os started H enc _ => law_lift (s := Rows.octetBackSpec) Try.func4 (by kernel_rfl) rfl rfl (by intro H ds hd; match ds, hd with | [_, _, _, _], _ => exact ⟨rfl, rfl, rfl⟩) (by kernel_rfl) octetBack_walks os started H enc
      (ChangeSpec.witness6 (enc := enc) (C := Try.checked) false ⟨#[], #[.int .u64 0, .int .u8 0, .bool false, .slice none 0 0], []⟩ 8 (by kernel_rfl) (by kernel_rfl) (by kernel_rfl) (by kernel_rfl)))

end Go.Proofs.Ytgfgpnhljjkmjaa
