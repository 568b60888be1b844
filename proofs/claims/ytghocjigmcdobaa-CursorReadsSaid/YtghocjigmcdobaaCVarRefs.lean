/-
  The contracts of the document's answers for layer 2: the reference's Put and Get.
-/
import Derived.Test.YtghocjigmcdobaaCVarint
namespace Go.Proofs.Ytghocjigmcdobaa
open Go.RowKit Go.Lib

set_option maxRecDepth 100000 in
set_option maxHeartbeats 2000000 in
/-- The reference's Put: a new slice of the varint. -/
theorem rvput_any (n : Nat) (hn : n < 18446744073709551616) (w : World) :
    Calls Try.prog 32 #[.int .u64 (n : Int)] w fun e W' => ∃ v, e = .returned v ∧ Own8 W' w.heap.size v (uvarint n) ∧ Below w.heap.size w W' := by
  have h10 := uvarint_length64 hn
  obtain ⟨U, hU⟩ : ∃ U, uvarint n = U := ⟨_, rfl⟩
  rw [hU] at h10
  have HU := Lib.hid hU
  clear hU
  go_enter Try.func32, Try.ntmps32
  go_wp2_with fail
  go_loopw [0, 3] (fun u v wr => ∃ (m : Nat) (pre : List UInt8), m < 18446744073709551616 ∧ u = .int .u64 (m : Int) ∧ Own8 wr w.heap.size v pre ∧ pre ++ uvarint m = U ∧ Below w.heap.size w wr)
    (fun u _ _ => (intOf u).toNat)
  case atStart => exact ⟨n, [], hn, rfl, Own8.nil_ _ _, by rw [HU.out]; rfl, Below.refl _ _⟩
  case round =>
    obtain ⟨m, pre, hm, rfl, hown, hpre, hbel⟩ := hrel
    have hsz := hbel.size
    have hpl : pre.length ≤ 10 := by
      have := congrArg List.length hpre
      rw [List.length_append] at this
      omega
    by_cases hb : 128 ≤ m
    · have hb' : (127 : Int) < (m : Int) := by omega
      rw [uvarint_big hb] at hpre
      have e1 : (m : Int) % 128 + 128 = (((m % 128 + 128).toUInt8).toNat : Int) := by simp; omega
      obtain ⟨x, hx⟩ : ∃ x, (m % 128 + 128).toUInt8 = x := ⟨_, rfl⟩
      rw [hx] at hpre e1
      clear hx
      have HP := Lib.hid hpre
      clear hpre
      go_wp2_with (at_builtin; refine wpList_append8 rfl _ _ rfl w.heap.size _ pre (by rfl) (hown.alloc _) _ _ _ _ [x] (by rfl) (Rd.one wr x) (by omega) (by simp; omega) ?_; intro v' w1 hown' hgrow _)
      have hb1 := (hbel.alloc hsz (.cells #[.int .u8 (x.toNat : Int)] 5)).grown hgrow (by simp; omega) hown.lt
      go_wp2_with fail
      go_roundw
      case rel => exact ⟨m / 128, pre ++ [x], by omega, by go_num, hown', by rw [← HP.out]; simp, hb1⟩
      case measure => simp [intOf]; omega
    · obtain ⟨x, rfl⟩ : ∃ x : UInt8, m = x.toNat := ⟨m.toUInt8, by simp; omega⟩
      have hb' : (x.toNat : Int) ≤ 127 := by omega
      rw [uvarint_small (by omega), show x.toNat.toUInt8 = x by simp] at hpre
      have HP := Lib.hid hpre
      clear hpre
      go_wp2_with (at_builtin; refine wpList_append8 rfl _ _ rfl w.heap.size _ pre (by rfl) (hown.alloc _) _ _ _ _ [x] (by rfl) (Rd.one wr x) (by omega) (by simp; omega) ?_; intro v' w1 hown' hgrow _)
      have hb1 := (hbel.alloc hsz (.cells #[.int .u8 (x.toNat : Int)] 5)).grown hgrow (by simp; omega) hown.lt
      go_wp2_with fail
      go_ret
      have hfin : Own8 w1 w.heap.size v' (uvarint n) := by rw [HU.out, ← HP.out]; exact hown'
      exact ⟨_, rfl, hfin, hb1⟩

theorem sum_walk (m x p : Nat) (h1 : x % 128 * p < 18446744073709551616) (h2 : m + x % 128 * p < 18446744073709551616) : IntKind.u64.wrap ((m : Int) + IntKind.u64.wrap ((x : Int) % 128 * (p : Int))) = ((m + x % 128 * p : Nat) : Int) := by
  have e : (x : Int) % 128 * (p : Int) = ((x % 128 * p : Nat) : Int) := by rw [Int.natCast_mul]; rfl
  rw [e, IntKind.wrap_u64, IntKind.wrap_u64]
  omega
theorem sum_lt {m k : Nat} {x : UInt8} (hm : m < 128 ^ k) (h : fitB k x = true) (hk : k ≤ 9) : m + x.toNat % 128 * 128 ^ k < 18446744073709551616 := by
  rcases Nat.lt_or_ge k 9 with h9 | h9
  · have := part_more m (x.toNat % 128) k hm (by omega)
    have h2 : 128 ^ (k + 1) ≤ 128 ^ 9 := Nat.pow_le_pow_right (by decide) (by omega)
    omega
  · obtain rfl : k = 9 := by omega
    have := of_decide_eq_true h
    have h1 : x.toNat % 128 = x.toNat ∨ True := .inr trivial
    have h3 : x.toNat = 1 := by omega
    rw [h3]
    omega
theorem scale_walk (p k : Nat) (hp : p = 128 ^ k) (hk : k < 9) : IntKind.u64.wrap ((p : Int) * 128) = ((128 ^ (k + 1) : Nat) : Int) := by
  have h2 : 128 ^ (k + 1) ≤ 128 ^ 9 := Nat.pow_le_pow_right (by decide) (by omega)
  rw [IntKind.wrap_u64, hp]
  rw [Nat.pow_succ] at h2 ⊢
  omega

set_option maxRecDepth 100000 in
set_option maxHeartbeats 2000000 in
/-- The reference's Get: the number, its bytes, the error. -/
theorem rvget_any (A : Option Addr) (len cap : Nat) (xs : List UInt8) (hlen : len ≤ 100000) (w : World) {B : Nat} (hI : Rd w B A len xs) :
    Calls Try.prog 52 #[.slice A len cap] w fun e w' => e = .returned (.tuple #[.int .u64 ((vget xs).n : Nat), .int .i64 ((vget xs).k : Nat), .int .i64 ((vget xs).e : Nat)]) ∧ w = w' := by
  have HL := Lib.hid hI.len
  go_enter Try.func52, Try.ntmps52
  go_wp2_with fail
  go_loop [5, 6, 7] (fun v s i => ∃ k m p : Nat, k ≤ 9 ∧ k ≤ len ∧ i = .int .i64 (k : Int) ∧ v = .int .u64 (m : Int) ∧ s = .int .u64 (p : Int) ∧ p = 128 ^ k ∧ m < 128 ^ k ∧ vgo (xs.drop k) k m = vget xs)
    (fun _ _ i => len - (intOf i).toNat)
  case atStart => exact ⟨0, 0, 1, by omega, by omega, rfl, rfl, rfl, rfl, by omega, rfl⟩
  case round =>
    obtain ⟨k, m, p, hk9, hk, rfl, rfl, rfl, hp, hm, hg⟩ := hrel
    by_cases hlt : k < len
    · have hlt' : (k : Int) < (len : Int) := by omega
      have hk0 : (0 : Int) ≤ (k : Int) := by omega
      have hk9' : (k : Int) ≤ 9 := by omega
      obtain ⟨b, off, rfl, hb⟩ := hI.addr (by omega)
      have hc := hI.cell (k := k) hlt
      obtain ⟨x, hx⟩ : ∃ x, xs[k]'(by rw [HL.out]; omega) = x := ⟨_, rfl⟩
      rw [hx] at hc
      rw [drop_at (x := x) (by rw [← hx]; exact List.getElem?_eq_getElem _)] at hg
      clear hx
      have hxl := x.toNat_lt
      cases hf : fitB k x with
      | false =>
        rw [vgo_bad hf] at hg
        have HG := Lib.hid hg
        have HP := Lib.hid hp
        have hf' := of_decide_eq_false hf
        clear hg hf hp
        have hA : decide ((9 : Int) < (k : Int)) = false := decide_eq_false (by omega)
        have hE : decide ((0 : Int) < (k : Int)) = true := decide_eq_true (by omega)
        have hE' : decide (0 < k) = true := decide_eq_true (by omega)
        by_cases hx0 : x.toNat = 0
        · have hb0 : ((x.toNat : Int) == 0) = true := beq_iff_eq.2 (by omega)
          have hb1 : decide ((1 : Int) < (x.toNat : Int)) = false := decide_eq_false (by omega)
          clear hx0 hf'
          rcases Bool.eq_false_or_eq_true ((k : Int) == 9) with hB | hB
          all_goals
            go_wp2_with fail
            go_ret3
            rw [← HG.out]
            exact ⟨rfl, rfl⟩
        · have hb0 : ((x.toNat : Int) == 0) = false := beq_eq_false_iff_ne.2 (by omega)
          have hb0' : (x.toNat == 0) = false := beq_eq_false_iff_ne.2 (by omega)
          have hb1 : decide ((1 : Int) < (x.toNat : Int)) = true := decide_eq_true (by omega)
          have hB : ((k : Int) == 9) = true := beq_iff_eq.2 (by omega)
          clear hx0 hf'
          go_wp2_with fail
          go_ret3
          rw [← HG.out]
          exact ⟨rfl, rfl⟩
      | true =>
        have hpl := part_lt hf hk9
        have hsl := sum_lt hm hf hk9
        rw [← hp] at hpl hsl
        have HO := Lib.hid (sum_walk m x.toNat p hpl hsl)
        have hpm := part_more m (x.toNat % 128) k hm (by omega)
        have HP := Lib.hid hp
        have HPm := Lib.hid hpm
        have hf' := of_decide_eq_true hf
        clear hpl hsl hp hpm hm
        have hA : decide ((9 : Int) < (k : Int)) = false := decide_eq_false (by omega)
        have hT : (((k : Int) == 9) = false ∧ decide ((0 : Int) < (k : Int)) = false ∧ decide (0 < k) = false) ∨ (((k : Int) == 9) = false ∧ ((x.toNat : Int) == 0) = false ∧ (x.toNat == 0) = false) ∨ (((k : Int) == 9) = true ∧ decide ((1 : Int) < (x.toNat : Int)) = false ∧ ((x.toNat : Int) == 0) = false ∧ (x.toNat == 0) = false ∧ x.toNat < 128) := by
          by_cases h0 : k = 0
          · exact .inl ⟨beq_eq_false_iff_ne.2 (by omega), decide_eq_false (by omega), decide_eq_false (by omega)⟩
          · by_cases h9 : k < 9
            · exact .inr (.inl ⟨beq_eq_false_iff_ne.2 (by omega), beq_eq_false_iff_ne.2 (by omega), beq_eq_false_iff_ne.2 (by omega)⟩)
            · exact .inr (.inr ⟨beq_iff_eq.2 (by omega), decide_eq_false (by omega), beq_eq_false_iff_ne.2 (by omega), beq_eq_false_iff_ne.2 (by omega), by omega⟩)
        by_cases hx : x.toNat < 128
        · rw [vgo_last hf hx] at hg
          have HG := Lib.hid hg
          have HF := Lib.hid hf
          clear hg hf hf'
          have hx' : (x.toNat : Int) < 128 := by omega
          by_cases hx0 : x.toNat = 0
          · have hb0 : ((x.toNat : Int) == 0) = true := beq_iff_eq.2 (by omega)
            clear hx0
            rcases hT with ⟨t1, t2, t3⟩ | ⟨t1, t2, t3⟩ | ⟨t1, t2, t3, t4, _⟩
            · go_wp2_with fail
              go_ret3
              rw [← HG.out, ← HP.out, HO.out]
              exact ⟨rfl, rfl⟩
            · rw [hb0] at t2; cases t2
            · rw [hb0] at t3; cases t3
          have hb0 : ((x.toNat : Int) == 0) = false := beq_eq_false_iff_ne.2 (by omega)
          have hb1 : (x.toNat == 0) = false := beq_eq_false_iff_ne.2 (by omega)
          rcases hT with ⟨t1, t2, t3⟩ | ⟨t1, t2, t3⟩ | ⟨t1, t2, t3, t4, _⟩
          all_goals
            go_wp2_with fail
            go_ret3
            rw [← HG.out, ← HP.out, HO.out]
            exact ⟨rfl, rfl⟩
        · rw [vgo_more hf hx] at hg
          have hk8 := fitB_more hf hx
          have HG := Lib.hid hg
          have HF := Lib.hid hf
          clear hg hf hf'
          have hx' : decide ((x.toNat : Int) < 128) = false := decide_eq_false (by omega)
          have HW := Lib.hid (scale_walk p k HP.out hk8)
          rcases hT with ⟨t1, t2, t3⟩ | ⟨t1, t2, t3⟩ | ⟨_, _, _, _, t1⟩
          · go_wp2_with fail
            rw [HO.out, HW.out]
            go_round
            case rel => exact ⟨k + 1, m + x.toNat % 128 * p, 128 ^ (k + 1), by omega, by omega, by go_num, rfl, rfl, rfl, by rw [HP.out]; exact HPm.out, by rw [HP.out]; exact HG.out⟩
            case measure => simp [intOf]; omega
          · go_wp2_with fail
            rw [HO.out, HW.out]
            go_round
            case rel => exact ⟨k + 1, m + x.toNat % 128 * p, 128 ^ (k + 1), by omega, by omega, by go_num, rfl, rfl, rfl, by rw [HP.out]; exact HPm.out, by rw [HP.out]; exact HG.out⟩
            case measure => simp [intOf]; omega
          · exact absurd t1 hx
    · obtain rfl : k = len := by omega
      rw [vgo_at_end (by rw [HL.out]; omega)] at hg
      have HG := Lib.hid hg
      have HP := Lib.hid hp
      clear hg hp hm
      go_wp2_with fail
      go_ret3
      rw [← HG.out]
      exact ⟨rfl, rfl⟩
end Go.Proofs.Ytghocjigmcdobaa
