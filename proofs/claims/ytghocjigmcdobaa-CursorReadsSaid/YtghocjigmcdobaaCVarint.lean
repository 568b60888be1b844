/-
  The contracts of varint's functions: Size, Put, fits, Get.
-/
import Derived.Test.YtghocjigmcdobaaCText
import Derived.Test.YtghocjigmcdobaaVarMath
namespace Go.Proofs.Ytghocjigmcdobaa
open Go.RowKit Go.Lib

theorem usize_step {m : Nat} (h : 128 ≤ m) : (uvarint m).length = (uvarint (m / 128)).length + 1 := by rw [uvarint_big h, List.length_cons]
theorem usize_one {m : Nat} (h : m < 128) : (uvarint m).length = 1 := by rw [uvarint_small h]; rfl

set_option maxRecDepth 100000 in
set_option maxHeartbeats 1000000 in
/-- varint.Size: how many bytes the varint has. -/
theorem size_any (n : Nat) (hn : n < 18446744073709551616) (w : World) :
    Calls Try.prog 60 #[.int .u64 (n : Int)] w fun e w' => e = .returned (.int .i64 ((uvarint n).length : Nat)) ∧ w = w' := by
  have h10 := uvarint_length64 hn
  obtain ⟨L, hL⟩ : ∃ L, (uvarint n).length = L := ⟨_, rfl⟩
  rw [hL] at h10 ⊢
  have HL := Lib.hid hL
  clear hL
  go_enter Try.func60, Try.ntmps60
  go_wp2
  go_loop [0, 3] (fun u c => ∃ m k : Nat, m < 18446744073709551616 ∧ u = .int .u64 (m : Int) ∧ c = .int .i64 (k : Int) ∧ k + (uvarint m).length = L + 1)
    (fun u _ => (intOf u).toNat)
  case atStart => exact ⟨n, 1, hn, rfl, rfl, by rw [HL.out]; omega⟩
  case round =>
    obtain ⟨m, k, hm, rfl, rfl, hk⟩ := hrel
    have hp := uvarint_pos m
    have hk10 : k ≤ 10 := by omega
    by_cases hb : 128 ≤ m
    · have hs := usize_step hb
      have hb' : (128 : Int) ≤ (m : Int) := by omega
      have HK := Lib.hid hk
      have HS := Lib.hid hs
      clear hk hs
      go_wp2
      go_round
      case rel => exact ⟨m / 128, k + 1, by omega, by go_num, by go_num, by have := HK.out; have := HS.out; omega⟩
      case measure => simp [intOf]; omega
    · have hs := usize_one (m := m) (by omega)
      have hb' : (m : Int) < 128 := by omega
      obtain rfl : k = L := by omega
      clear hk hs
      go_wp2
      go_ret
      exact ⟨rfl, rfl⟩

theorem u8_or128_nat (m : Nat) : bits .or .u8 ((m : Int) % 256) 128 = (((m % 128 + 128).toUInt8).toNat : Int) := by
  rw [u8_or128_any _ (by omega) (by omega)]
  simp
  omega
theorem toUInt8_mod (m : Nat) : (m : Int) % 256 = ((m.toUInt8).toNat : Int) := by simp

set_option maxRecDepth 100000 in
set_option maxHeartbeats 2000000 in
/-- varint.Put: a new slice of the varint. -/
theorem vput_any (n : Nat) (hn : n < 18446744073709551616) (w : World) :
    Calls Try.prog 55 #[.int .u64 (n : Int)] w fun e W' => ∃ v, e = .returned v ∧ Own8 W' w.heap.size v (uvarint n) ∧ Below w.heap.size w W' := by
  have h10 := uvarint_length64 hn
  have hmk : ∀ W : World, (Instr.makeSlice 22 (.int .i64 0) (.int .i64 ((uvarint n).length : Nat))).run Try.prog W = _ := run_make8 0 (uvarint n).length (Nat.zero_le _) (by omega)
  go_enter Try.func55, Try.ntmps55
  go_wp2_with (go_at_call 60; refine (size_any n hn _).mono ?_; rintro e w' ⟨rfl, rfl⟩)
  clear hmk
  have hown0 := Own8.made0 w (uvarint n).length (by unfold maxLen; omega)
  have hbel0 : Below w.heap.size w _ := (Below.refl _ w).alloc (Nat.le_refl _) (.cells (madeCells #[.int .u8 0] (uvarint n).length) 5)
  obtain ⟨U, hU⟩ : ∃ U, uvarint n = U := ⟨_, rfl⟩
  rw [hU] at h10 hown0 hbel0 ⊢
  have HU := Lib.hid hU
  clear hU
  go_loopw [0, 3] (fun u v wr => ∃ (m : Nat) (pre : List UInt8), m < 18446744073709551616 ∧ u = .int .u64 (m : Int) ∧ Own8 wr w.heap.size v pre ∧ pre ++ uvarint m = U ∧ Below w.heap.size w wr)
    (fun u _ _ => (intOf u).toNat)
  case atStart => exact ⟨n, [], hn, rfl, hown0, by rw [HU.out]; rfl, hbel0⟩
  case round =>
    obtain ⟨m, pre, hm, rfl, hown, hpre, hbel⟩ := hrel
    have hsz := hbel.size
    have hpl : pre.length ≤ 10 := by
      have := congrArg List.length hpre
      rw [List.length_append] at this
      omega
    by_cases hb : 128 ≤ m
    · have hb' : (128 : Int) ≤ (m : Int) := by omega
      rw [uvarint_big hb] at hpre
      have e1 := u8_or128_nat m
      obtain ⟨x, hx⟩ : ∃ x, (m % 128 + 128).toUInt8 = x := ⟨_, rfl⟩
      rw [hx] at hpre e1
      clear hx
      have HP := Lib.hid hpre
      clear hpre
      go_wp2_with (at_builtin; refine wpList_append8 rfl _ _ rfl w.heap.size _ pre (by rfl) (hown.alloc _) _ _ _ _ [x] (by rfl) (Rd.one wr x) (by omega) (by simp; omega) ?_; intro v' w1 hown' hgrow _)
      have hb1 := (hbel.alloc hsz (.cells #[.int .u8 (x.toNat : Int)] 5)).grown hgrow (by simp; omega) hown.lt
      go_wp2_with fail
      go_roundw
      case rel => exact ⟨m / 128, pre ++ [x], by omega, by go_num, hown', by rw [← HP.out]; simp, hb1⟩
      case measure => simp [intOf]; omega
    · obtain ⟨x, rfl⟩ : ∃ x : UInt8, m = x.toNat := ⟨m.toUInt8, by simp; omega⟩
      have hb' : (x.toNat : Int) < 128 := by omega
      rw [uvarint_small (by omega), show x.toNat.toUInt8 = x by simp] at hpre
      have HP := Lib.hid hpre
      clear hpre
      go_wp2_with (at_builtin; refine wpList_append8 rfl _ _ rfl w.heap.size _ pre (by rfl) (hown.alloc _) _ _ _ _ [x] (by rfl) (Rd.one wr x) (by omega) (by simp; omega) ?_; intro v' w1 hown' hgrow _)
      have hb1 := (hbel.alloc hsz (.cells #[.int .u8 (x.toNat : Int)] 5)).grown hgrow (by simp; omega) hown.lt
      go_wp2_with fail
      go_ret
      have hfin : Own8 w1 w.heap.size v' (uvarint n) := by rw [HU.out, ← HP.out]; exact hown'
      exact ⟨_, rfl, hfin, hb1⟩

set_option maxHeartbeats 400000 in
/-- varint.fits: may byte i of a varint be x? -/
theorem fits_any (i : Nat) (hi : i ≤ 100000) (x : UInt8) (w : World) :
    Calls Try.prog 62 #[.int .i64 (i : Int), .int .u8 (x.toNat : Int)] w fun e w' => e = .returned (.bool (fitB i x)) ∧ w = w' := by
  have hx := x.toNat_lt
  rcases Nat.eq_zero_or_pos i with rfl | h0
  · have e : fitB 0 x = true := by simp [fitB]
    rw [e]
    clear e
    go_enter Try.func62, Try.ntmps62
    go_wp2
    go_ret
    exact ⟨rfl, rfl⟩
  · have h0' : (0 : Int) < (i : Int) := by omega
    by_cases hz : x.toNat = 0
    · have e : fitB i x = false := decide_eq_false (by omega)
      rw [e]
      clear e
      rw [hz]
      clear hz hx
      go_enter Try.func62, Try.ntmps62
      go_wp2
      go_ret
      exact ⟨rfl, rfl⟩
    · have hz' : ((x.toNat : Int) != 0) = true := bne_iff_ne.2 (by omega)
      by_cases h9 : i < 9
      · have e : fitB i x = true := decide_eq_true (by omega)
        rw [e]
        clear e
        have h9' : (i : Int) < 9 := by omega
        go_enter Try.func62, Try.ntmps62
        go_wp2
        go_ret
        exact ⟨rfl, rfl⟩
      · have h9' : decide ((i : Int) < 9) = false := decide_eq_false (by omega)
        by_cases h1 : x.toNat = 1
        · have e : fitB i x = true := decide_eq_true (by omega)
          rw [e]
          clear e
          rw [h1]
          clear h1 hz hz' hx
          go_enter Try.func62, Try.ntmps62
          go_wp2
          go_ret
          exact ⟨rfl, rfl⟩
        · have e : fitB i x = false := decide_eq_false (by omega)
          rw [e]
          clear e
          have h1' : ((x.toNat : Int) == 1) = false := beq_eq_false_iff_ne.2 (by omega)
          go_enter Try.func62, Try.ntmps62
          go_wp2
          go_ret
          exact ⟨rfl, rfl⟩

theorem or_add (m x k : Nat) (hm : m < 128 ^ k) (hk : k ≤ 9) (hx : x * 128 ^ k < 18446744073709551616) : bits .or .u64 (m : Int) ((x * 128 ^ k : Nat) : Int) = ((m + x * 128 ^ k : Nat) : Int) := by
  have hp : (128 : Nat) ^ k = 2 ^ (7 * k) := by rw [Nat.pow_mul]
  have hm9 : 128 ^ k ≤ 128 ^ 9 := Nat.pow_le_pow_right (by decide) hk
  rw [u64_or_nat m _ (by omega) hx]
  have h := Nat.shiftLeft_add_eq_or_of_lt (i := 7 * k) (b := m) (by rw [← hp]; exact hm) x
  rw [Nat.shiftLeft_eq, ← hp] at h
  rw [Nat.or_comm, ← h, Nat.add_comm]
theorem shl_val (y k : Nat) (hx : y * 128 ^ k < 18446744073709551616) : IntKind.u64.wrap ((y : Int) * 2 ^ (7 * k)) = ((y * 128 ^ k : Nat) : Int) := by
  have hp : (2 : Int) ^ (7 * k) = ((128 ^ k : Nat) : Int) := by
    rw [show (128 : Nat) = 2 ^ 7 from rfl, ← Nat.pow_mul, Int.natCast_pow]; rfl
  rw [hp, IntKind.wrap_u64]
  omega
theorem or_walk (m x k : Nat) (hm : m < 128 ^ k) (hk : k ≤ 9) (hx : x % 128 * 128 ^ k < 18446744073709551616) : bits .or .u64 (m : Int) (IntKind.u64.wrap ((x : Int) % 128 * 2 ^ (7 * k))) = ((m + x % 128 * 128 ^ k : Nat) : Int) := by
  have h := shl_val (x % 128) k hx
  rw [show ((x % 128 : Nat) : Int) = (x : Int) % 128 from by omega] at h
  rw [h, or_add m _ k hm hk hx]
theorem part_lt {x : UInt8} {k : Nat} (h : fitB k x = true) (hk : k ≤ 9) : x.toNat % 128 * 128 ^ k < 18446744073709551616 :=
  Nat.lt_of_le_of_lt (Nat.mul_le_mul_right _ (Nat.mod_le _ _)) (fitB_last h hk)
theorem part_more (m y k : Nat) (hm : m < 128 ^ k) (hy : y < 128) : m + y * 128 ^ k < 128 ^ (k + 1) := by
  have h : (y + 1) * 128 ^ k ≤ 128 * 128 ^ k := Nat.mul_le_mul_right _ (by omega)
  rw [Nat.add_mul] at h
  rw [Nat.pow_succ]
  omega

set_option maxRecDepth 100000 in
set_option maxHeartbeats 2000000 in
/-- varint.Get: the number, its bytes, the error. -/
theorem vget_any (A : Option Addr) (len cap : Nat) (xs : List UInt8) (hlen : len ≤ 100000) (w : World) {B : Nat} (hI : Rd w B A len xs) :
    Calls Try.prog 59 #[.slice A len cap] w fun e w' => e = .returned (.tuple #[.int .u64 ((vget xs).n : Nat), .int .i64 ((vget xs).k : Nat), .int .i64 ((vget xs).e : Nat)]) ∧ w = w' := by
  have HL := Lib.hid hI.len
  go_enter Try.func59, Try.ntmps59
  go_wp2_with fail
  go_loop [5, 10] (fun v i => ∃ k m : Nat, k ≤ 9 ∧ k ≤ len ∧ i = .int .i64 (k : Int) ∧ v = .int .u64 (m : Int) ∧ m < 128 ^ k ∧ vgo (xs.drop k) k m = vget xs)
    (fun _ i => len - (intOf i).toNat)
  case atStart => exact ⟨0, 0, by omega, by omega, rfl, rfl, by omega, rfl⟩
  case round =>
    obtain ⟨k, m, hk9, hk, rfl, rfl, hm, hg⟩ := hrel
    by_cases hlt : k < len
    · have hlt' : (k : Int) < (len : Int) := by omega
      have hk0 : (0 : Int) ≤ (k : Int) := by omega
      obtain ⟨b, off, rfl, hb⟩ := hI.addr (by omega)
      have hc := hI.cell (k := k) hlt
      obtain ⟨x, hx⟩ : ∃ x, xs[k]'(by rw [HL.out]; omega) = x := ⟨_, rfl⟩
      rw [hx] at hc
      rw [drop_at (x := x) (by rw [← hx]; exact List.getElem?_eq_getElem _)] at hg
      clear hx
      have hxl := x.toNat_lt
      cases hf : fitB k x with
      | false =>
        rw [vgo_bad hf] at hg
        have HG := Lib.hid hg
        clear hg
        go_wp2_with (go_at_call 62; refine (fits_any k (by omega) x _).mono ?_; rintro e w' ⟨rfl, rfl⟩)
        go_ret3
        rw [← HG.out]
        exact ⟨rfl, rfl⟩
      | true =>
        have hpl := part_lt hf hk9
        have HO := Lib.hid (or_walk m x.toNat k hm hk9 hpl)
        have hpm := part_more m (x.toNat % 128) k hm (by omega)
        by_cases hx : x.toNat < 128
        · rw [vgo_last hf hx] at hg
          have HG := Lib.hid hg
          have HF := Lib.hid hf
          clear hg hf
          have hx' : (x.toNat : Int) < 128 := by omega
          go_wp2_with (go_at_call 62; refine (fits_any k (by omega) x _).mono ?_; rintro e w' ⟨rfl, rfl⟩; rw [HF.out])
          go_ret3
          rw [← HG.out, HO.out]
          exact ⟨rfl, rfl⟩
        · rw [vgo_more hf hx] at hg
          have hk8 := fitB_more hf hx
          have HG := Lib.hid hg
          have HF := Lib.hid hf
          clear hg hf
          have hx' : (128 : Int) ≤ (x.toNat : Int) := by omega
          go_wp2_with (go_at_call 62; refine (fits_any k (by omega) x _).mono ?_; rintro e w' ⟨rfl, rfl⟩; rw [HF.out])
          rw [HO.out]
          go_round
          case rel => exact ⟨k + 1, m + x.toNat % 128 * 128 ^ k, by omega, by omega, by go_num, rfl, hpm, HG.out⟩
          case measure => simp [intOf]; omega
    · obtain rfl : k = len := by omega
      rw [vgo_at_end (by rw [HL.out]; omega)] at hg
      have HG := Lib.hid hg
      clear hg
      go_wp2_with fail
      go_ret3
      rw [← HG.out]
      exact ⟨rfl, rfl⟩

end Go.Proofs.Ytghocjigmcdobaa
