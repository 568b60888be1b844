/-
  The contracts of the document's answers for layer 1: the reference's Put and Get.
-/
import Derived.Test.YtcimgbjliamaiaaCText
namespace Go.Proofs.Ytcimgbjliamaiaa
open Go.RowKit Go.Shelf

theorem bytesOf_succ (n k : Nat) (big : Bool) : bytesOf n (k + 1) big = if big then UInt8.ofNat (n / 256 ^ k) :: bytesOf n k true else bytesOf n k false ++ [UInt8.ofNat (n / 256 ^ k)] := by
  cases big <;> simp [bytesOf, dig_snoc]
theorem div_succ (n k : Nat) : n / 256 ^ k / 256 = n / 256 ^ (k + 1) := by
  rw [Nat.div_div_eq_div_mul, Nat.pow_succ]

set_option maxRecDepth 100000 in
set_option maxHeartbeats 2000000 in
/-- The reference's Put. -/
theorem rput_any (n : Nat) (hn : n < 18446744073709551616) (z : Int) (big : Bool) (w : World) :
    Calls Try.prog 37 #[.int .u64 (n : Int), .int .i64 z, .bool big] w fun e W' => ∃ v, e = .returned v ∧ Own8 W' w.heap.size v (bytesOf n (sizeOf8 z) big) ∧ Below w.heap.size w W' := by
  have hK := sizeOf8_le z
  go_enter Try.func37, Try.ntmps37
  go_wp2_with fail
  go_loopw [0, 7, 8] (fun u v i wr => ∃ k : Nat, k ≤ sizeOf8 z ∧ i = .int .i64 (k : Int) ∧ u = .int .u64 ((n / 256 ^ k : Nat) : Int) ∧ Own8 wr w.heap.size v (bytesOf n k big) ∧ Below w.heap.size w wr)
    (fun _ _ i _ => 8 - (intOf i).toNat)
  case atStart => exact ⟨0, Nat.zero_le _, rfl, by simp, by cases big <;> exact Own8.nil_ _ _, Below.refl _ _⟩
  case round =>
    obtain ⟨k, hk, rfl, rfl, hown, hbel⟩ := hrel
    have hsz := hbel.size
    by_cases hlt : k < sizeOf8 z
    · have h1 : (k : Int) < z := by
        unfold sizeOf8 at hlt
        split at hlt
        · omega
        · split at hlt <;> omega
      have h2 : (k : Int) < 8 := by omega
      have h0 : (0 : Int) ≤ (k : Int) := by omega
      have hS := Lib.hid (bytesOf_succ n k big)
      have hD := Lib.hid (div_succ n k)
      have hm : n / 256 ^ k < 18446744073709551616 := Nat.lt_of_le_of_lt (Nat.div_le_self _ _) hn
      obtain ⟨m, hm0⟩ : ∃ m, n / 256 ^ k = m := ⟨_, rfl⟩
      rw [hm0] at hS hD hm ⊢
      clear hm0
      have hx := byte_mod m
      obtain ⟨x, hx0⟩ : ∃ x, UInt8.ofNat m = x := ⟨_, rfl⟩
      rw [hx0] at hx hS
      clear hx0
      have hl := bytesOf_length n k big
      have hl8 : (bytesOf n k big).length ≤ 8 := by omega
      clear hl
      cases big
      · go_wp2_with (at_builtin; refine wpList_append8 rfl _ _ rfl w.heap.size _ _ (by rfl) (hown.alloc _) _ _ _ _ [x] (by rfl) (Rd.one wr x) (by omega) (by simp; omega) ?_; intro v' w1 hown' hgrow _)
        have hb1 := (hbel.alloc hsz (.cells #[.int .u8 (x.toNat : Int)] 5)).grown hgrow (by simp; omega) hown.lt
        go_wp2_with fail
        go_roundw
        case rel => exact ⟨k + 1, by omega, by go_num, by rw [← hD.out]; simp, by rw [hS.out]; exact hown', hb1⟩
        case measure => simp [intOf]; omega
      · obtain ⟨A0, m0, c0, rfl, hm0, hrd⟩ := hown.rd8 (k := 8) hl8
        have how1 := (Row8.one wr x).own (base := w.heap.size) hsz (Nat.le_refl _) (by unfold maxLen; simp)
        go_wp2_with (at_builtin; refine wpList_append8 rfl _ _ rfl w.heap.size _ [x] (by rfl) how1 _ _ _ _ (bytesOf n k true) (by rfl) (hrd.alloc (Nat.le_refl _) _) (by simp; omega) (by simp; omega) ?_; intro v' w1 hown' hgrow _)
        have hb1 := (hbel.alloc hsz (.cells #[.int .u8 (x.toNat : Int)] 5)).grown hgrow (by simp; omega) how1.lt
        go_wp2_with fail
        go_roundw
        case rel => exact ⟨k + 1, by omega, by go_num, by rw [← hD.out]; simp, by rw [hS.out]; exact hown', hb1⟩
        case measure => simp [intOf]; omega
    · obtain rfl : k = sizeOf8 z := by omega
      have hor : z ≤ ((sizeOf8 z : Nat) : Int) ∨ (8 : Int) ≤ ((sizeOf8 z : Nat) : Int) := by
        unfold sizeOf8
        split
        · omega
        · split <;> omega
      have h9 : n / 256 ^ sizeOf8 z < 18446744073709551616 := Nat.lt_of_le_of_lt (Nat.div_le_self _ _) hn
      generalize n / 256 ^ sizeOf8 z = m at *
      rcases hor with hor | hor
      · go_wp2_with fail
        go_ret
        exact ⟨_, rfl, hown, hbel⟩
      · by_cases hz : z ≤ ((sizeOf8 z : Nat) : Int)
        · go_wp2_with fail
          go_ret
          exact ⟨_, rfl, hown, hbel⟩
        · have hz' : ((sizeOf8 z : Nat) : Int) < z := by omega
          go_wp2_with fail
          go_ret
          exact ⟨_, rfl, hown, hbel⟩
theorem num_take_succ (xs : List UInt8) (k : Nat) (h : k < xs.length) : num (xs.take (k + 1)) = 256 * num (xs.take k) + (xs[k]).toNat := by
  rw [List.take_succ_eq_append_getElem h, num_snoc]

set_option maxRecDepth 100000 in
set_option maxHeartbeats 2000000 in
/-- The reference's Get. -/
theorem rget_any (A : Option Addr) (len cap : Nat) (xs : List UInt8) (big : Bool) (hlen : len ≤ 1000000000) (w : World) (hI : Rd w w.heap.size A len xs) :
    Calls Try.prog 38 #[.slice A len cap, .bool big] w fun e w' => e = .returned (.int .u64 (getOf xs big : Nat)) ∧ w = w' := by
  unfold getOf
  obtain ⟨ys, hys⟩ : ∃ ys, (if big then xs.take 8 else (xs.take 8).reverse) = ys := ⟨_, rfl⟩
  have hl8 : ys.length = min 8 len := by rw [← hys, ← hI.len]; cases big <;> simp
  rw [hys]
  have key : ∀ K : Nat, (hK : min 8 len = K) → ∀ k, (hk : k < K) → (0 < len → ∃ b off, A = some ⟨b, off, none⟩ ∧ w.cell? ⟨b, off + (if big then k else K - 1 - k), none⟩ = some (.int .u8 ((ys[k]'(by omega)).toNat : Int))) := by
    intro K hK k hk h0
    obtain ⟨b, off, e, _, hc⟩ := hI.2 h0
    refine ⟨b, off, e, hc _ _ ?_⟩
    subst hys
    cases big
    · simp only [Bool.false_eq_true, if_false]
      rw [List.getElem_reverse]
      simp only [List.getElem_take, List.length_take]
      have e1 : min 8 xs.length - 1 - k = K - 1 - k := by rw [hI.len, hK]
      rw [← List.getElem?_eq_getElem]
      simp [e1]
    · simp only [if_true]
      rw [List.getElem_take, ← List.getElem?_eq_getElem]
  have HL := Lib.hid hI.len
  by_cases h8 : len ≤ 8
  · have h8' : (len : Int) ≤ 8 := by omega
    have hK : min 8 len = len := by omega
    cases big
    · go_enter Try.func38, Try.ntmps38
      go_wp2_with fail
      go_loop [6, 7] (fun v i => ∃ k : Nat, k ≤ len ∧ i = .int .i64 (k : Int) ∧ v = .int .u64 ((num (ys.take k) : Nat) : Int))
        (fun _ i => len - (intOf i).toNat)
      case atStart => exact ⟨0, Nat.zero_le _, rfl, by simp [num]⟩
      case round =>
        obtain ⟨k, hk, rfl, rfl⟩ := hrel
        by_cases hlt : k < len
        · have hlt' : (k : Int) < (len : Int) := by omega
          have hk0 : (0 : Int) ≤ (k : Int) := by omega
          obtain ⟨b, off, rfl, hc⟩ := key len hK k hlt (by omega)
          have hsn := num_take_succ ys k (by omega)
          have hb2 := num_snoc_lt (ys.take k) (by simp; omega)
          obtain ⟨x, hx⟩ : ∃ x, ys[k]'(by omega) = x := ⟨_, rfl⟩
          rw [hx] at hc hsn
          clear hx
          have HS := Lib.hid hsn
          clear hsn
          have hx := x.toNat_lt
          obtain ⟨m, hm⟩ : ∃ m, num (ys.take k) = m := ⟨_, rfl⟩
          rw [hm] at HS hb2 ⊢
          clear hm
          have HK := Lib.hid hK
          have HY := Lib.hid hl8
          clear key hys
          clear hK hl8
          simp only [Bool.false_eq_true, if_false] at hc
          have hi0 : (0 : Int) ≤ (((len : Int)) - 1 - (k : Int)) := by omega
          have hi1 : (((len : Int)) - 1 - (k : Int)) < (len : Int) := by have := HK.out; omega
          go_wp2_with fail
          go_round
          case rel => exact ⟨k + 1, by omega, by go_num, by rw [HS.out]; go_num⟩
          case measure => simp [intOf]; omega
        · obtain rfl : k = len := by omega
          rw [List.take_of_length_le (by omega)]
          go_wp2_with fail
          go_ret
          exact ⟨rfl, rfl⟩
    · go_enter Try.func38, Try.ntmps38
      go_wp2_with fail
      go_loop [6, 7] (fun v i => ∃ k : Nat, k ≤ len ∧ i = .int .i64 (k : Int) ∧ v = .int .u64 ((num (ys.take k) : Nat) : Int))
        (fun _ i => len - (intOf i).toNat)
      case atStart => exact ⟨0, Nat.zero_le _, rfl, by simp [num]⟩
      case round =>
        obtain ⟨k, hk, rfl, rfl⟩ := hrel
        by_cases hlt : k < len
        · have hlt' : (k : Int) < (len : Int) := by omega
          have hk0 : (0 : Int) ≤ (k : Int) := by omega
          obtain ⟨b, off, rfl, hc⟩ := key len hK k hlt (by omega)
          have hsn := num_take_succ ys k (by omega)
          have hb2 := num_snoc_lt (ys.take k) (by simp; omega)
          obtain ⟨x, hx⟩ : ∃ x, ys[k]'(by omega) = x := ⟨_, rfl⟩
          rw [hx] at hc hsn
          clear hx
          have HS := Lib.hid hsn
          clear hsn
          have hx := x.toNat_lt
          obtain ⟨m, hm⟩ : ∃ m, num (ys.take k) = m := ⟨_, rfl⟩
          rw [hm] at HS hb2 ⊢
          clear hm
          have HK := Lib.hid hK
          have HY := Lib.hid hl8
          clear key hys
          clear hK hl8
          simp only [if_true] at hc
          go_wp2_with fail
          go_round
          case rel => exact ⟨k + 1, by omega, by go_num, by rw [HS.out]; go_num⟩
          case measure => simp [intOf]; omega
        · obtain rfl : k = len := by omega
          rw [List.take_of_length_le (by omega)]
          go_wp2_with fail
          go_ret
          exact ⟨rfl, rfl⟩
  · have h8' : (8 : Int) < (len : Int) := by omega
    have hK : min 8 len = 8 := by omega
    cases big
    · go_enter Try.func38, Try.ntmps38
      go_wp2_with fail
      go_loop [6, 7] (fun v i => ∃ k : Nat, k ≤ 8 ∧ i = .int .i64 (k : Int) ∧ v = .int .u64 ((num (ys.take k) : Nat) : Int))
        (fun _ i => 8 - (intOf i).toNat)
      case atStart => exact ⟨0, Nat.zero_le _, rfl, by simp [num]⟩
      case round =>
        obtain ⟨k, hk, rfl, rfl⟩ := hrel
        by_cases hlt : k < 8
        · have hlt' : (k : Int) < 8 := by omega
          have hk0 : (0 : Int) ≤ (k : Int) := by omega
          obtain ⟨b, off, rfl, hc⟩ := key 8 hK k hlt (by omega)
          have hsn := num_take_succ ys k (by omega)
          have hb2 := num_snoc_lt (ys.take k) (by simp; omega)
          obtain ⟨x, hx⟩ : ∃ x, ys[k]'(by omega) = x := ⟨_, rfl⟩
          rw [hx] at hc hsn
          clear hx
          have HS := Lib.hid hsn
          clear hsn
          have hx := x.toNat_lt
          obtain ⟨m, hm⟩ : ∃ m, num (ys.take k) = m := ⟨_, rfl⟩
          rw [hm] at HS hb2 ⊢
          clear hm
          have HK := Lib.hid hK
          have HY := Lib.hid hl8
          clear key hys
          clear hK hl8
          simp only [Bool.false_eq_true, if_false] at hc
          have hi0 : (0 : Int) ≤ (7 - (k : Int)) := by omega
          have hi1 : (7 - (k : Int)) < (len : Int) := by have := HK.out; omega
          simp only [Nat.reduceSub] at hc
          go_wp2_with fail
          go_round
          case rel => exact ⟨k + 1, by omega, by go_num, by rw [HS.out]; go_num⟩
          case measure => simp [intOf]; omega
        · obtain rfl : k = 8 := by omega
          rw [List.take_of_length_le (by omega)]
          go_wp2_with fail
          go_ret
          exact ⟨rfl, rfl⟩
    · go_enter Try.func38, Try.ntmps38
      go_wp2_with fail
      go_loop [6, 7] (fun v i => ∃ k : Nat, k ≤ 8 ∧ i = .int .i64 (k : Int) ∧ v = .int .u64 ((num (ys.take k) : Nat) : Int))
        (fun _ i => 8 - (intOf i).toNat)
      case atStart => exact ⟨0, Nat.zero_le _, rfl, by simp [num]⟩
      case round =>
        obtain ⟨k, hk, rfl, rfl⟩ := hrel
        by_cases hlt : k < 8
        · have hlt' : (k : Int) < 8 := by omega
          have hk0 : (0 : Int) ≤ (k : Int) := by omega
          obtain ⟨b, off, rfl, hc⟩ := key 8 hK k hlt (by omega)
          have hsn := num_take_succ ys k (by omega)
          have hb2 := num_snoc_lt (ys.take k) (by simp; omega)
          obtain ⟨x, hx⟩ : ∃ x, ys[k]'(by omega) = x := ⟨_, rfl⟩
          rw [hx] at hc hsn
          clear hx
          have HS := Lib.hid hsn
          clear hsn
          have hx := x.toNat_lt
          obtain ⟨m, hm⟩ : ∃ m, num (ys.take k) = m := ⟨_, rfl⟩
          rw [hm] at HS hb2 ⊢
          clear hm
          have HK := Lib.hid hK
          have HY := Lib.hid hl8
          clear key hys
          clear hK hl8
          simp only [if_true] at hc
          go_wp2_with fail
          go_round
          case rel => exact ⟨k + 1, by omega, by go_num, by rw [HS.out]; go_num⟩
          case measure => simp [intOf]; omega
        · obtain rfl : k = 8 := by omega
          rw [List.take_of_length_le (by omega)]
          go_wp2_with fail
          go_ret
          exact ⟨rfl, rfl⟩
end Go.Proofs.Ytcimgbjliamaiaa
