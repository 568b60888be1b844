/-
  The contracts of the document's answers for layer 1: the reference's Put and Get.
-/
import Derived.Test.YtajmppaodhpmgaaQB
namespace Go.Proofs.Ytajmppaodhpmgaa
open Go.RowKit Go.Shelf

theorem bytesOf_succ (n k : Nat) (big : Bool) : bytesOf n (k + 1) big = if big then UInt8.ofNat (n / 256 ^ k) :: bytesOf n k true else bytesOf n k false ++ [UInt8.ofNat (n / 256 ^ k)] := by
  cases big <;> simp [bytesOf, dig_snoc]
theorem div_succ (n k : Nat) : n / 256 ^ k / 256 = n / 256 ^ (k + 1) := by
  rw [Nat.div_div_eq_div_mul, Nat.pow_succ]

set_option maxRecDepth 100000 in
set_option maxHeartbeats 2000000 in
/-- The reference's Put. -/
theorem rput_any (n : Nat) (hn : n < 18446744073709551616) (z : Int) (big : Bool) (w : World) :
    Calls Try.prog 51 #[.int .u64 (n : Int), .int .i64 z, .bool big] w fun e W' => ∃ v, e = .returned v ∧ Own8 W' w.heap.size v (bytesOf n (sizeOf8 z) big) ∧ Below w.heap.size w W' := by
  have hK := sizeOf8_le z
  go_enter Try.func51, Try.ntmps51
  go_wp2_with fail
  go_loopw [0, 7, 8] (fun u v i wr => ∃ k : Nat, k ≤ sizeOf8 z ∧ i = .int .i64 (k : Int) ∧ u = .int .u64 ((n / 256 ^ k : Nat) : Int) ∧ Own8 wr w.heap.size v (bytesOf n k big) ∧ Below w.heap.size w wr)
    (fun _ _ i _ => 8 - (intOf i).toNat)
  case atStart => exact ⟨0, Nat.zero_le _, rfl, by simp, by cases big <;> exact Own8.nil_ _ _, Below.refl _ _⟩
  case round =>
    obtain ⟨k, hk, rfl, rfl, hown, hbel⟩ := hrel
    have hsz := hbel.size
    by_cases hlt : k < sizeOf8 z
    · have h1 : (k : Int) < z := by
        unfold sizeOf8 at hlt
        split at hlt
        · omega
        · split at hlt <;> omega
      have h2 : (k : Int) < 8 := by omega
      have h0 : (0 : Int) ≤ (k : Int) := by omega
      have hS := Lib.hid (bytesOf_succ n k big)
      have hD := Lib.hid (div_succ n k)
      have hm : n / 256 ^ k < 18446744073709551616 := Nat.lt_of_le_of_lt (Nat.div_le_self _ _) hn
      obtain ⟨m, hm0⟩ : ∃ m, n / 256 ^ k = m := ⟨_, rfl⟩
      rw [hm0] at hS hD hm ⊢
      clear hm0
      have hx := byte_mod m
      obtain ⟨x, hx0⟩ : ∃ x, UInt8.ofNat m = x := ⟨_, rfl⟩
      rw [hx0] at hx hS
      clear hx0
      have hl := bytesOf_length n k big
      have hl8 : (bytesOf n k big).length ≤ 8 := by omega
      clear hl
      cases big
      · go_wp2_with (at_builtin; refine wpList_append8 rfl _ _ rfl w.heap.size _ _ (by rfl) (hown.alloc _) _ _ _ _ [x] (by rfl) (Rd.one wr x) (by omega) (by simp; omega) ?_; intro v' w1 hown' hgrow _)
        have hb1 := (hbel.alloc hsz (.cells #[.int .u8 (x.toNat : Int)] 5)).grown hgrow (by simp; omega) hown.lt
        go_wp2_with fail
        go_roundw
        case rel => exact ⟨k + 1, by omega, by go_num, by rw [← hD.out]; simp, by rw [hS.out]; exact hown', hb1⟩
        case measure => simp [intOf]; omega
      · obtain ⟨A0, m0, c0, rfl, hm0, hrd⟩ := hown.rd8 (k := 8) hl8
        have how1 := (Row8.one wr x).own (base := w.heap.size) hsz (Nat.le_refl _) (by unfold maxLen; simp)
        go_wp2_with (at_builtin; refine wpList_append8 rfl _ _ rfl w.heap.size _ [x] (by rfl) how1 _ _ _ _ (bytesOf n k true) (by rfl) (hrd.alloc (Nat.le_refl _) _) (by simp; omega) (by simp; omega) ?_; intro v' w1 hown' hgrow _)
        have hb1 := (hbel.alloc hsz (.cells #[.int .u8 (x.toNat : Int)] 5)).grown hgrow (by simp; omega) how1.lt
        go_wp2_with fail
        go_roundw
        case rel => exact ⟨k + 1, by omega, by go_num, by rw [← hD.out]; simp, by rw [hS.out]; exact hown', hb1⟩
        case measure => simp [intOf]; omega
    · obtain rfl : k = sizeOf8 z := by omega
      have hor : z ≤ ((sizeOf8 z : Nat) : Int) ∨ (8 : Int) ≤ ((sizeOf8 z : Nat) : Int) := by
        unfold sizeOf8
        split
        · omega
        · split <;> omega
      have h9 : n / 256 ^ sizeOf8 z < 18446744073709551616 := Nat.lt_of_le_of_lt (Nat.div_le_self _ _) hn
      generalize n / 256 ^ sizeOf8 z = m at *
      rcases hor with hor | hor
      · go_wp2_with fail
        go_ret
        exact ⟨_, rfl, hown, hbel⟩
      · by_cases hz : z ≤ ((sizeOf8 z : Nat) : Int)
        · go_wp2_with fail
          go_ret
          exact ⟨_, rfl, hown, hbel⟩
        · have hz' : ((sizeOf8 z : Nat) : Int) < z := by omega
          go_wp2_with fail
          go_ret
          exact ⟨_, rfl, hown, hbel⟩
end Go.Proofs.Ytajmppaodhpmgaa
