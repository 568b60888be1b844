/-
  The contract of octet.Put.
-/
import Derived.Test.YtcimgbjliamaiaaGet
namespace Go.Proofs.Ytcimgbjliamaiaa
open Go.RowKit Go.Shelf

theorem turn_any (A : Option Addr) (len cap : Nat) (xs : List UInt8) (hlen : len ≤ 1000000000) (w : World) (hI : Rd w w.heap.size A len xs) :
    Calls Try.prog 39 #[.slice A len cap] w fun e W' => ∃ v, e = .returned v ∧ Own8 W' w.heap.size v xs.reverse ∧ Below w.heap.size w W' :=
  callsIn_wide.1 (turn_in Fence.wide 3 trivial trivial trivial rfl (by omega) A len cap xs hlen w hI)
theorem get_any (A : Option Addr) (len cap : Nat) (xs : List UInt8) (big : Bool) (hlen : len ≤ 1000000000) (hcap : len ≤ cap) (hcap2 : cap ≤ maxLen) (w : World) (hI : Rd w w.heap.size A len xs) :
    Calls Try.prog 35 #[.slice A len cap, .bool big] w fun e W' => e = .returned (.int .u64 (getOf xs big : Nat)) ∧ Below w.heap.size w W' :=
  callsIn_wide.1 (get_in Fence.wide 4 trivial trivial trivial trivial rfl (by omega) A len cap xs big hlen hcap hcap2 w hI)

theorem digs_set {n s k : Nat} (hk : k < s) : (dig n k ++ List.replicate (s - k) 0).set k (UInt8.ofNat (n / 256 ^ k)) = dig n (k + 1) ++ List.replicate (s - (k + 1)) 0 := by
  rw [dig_snoc, List.append_assoc]
  rw [List.set_append_right _ _ (by rw [dig_length]; exact Nat.le_refl _), dig_length, Nat.sub_self]
  congr 1
  obtain ⟨m, hm⟩ : ∃ m, s - k = m + 1 := ⟨s - k - 1, by omega⟩
  have hm' : s - (k + 1) = m := by omega
  rw [hm, hm', List.replicate_succ]
  rfl
theorem digs_len (n s k : Nat) (hk : k ≤ s) : (dig n k ++ List.replicate (s - k) (0 : UInt8)).length = s := by
  rw [List.length_append, dig_length, List.length_replicate]; omega
theorem shr_byte (n k : Nat) : ((n : Int) / 2 ^ (8 * k) % 256) = ((UInt8.ofNat (n / 256 ^ k)).toNat : Int) := by
  have e : (2 : Nat) ^ (8 * k) = 256 ^ k := by rw [Nat.pow_mul]
  have e2 : (2 : Int) ^ (8 * k) = ((256 ^ k : Nat) : Int) := by rw [← e, Int.natCast_pow]; rfl
  rw [e2, UInt8.toNat_ofNat']
  omega

set_option maxRecDepth 100000 in
set_option maxHeartbeats 1000000 in
theorem put_mid (n : Nat) (s : Nat) (hs : s ≤ 8) (big : Bool) (w : World) :
    Calls Try.prog 34 #[.int .u64 (n : Int), .int .i64 (s : Int), .bool big] w fun e W' => ∃ v, e = .returned v ∧ Own8 W' w.heap.size v (if big then (dig n s).reverse else dig n s) ∧ Below w.heap.size w W' := by
  have hmk : ∀ W : World, (Instr.makeSlice 43 (.int .i64 (s : Int)) (.int .i64 (s : Int))).run Try.prog W = _ := run_make8 s s (Nat.le_refl _) (by omega)
  have hs' : (s : Int) ≤ 8 := by omega
  have hs0 : (0 : Int) ≤ (s : Int) := by omega
  go_enter Try.func34, Try.ntmps34
  go_wp2_with fail
  go_loopw [15] (fun i wr => ∃ k : Nat, k ≤ s ∧ i = .int .i64 (k : Int) ∧ Row8 wr w.heap.size (dig n k ++ List.replicate (s - k) 0) ∧ Below w.heap.size w wr)
    (fun i _ => s - (intOf i).toNat)
  case atStart => exact ⟨0, Nat.zero_le _, rfl, by simpa [dig] using Row8.made w s, (Below.refl _ _).alloc (Nat.le_refl _) _⟩
  case round =>
    obtain ⟨k, hk, rfl, hrow, hbel⟩ := hrel
    by_cases hlt : k < s
    · have hlt' : (k : Int) < (s : Int) := by omega
      have hk8 : k < 8 := by omega
      have hk0 : (0 : Int) ≤ (k : Int) := by omega
      have hc := hrow.cell (i := k) (List.getElem?_eq_getElem (by rw [digs_len n s k hk]; exact hlt))
      unfold v8 at hc
      have hf := hrow.frozen k
      have hset := hrow.set k (UInt8.ofNat (n / 256 ^ k))
      rw [digs_set hlt, ← shr_byte] at hset
      have hb := hbel.setCell (p := ⟨w.heap.size, k, none⟩) (Nat.le_refl _) (.int .u8 ((n : Int) / 2 ^ (8 * k) % 256))
      clear hrow hbel
      go_wp2_with fail
      go_roundw
      case rel => exact ⟨k + 1, by omega, by go_num, hset, hb⟩
      case measure => simp [intOf]; omega
    · obtain rfl : s = k := by omega
      have hz0 : s - s = 0 := by omega
      rw [hz0, List.replicate_zero, List.append_nil] at hrow
      clear hz0
      have hrd := hrow.rd (B := wr.heap.size) hrow.lt
      have how := hrow.own (base := w.heap.size) (Nat.le_refl _) (Nat.le_refl _) (by rw [dig_length]; unfold maxLen; omega)
      rw [List.take_length] at how
      rw [dig_length] at hrd how
      clear hrow
      have hsz := hbel.size
      cases big
      · go_wp2_with fail
        go_ret
        exact ⟨_, rfl, how, hbel⟩
      · go_wp2_with (go_at_call 39; refine (turn_any _ _ _ _ (by omega) _ hrd).mono ?_; rintro e w1 ⟨v, rfl, hown, hb1⟩)
        go_ret
        exact ⟨_, rfl, hown.base_le hsz, hbel.trans (hb1.mono hsz)⟩

set_option maxRecDepth 100000 in
set_option maxHeartbeats 1000000 in
theorem put_low (n : Nat) (z : Int) (hz : z < 0) (big : Bool) (w : World) :
    Calls Try.prog 34 #[.int .u64 (n : Int), .int .i64 z, .bool big] w fun e W' => ∃ v, e = .returned v ∧ Own8 W' w.heap.size v (if big then (dig n 0).reverse else dig n 0) ∧ Below w.heap.size w W' := by
  have hmk : ∀ W : World, (Instr.makeSlice 43 (.int .i64 0) (.int .i64 0)).run Try.prog W = _ := run_make8 0 0 (Nat.le_refl _) (by omega)
  go_enter Try.func34, Try.ntmps34
  go_wp2_with fail
  go_loopw [15] (fun i wr => ∃ k : Nat, k ≤ 0 ∧ i = .int .i64 (k : Int) ∧ Row8 wr w.heap.size (dig n k ++ List.replicate (0 - k) 0) ∧ Below w.heap.size w wr)
    (fun i _ => 0 - (intOf i).toNat)
  case atStart => exact ⟨0, Nat.zero_le _, rfl, by simpa [dig] using Row8.made w 0, (Below.refl _ _).alloc (Nat.le_refl _) _⟩
  case round =>
    obtain ⟨k, hk, rfl, hrow, hbel⟩ := hrel
    obtain rfl : k = 0 := by omega
    have hz0 : 0 - 0 = 0 := by omega
    rw [hz0, List.replicate_zero, List.append_nil] at hrow
    clear hz0
    have hrd := hrow.rd (B := wr.heap.size) hrow.lt
    have how := hrow.own (base := w.heap.size) (Nat.le_refl _) (Nat.le_refl _) (by rw [dig_length]; unfold maxLen; omega)
    rw [List.take_length] at how
    rw [dig_length] at hrd how
    clear hrow
    have hsz := hbel.size
    cases big
    · go_wp2_with fail
      go_ret
      exact ⟨_, rfl, how, hbel⟩
    · go_wp2_with (go_at_call 39; refine (turn_any _ _ _ _ (by omega) _ hrd).mono ?_; rintro e w1 ⟨v, rfl, hown, hb1⟩)
      go_ret
      exact ⟨_, rfl, hown.base_le hsz, hbel.trans (hb1.mono hsz)⟩

set_option maxRecDepth 100000 in
set_option maxHeartbeats 1000000 in
theorem put_high (n : Nat) (z : Int) (hz : 8 < z) (big : Bool) (w : World) :
    Calls Try.prog 34 #[.int .u64 (n : Int), .int .i64 z, .bool big] w fun e W' => ∃ v, e = .returned v ∧ Own8 W' w.heap.size v (if big then (dig n 8).reverse else dig n 8) ∧ Below w.heap.size w W' := by
  have hmk : ∀ W : World, (Instr.makeSlice 43 (.int .i64 8) (.int .i64 8)).run Try.prog W = _ := run_make8 8 8 (Nat.le_refl _) (by omega)
  have hz0 : (0 : Int) ≤ z := by omega
  go_enter Try.func34, Try.ntmps34
  go_wp2_with fail
  go_loopw [15] (fun i wr => ∃ k : Nat, k ≤ 8 ∧ i = .int .i64 (k : Int) ∧ Row8 wr w.heap.size (dig n k ++ List.replicate (8 - k) 0) ∧ Below w.heap.size w wr)
    (fun i _ => 8 - (intOf i).toNat)
  case atStart => exact ⟨0, Nat.zero_le _, rfl, by simpa [dig] using Row8.made w 8, (Below.refl _ _).alloc (Nat.le_refl _) _⟩
  case round =>
    obtain ⟨k, hk, rfl, hrow, hbel⟩ := hrel
    by_cases hlt : k < 8
    · have hlt' : (k : Int) < 8 := by omega
      have hk8 : k < 8 := by omega
      have hk0 : (0 : Int) ≤ (k : Int) := by omega
      have hc := hrow.cell (i := k) (List.getElem?_eq_getElem (by rw [digs_len n 8 k hk]; exact hlt))
      unfold v8 at hc
      have hf := hrow.frozen k
      have hset := hrow.set k (UInt8.ofNat (n / 256 ^ k))
      rw [digs_set hlt, ← shr_byte] at hset
      have hb := hbel.setCell (p := ⟨w.heap.size, k, none⟩) (Nat.le_refl _) (.int .u8 ((n : Int) / 2 ^ (8 * k) % 256))
      clear hrow hbel
      go_wp2_with fail
      go_roundw
      case rel => exact ⟨k + 1, by omega, by go_num, hset, hb⟩
      case measure => simp [intOf]; omega
    · obtain rfl : k = 8 := by omega
      have hz0 : 8 - 8 = 0 := by omega
      rw [hz0, List.replicate_zero, List.append_nil] at hrow
      clear hz0
      have hrd := hrow.rd (B := wr.heap.size) hrow.lt
      have how := hrow.own (base := w.heap.size) (Nat.le_refl _) (Nat.le_refl _) (by rw [dig_length]; unfold maxLen; omega)
      rw [List.take_length] at how
      rw [dig_length] at hrd how
      clear hrow
      have hsz := hbel.size
      cases big
      · go_wp2_with fail
        go_ret
        exact ⟨_, rfl, how, hbel⟩
      · go_wp2_with (go_at_call 39; refine (turn_any _ _ _ _ (by omega) _ hrd).mono ?_; rintro e w1 ⟨v, rfl, hown, hb1⟩)
        go_ret
        exact ⟨_, rfl, hown.base_le hsz, hbel.trans (hb1.mono hsz)⟩

/-- How many bytes a size stands for. -/
def sizeOf8 (z : Int) : Nat := if z < 0 then 0 else if 8 < z then 8 else z.toNat
theorem sizeOf8_le (z : Int) : sizeOf8 z ≤ 8 := by unfold sizeOf8; split <;> (try split) <;> omega
/-- The bytes of n, so many, in an order. -/
def bytesOf (n : Nat) (k : Nat) (big : Bool) : List UInt8 := if big then (dig n k).reverse else dig n k
theorem bytesOf_length (n k : Nat) (big : Bool) : (bytesOf n k big).length = k := by cases big <;> simp [bytesOf, dig_length]

/-- octet.Put: a new slice of the number's lowest digits, in the order that is asked. -/
theorem put_any (n : Nat) (z : Int) (big : Bool) (w : World) :
    Calls Try.prog 34 #[.int .u64 (n : Int), .int .i64 z, .bool big] w fun e W' => ∃ v, e = .returned v ∧ Own8 W' w.heap.size v (bytesOf n (sizeOf8 z) big) ∧ Below w.heap.size w W' := by
  unfold bytesOf sizeOf8
  by_cases h0 : z < 0
  · rw [if_pos h0]; exact put_low n z h0 big w
  · rw [if_neg h0]
    by_cases h8 : 8 < z
    · rw [if_pos h8]; exact put_high n z h8 big w
    · rw [if_neg h8]
      obtain ⟨s, rfl⟩ := Int.eq_ofNat_of_zero_le (show 0 ≤ z by omega)
      rw [Int.toNat_natCast]
      exact put_mid n s (by omega) big w
end Go.Proofs.Ytcimgbjliamaiaa
