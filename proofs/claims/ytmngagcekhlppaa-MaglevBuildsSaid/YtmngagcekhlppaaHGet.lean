/-
  The document's Get (stage 1's), alone: for a seat without the document's Put.
-/
import Derived.Test.YtmngagcekhlppaaQB
namespace Go.Proofs.Ytmngagcekhlppaa
open Go.RowKit Go.Shelf
theorem num_take_succ (xs : List UInt8) (k : Nat) (h : k < xs.length) : num (xs.take (k + 1)) = 256 * num (xs.take k) + (xs[k]).toNat := by
  rw [List.take_succ_eq_append_getElem h, num_snoc]
set_option maxRecDepth 100000 in
set_option maxHeartbeats 2000000 in
/-- The reference's Get. -/
theorem rget_any (A : Option Addr) (len cap : Nat) (xs : List UInt8) (big : Bool) (hlen : len ≤ 1000000000) (w : World) (hI : Rd w w.heap.size A len xs) :
    Calls Try.prog 44 #[.slice A len cap, .bool big] w fun e w' => e = .returned (.int .u64 (getOf xs big : Nat)) ∧ w = w' := by
  unfold getOf
  obtain ⟨ys, hys⟩ : ∃ ys, (if big then xs.take 8 else (xs.take 8).reverse) = ys := ⟨_, rfl⟩
  have hl8 : ys.length = min 8 len := by rw [← hys, ← hI.len]; cases big <;> simp
  rw [hys]
  have key : ∀ K : Nat, (hK : min 8 len = K) → ∀ k, (hk : k < K) → (0 < len → ∃ b off, A = some ⟨b, off, none⟩ ∧ w.cell? ⟨b, off + (if big then k else K - 1 - k), none⟩ = some (.int .u8 ((ys[k]'(by omega)).toNat : Int))) := by
    intro K hK k hk h0
    obtain ⟨b, off, e, _, hc⟩ := hI.2 h0
    refine ⟨b, off, e, hc _ _ ?_⟩
    subst hys
    cases big
    · simp only [Bool.false_eq_true, if_false]
      rw [List.getElem_reverse]
      simp only [List.getElem_take, List.length_take]
      have e1 : min 8 xs.length - 1 - k = K - 1 - k := by rw [hI.len, hK]
      rw [← List.getElem?_eq_getElem]
      simp [e1]
    · simp only [if_true]
      rw [List.getElem_take, ← List.getElem?_eq_getElem]
  have HL := Lib.hid hI.len
  by_cases h8 : len ≤ 8
  · have h8' : (len : Int) ≤ 8 := by omega
    have hK : min 8 len = len := by omega
    cases big
    · go_enter Try.func44, Try.ntmps44
      go_wp2_with fail
      go_loop [6, 7] (fun v i => ∃ k : Nat, k ≤ len ∧ i = .int .i64 (k : Int) ∧ v = .int .u64 ((num (ys.take k) : Nat) : Int))
        (fun _ i => len - (intOf i).toNat)
      case atStart => exact ⟨0, Nat.zero_le _, rfl, by simp [num]⟩
      case round =>
        obtain ⟨k, hk, rfl, rfl⟩ := hrel
        by_cases hlt : k < len
        · have hlt' : (k : Int) < (len : Int) := by omega
          have hk0 : (0 : Int) ≤ (k : Int) := by omega
          obtain ⟨b, off, rfl, hc⟩ := key len hK k hlt (by omega)
          have hsn := num_take_succ ys k (by omega)
          have hb2 := num_snoc_lt (ys.take k) (by simp; omega)
          obtain ⟨x, hx⟩ : ∃ x, ys[k]'(by omega) = x := ⟨_, rfl⟩
          rw [hx] at hc hsn
          clear hx
          have HS := Lib.hid hsn
          clear hsn
          have hx := x.toNat_lt
          obtain ⟨m, hm⟩ : ∃ m, num (ys.take k) = m := ⟨_, rfl⟩
          rw [hm] at HS hb2 ⊢
          clear hm
          have HK := Lib.hid hK
          have HY := Lib.hid hl8
          clear key hys
          clear hK hl8
          simp only [Bool.false_eq_true, if_false] at hc
          have hi0 : (0 : Int) ≤ (((len : Int)) - 1 - (k : Int)) := by omega
          have hi1 : (((len : Int)) - 1 - (k : Int)) < (len : Int) := by have := HK.out; omega
          go_wp2_with fail
          go_round
          case rel => exact ⟨k + 1, by omega, by go_num, by rw [HS.out]; go_num⟩
          case measure => simp [intOf]; omega
        · obtain rfl : k = len := by omega
          rw [List.take_of_length_le (by omega)]
          go_wp2_with fail
          go_ret
          exact ⟨rfl, rfl⟩
    · go_enter Try.func44, Try.ntmps44
      go_wp2_with fail
      go_loop [6, 7] (fun v i => ∃ k : Nat, k ≤ len ∧ i = .int .i64 (k : Int) ∧ v = .int .u64 ((num (ys.take k) : Nat) : Int))
        (fun _ i => len - (intOf i).toNat)
      case atStart => exact ⟨0, Nat.zero_le _, rfl, by simp [num]⟩
      case round =>
        obtain ⟨k, hk, rfl, rfl⟩ := hrel
        by_cases hlt : k < len
        · have hlt' : (k : Int) < (len : Int) := by omega
          have hk0 : (0 : Int) ≤ (k : Int) := by omega
          obtain ⟨b, off, rfl, hc⟩ := key len hK k hlt (by omega)
          have hsn := num_take_succ ys k (by omega)
          have hb2 := num_snoc_lt (ys.take k) (by simp; omega)
          obtain ⟨x, hx⟩ : ∃ x, ys[k]'(by omega) = x := ⟨_, rfl⟩
          rw [hx] at hc hsn
          clear hx
          have HS := Lib.hid hsn
          clear hsn
          have hx := x.toNat_lt
          obtain ⟨m, hm⟩ : ∃ m, num (ys.take k) = m := ⟨_, rfl⟩
          rw [hm] at HS hb2 ⊢
          clear hm
          have HK := Lib.hid hK
          have HY := Lib.hid hl8
          clear key hys
          clear hK hl8
          simp only [if_true] at hc
          go_wp2_with fail
          go_round
          case rel => exact ⟨k + 1, by omega, by go_num, by rw [HS.out]; go_num⟩
          case measure => simp [intOf]; omega
        · obtain rfl : k = len := by omega
          rw [List.take_of_length_le (by omega)]
          go_wp2_with fail
          go_ret
          exact ⟨rfl, rfl⟩
  · have h8' : (8 : Int) < (len : Int) := by omega
    have hK : min 8 len = 8 := by omega
    cases big
    · go_enter Try.func44, Try.ntmps44
      go_wp2_with fail
      go_loop [6, 7] (fun v i => ∃ k : Nat, k ≤ 8 ∧ i = .int .i64 (k : Int) ∧ v = .int .u64 ((num (ys.take k) : Nat) : Int))
        (fun _ i => 8 - (intOf i).toNat)
      case atStart => exact ⟨0, Nat.zero_le _, rfl, by simp [num]⟩
      case round =>
        obtain ⟨k, hk, rfl, rfl⟩ := hrel
        by_cases hlt : k < 8
        · have hlt' : (k : Int) < 8 := by omega
          have hk0 : (0 : Int) ≤ (k : Int) := by omega
          obtain ⟨b, off, rfl, hc⟩ := key 8 hK k hlt (by omega)
          have hsn := num_take_succ ys k (by omega)
          have hb2 := num_snoc_lt (ys.take k) (by simp; omega)
          obtain ⟨x, hx⟩ : ∃ x, ys[k]'(by omega) = x := ⟨_, rfl⟩
          rw [hx] at hc hsn
          clear hx
          have HS := Lib.hid hsn
          clear hsn
          have hx := x.toNat_lt
          obtain ⟨m, hm⟩ : ∃ m, num (ys.take k) = m := ⟨_, rfl⟩
          rw [hm] at HS hb2 ⊢
          clear hm
          have HK := Lib.hid hK
          have HY := Lib.hid hl8
          clear key hys
          clear hK hl8
          simp only [Bool.false_eq_true, if_false] at hc
          have hi0 : (0 : Int) ≤ (7 - (k : Int)) := by omega
          have hi1 : (7 - (k : Int)) < (len : Int) := by have := HK.out; omega
          simp only [Nat.reduceSub] at hc
          go_wp2_with fail
          go_round
          case rel => exact ⟨k + 1, by omega, by go_num, by rw [HS.out]; go_num⟩
          case measure => simp [intOf]; omega
        · obtain rfl : k = 8 := by omega
          rw [List.take_of_length_le (by omega)]
          go_wp2_with fail
          go_ret
          exact ⟨rfl, rfl⟩
    · go_enter Try.func44, Try.ntmps44
      go_wp2_with fail
      go_loop [6, 7] (fun v i => ∃ k : Nat, k ≤ 8 ∧ i = .int .i64 (k : Int) ∧ v = .int .u64 ((num (ys.take k) : Nat) : Int))
        (fun _ i => 8 - (intOf i).toNat)
      case atStart => exact ⟨0, Nat.zero_le _, rfl, by simp [num]⟩
      case round =>
        obtain ⟨k, hk, rfl, rfl⟩ := hrel
        by_cases hlt : k < 8
        · have hlt' : (k : Int) < 8 := by omega
          have hk0 : (0 : Int) ≤ (k : Int) := by omega
          obtain ⟨b, off, rfl, hc⟩ := key 8 hK k hlt (by omega)
          have hsn := num_take_succ ys k (by omega)
          have hb2 := num_snoc_lt (ys.take k) (by simp; omega)
          obtain ⟨x, hx⟩ : ∃ x, ys[k]'(by omega) = x := ⟨_, rfl⟩
          rw [hx] at hc hsn
          clear hx
          have HS := Lib.hid hsn
          clear hsn
          have hx := x.toNat_lt
          obtain ⟨m, hm⟩ : ∃ m, num (ys.take k) = m := ⟨_, rfl⟩
          rw [hm] at HS hb2 ⊢
          clear hm
          have HK := Lib.hid hK
          have HY := Lib.hid hl8
          clear key hys
          clear hK hl8
          simp only [if_true] at hc
          go_wp2_with fail
          go_round
          case rel => exact ⟨k + 1, by omega, by go_num, by rw [HS.out]; go_num⟩
          case measure => simp [intOf]; omega
        · obtain rfl : k = 8 := by omega
          rw [List.take_of_length_le (by omega)]
          go_wp2_with fail
          go_ret
          exact ⟨rfl, rfl⟩
end Go.Proofs.Ytmngagcekhlppaa
