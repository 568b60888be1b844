/-
  The document's Put, Same and Get of float64.
-/
import Derived.Test.YtajmppaodhpmgaaWR
import Derived.Deep.RegionHeld3
namespace Go.Proofs.Ytajmppaodhpmgaa
set_option maxRecDepth 100000
open Go.RowKit Go.Lib Go.Shelf

/-- The bytes of a word's number. -/
def putDW (u : Nat) : List UInt8 := bytesOf (canW u) 8 true
theorem put_len (u : Nat) : (putDW u).length = 8 := bytesOf_length _ 8 true
theorem num_bytes {n : Nat} (h : n < T64) : num (bytesOf n 8 true) = n := by
  have : num (dig n 8).reverse = n % 256 ^ 8 := num_dig 8 n
  have e : bytesOf n 8 true = (dig n 8).reverse := rfl
  rw [e, this]
  exact Nat.mod_eq_of_lt (by unfold T64 at h; exact h)
theorem put_num {u : Nat} (h : u < T64) : num (putDW u) = canW u := num_bytes (can_lt h)
theorem put_inj {u v : Nat} (hu : u < T64) (hv : v < T64) : putDW u = putDW v ↔ canW u = canW v :=
  ⟨fun h => by rw [← put_num hu, ← put_num hv, h], fun h => by unfold putDW; rw [h]⟩
theorem bytes_num {xs : List UInt8} (h : xs.length = 8) : bytesOf (num xs) 8 true = xs := by
  have := dig_num xs.reverse
  rw [List.reverse_reverse, List.length_reverse, h] at this
  have e : bytesOf (num xs) 8 true = (dig (num xs) 8).reverse := rfl
  rw [e, this, List.reverse_reverse]
theorem nan_bytes : bytesOf 9221120237041090560 8 true = [127, 248, 0, 0, 0, 0, 0, 0] := by decide +kernel
set_option maxHeartbeats 1000000 in
theorem rput14_any {u : Nat} (hu : u < T64) (w : World) : Calls Try.prog 31 #[.float .f64 u] w fun e W' => ∃ v, e = .returned v ∧ Own8 W' w.heap.size v (putDW u) ∧ Below w.heap.size w W' := by
  have hN := Lib.hid (rnan_any hu w)
  unfold putDW canW
  cases h : nanW u
  · have hP := Lib.hid (rput_any u (by rw [T64_eq] at hu; exact hu) 8 true w)
    have hb := run_f64bits u
    rw [if_neg (by decide)]
    rw [h] at hN
    clear h hu
    go_enter Try.func31, Try.ntmps31
    go_wp2_with (first | (refine hN.out.mono ?_; rintro e w' ⟨rfl, rfl⟩) | (refine hP.out.mono ?_; rintro e w' ⟨v, rfl, ho, hbl⟩))
    go_ret
    exact ⟨_, rfl, ho, hbl⟩
  · rw [if_pos rfl, nan_bytes]
    rw [h] at hN
    clear h hu
    go_enter Try.func31, Try.ntmps31
    go_wp2_with (refine hN.out.mono ?_; rintro e w' ⟨rfl, rfl⟩)
    go_ret
    exact ⟨_, rfl, by have h : Row8 (w.alloc (.cells ([127, 248, 0, 0, 0, 0, 0, 0].map v8).toArray 5)) w.heap.size [127, 248, 0, 0, 0, 0, 0, 0] := heap_alloc_new w _
                      exact h.own (base := w.heap.size) (n := 8) (Nat.le_refl _) (by decide) (by decide), (Below.refl _ w).alloc (Nat.le_refl _) _⟩
set_option maxHeartbeats 1000000 in
theorem rsame14_any {u v : Nat} (hu : u < T64) (hv : v < T64) (w : World) : Calls Try.prog 41 #[.float .f64 u, .float .f64 v] w fun e w' => e = .returned (.bool (decide (canW u = canW v))) ∧ Below w.heap.size w w' := by
  have e : decide (canW u = canW v) = decide (putDW u = putDW v) := by rw [decide_eq_decide]; exact (put_inj hu hv).symm
  rw [e]
  have hP := Lib.hid (fun W => rput14_any hu W)
  have hQ := Lib.hid (fun W => rput14_any hv W)
  clear e hu hv
  obtain ⟨X, hX⟩ : ∃ X, putDW u = X := ⟨_, rfl⟩
  obtain ⟨Y, hY⟩ : ∃ Y, putDW v = Y := ⟨_, rfl⟩
  rw [hX] at hP
  rw [hY] at hQ
  rw [hX, hY]
  clear hX hY
  have key : ∀ t : Bool, (X == Y) = t → Calls Try.prog 41 #[.float .f64 u, .float .f64 v] w fun e w' => e = .returned (.bool t) ∧ Below w.heap.size w w' := by
    intro t ht
    have t2 : (X != Y) = !t := by rw [bne, ht]
    have t3 : decide (X = Y) = t := by rw [← ht]; by_cases h : X = Y <;> simp [h]
    go_enter Try.func41, Try.ntmps41
    go_wp2_with fail
    go_region_with (first
      | (go_at_call_of 31 (Value.float .f64 u); refine (hP.out W2).mono ?_; rintro e W1 ⟨v1, rfl, ho1, hb1⟩; obtain ⟨A1, m1, c1, rfl, hm1, _, _, hr1⟩ := ho1.sl; clear hm1; have K1 := run_str8 hr1 c1; have K21 := run_str8 (hr2.below hb1) c2; have B := (Below.refl _ w).drew.trans (hb2.trans (hb1.mono hb2.size)))
      | (go_at_call_of 31 (Value.float .f64 v); refine (hQ.out W1).mono ?_; rintro e W2 ⟨v2, rfl, ho2, hb2⟩; obtain ⟨A2, m2, c2, rfl, hm2, _, _, hr2⟩ := ho2.sl; clear hm2; have K2 := run_str8 hr2 c2; have K12 := run_str8 (hr1.below hb2) c1; have B := (Below.refl _ w).drew.trans (hb1.trans (hb2.mono hb1.size)))
      | (go_at_call_of 31 (Value.float .f64 u); refine (hP.out _).mono ?_; rintro e W1 ⟨v1, rfl, ho1, hb1⟩; obtain ⟨A1, m1, c1, rfl, hm1, _, _, hr1⟩ := ho1.sl; clear hm1; have K1 := run_str8 hr1 c1)
      | (go_at_call_of 31 (Value.float .f64 v); refine (hQ.out _).mono ?_; rintro e W2 ⟨v2, rfl, ho2, hb2⟩; obtain ⟨A2, m2, c2, rfl, hm2, _, _, hr2⟩ := ho2.sl; clear hm2; have K2 := run_str8 hr2 c2))
    all_goals
      go_wp2_with fail
      go_ret
      exact ⟨rfl, B⟩
  refine (key _ rfl).mono ?_
  rintro e w' ⟨rfl, hb⟩
  refine ⟨?_, hb⟩
  by_cases h : X = Y <;> simp [h]
end Go.Proofs.Ytajmppaodhpmgaa
