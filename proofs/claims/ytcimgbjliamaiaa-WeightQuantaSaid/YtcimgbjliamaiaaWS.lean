/-
  The document's Total, and Right.
-/
import Derived.Test.YtcimgbjliamaiaaWL
namespace Go.Proofs.Ytcimgbjliamaiaa
set_option maxRecDepth 100000
open Go.RowKit Go.Lib Go.Shelf

/-- All quanta, if all are right. -/
def allW (xs : List Nat) : Bool := xs.all wtW
def sumW (xs : List Nat) : Nat := (xs.map quW).sum
def totW (xs : List Nat) : Nat := if allW xs then sumW xs else 0
theorem sum_app (xs ys : List Nat) : sumW (xs ++ ys) = sumW xs + sumW ys := by unfold sumW; rw [List.map_append, List.sum_append]
theorem all_app (xs ys : List Nat) : allW (xs ++ ys) = (allW xs && allW ys) := by unfold allW; rw [List.all_append]
theorem sum_le (xs : List Nat) : sumW xs ≤ 1024000 * xs.length := by
  induction xs with
  | nil => exact Nat.le_refl _
  | cons x xs ih =>
    have h1 : sumW (x :: xs) = quW x + sumW xs := by unfold sumW; rw [List.map_cons, List.sum_cons]
    have := qu_le x
    rw [h1, List.length_cons, Nat.mul_succ]
    omega
/-- Two parts. -/
theorem tot_parts (xs : List Nat) (k : Nat) : allW xs = (allW (xs.take k) && allW (xs.drop k)) ∧ (allW xs = true → totW xs = totW (xs.take k) + totW (xs.drop k)) := by
  have e1 : allW xs = (allW (xs.take k) && allW (xs.drop k)) := by rw [← all_app, List.take_append_drop]
  refine ⟨e1, fun h => ?_⟩
  have h2 := h
  rw [e1, Bool.and_eq_true] at h2
  unfold totW
  rw [if_pos h, if_pos h2.1, if_pos h2.2, ← sum_app, List.take_append_drop]
theorem all_false {xs : List Nat} {k x : Nat} (h : xs[k]? = some x) (hw : wtW x = false) : allW xs = false := by
  unfold allW
  rw [Bool.eq_false_iff]
  intro h2
  have := List.all_eq_true.1 h2 x (List.mem_of_getElem? h)
  rw [hw] at this
  cases this
theorem tot_no {xs : List Nat} (h : allW xs = false) : totW xs = 0 := by unfold totW; rw [h]; rfl
set_option maxHeartbeats 1000000 in
theorem rtotal14_any (A : Option Addr) (len cap : Nat) (xs : List Nat) (hlen : len ≤ 100) (w : World) (hI : RdV vF w w.heap.size A len xs) :
    Calls Try.prog 20 #[.slice A len cap] w fun e w' => e = .returned (.tuple #[.int .i64 (totW xs : Int), .bool (allW xs)]) ∧ w = w' := by
  go_enter Try.func20, Try.ntmps20
  go_wp2_with fail
  go_loop [4, 5] (fun n i => ∃ k : Nat, k ≤ len ∧ i = .int .i64 (k : Int) ∧ n = .int .i64 (sumW (xs.take k) : Int) ∧ allW (xs.take k) = true)
    (fun _ i => len - (intOf i).toNat)
  case atStart => exact ⟨0, Nat.zero_le _, rfl, rfl, rfl⟩
  case round =>
    obtain ⟨k, hk, rfl, rfl, hall⟩ := hrel
    by_cases hlt : k < len
    · obtain ⟨b, off, rfl, hbB⟩ := hI.addr (by omega)
      have hx : xs[k]? = some (xs[k]'(by rw [hI.len]; exact hlt)) := List.getElem?_eq_getElem _
      obtain ⟨x, hxe⟩ : ∃ x, xs[k]'(by rw [hI.len]; exact hlt) = x := ⟨_, rfl⟩
      rw [hxe] at hx
      clear hxe
      have hT : x < T64 := hI.2.1 x (List.mem_of_getElem? hx)
      have hc := hI.cell hx
      have hS := take_next hx
      have h1 : (k : Int) < (len : Int) := by omega
      have h0 : (0 : Int) ≤ (k : Int) := by omega
      have hQ := Lib.hid (rqu_any hT w)
      unfold vF at hc
      have hb := sum_le (xs.take k)
      have hq := qu_le x
      rw [List.length_take] at hb
      have e1 : sumW (xs.take (k + 1)) = sumW (xs.take k) + quW x := by rw [hS, sum_app]; show _ + (quW x + 0) = _; omega
      have e2 : allW (xs.take (k + 1)) = wtW x := by rw [hS, all_app, hall]; show (true && (wtW x && true)) = _; simp
      cases hw : wtW x
      · have ea := all_false hx hw
        have HE := Lib.hid ea
        rw [hw] at hQ
        have hq0 : quW x = 0 := by unfold quW; rw [if_neg (by rw [hw]; decide)]
        rw [hq0] at hQ
        clear ea hq0 hw
        clear hb e1 e2 hS hx hI hall hT hq
        go_wp2_with (refine hQ.out.mono ?_; rintro e w' ⟨rfl, rfl⟩)
        go_ret2
        exact ⟨by rw [tot_no HE.out, HE.out] <;> rfl, rfl⟩
      · rw [hw] at hQ e2
        have hE := Lib.hid e1
        have hA := Lib.hid e2
        have hb2 : sumW (xs.take k) ≤ 102400000 := by omega
        obtain ⟨s, hs⟩ : ∃ s, sumW (xs.take k) = s := ⟨_, rfl⟩
        rw [hs] at hE hb2 ⊢
        obtain ⟨q, hqe⟩ : ∃ q, quW x = q := ⟨_, rfl⟩
        rw [hqe] at hE hq hQ
        clear hb e1 e2 hS hx hI hall hT hs hqe hw
        go_wp2_with (refine hQ.out.mono ?_; rintro e w' ⟨rfl, rfl⟩)
        go_round
        case rel => exact ⟨k + 1, by omega, by go_num, by rw [hE.out]; simp, hA.out⟩
        case measure => simp [intOf]; omega
    · obtain rfl : k = len := by omega
      rw [List.take_of_length_le (by rw [hI.len]; exact Nat.le_refl _)] at hall ⊢
      have et : totW xs = sumW xs := by unfold totW; rw [if_pos hall]
      have HE := Lib.hid et
      have HA := Lib.hid hall
      clear et hI hall
      go_wp2_with fail
      go_ret2
      exact ⟨by rw [HE.out, HA.out] <;> rfl, rfl⟩
end Go.Proofs.Ytcimgbjliamaiaa
