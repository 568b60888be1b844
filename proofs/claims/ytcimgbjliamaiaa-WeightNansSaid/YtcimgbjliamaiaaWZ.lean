/-
  The program: bits, Same, Put, Get, Total (of my stand-in: the developers' may differ).
-/
import Derived.Test.YtcimgbjliamaiaaWY
import Derived.Test.YtcimgbjliamaiaaGet
namespace Go.Proofs.Ytcimgbjliamaiaa
set_option maxRecDepth 100000
open Go.RowKit Go.Lib Go.Shelf

set_option maxHeartbeats 1000000 in
theorem wbits_any {u : Nat} (hu : u < T64) (w : World) : Calls Try.prog 31 #[.float .f64 u] w fun e w' => e = .returned (.int .u64 (canW u : Int)) ∧ w = w' := by
  have hN := Lib.hid (isnan_any hu w)
  have hb := run_f64bits u
  unfold canW
  cases h : nanW u
  · rw [if_neg (by decide)]
    rw [h] at hN
    clear h hu
    go_enter Try.func31, Try.ntmps31
    go_wp2_with (refine hN.out.mono ?_; rintro e w' ⟨rfl, rfl⟩)
    go_ret
    exact ⟨rfl, rfl⟩
  · rw [if_pos rfl]
    rw [h] at hN
    clear h hu
    go_enter Try.func31, Try.ntmps31
    go_wp2_with (refine hN.out.mono ?_; rintro e w' ⟨rfl, rfl⟩)
    go_ret
    exact ⟨rfl, rfl⟩
set_option maxHeartbeats 1000000 in
theorem wsame_any {u v : Nat} (hu : u < T64) (hv : v < T64) (w : World) : Calls Try.prog 14 #[.float .f64 u, .float .f64 v] w fun e w' => e = .returned (.bool (decide (canW u = canW v))) ∧ Below w.heap.size w w' := by
  have h1 := Lib.hid (fun W => wbits_any hu W)
  have h2 := Lib.hid (fun W => wbits_any hv W)
  clear hu hv
  obtain ⟨a, ha⟩ : ∃ a, canW u = a := ⟨_, rfl⟩
  obtain ⟨b, hb⟩ : ∃ b, canW v = b := ⟨_, rfl⟩
  rw [ha] at h1
  rw [hb] at h2
  rw [ha, hb]
  clear ha hb
  by_cases h : a = b
  · subst h
    rw [decide_eq_true rfl]
    go_enter Try.func14, Try.ntmps14
    go_wp2_with (first | (refine (h1.out _).mono ?_; rintro e w' ⟨rfl, rfl⟩) | (refine (h2.out _).mono ?_; rintro e w' ⟨rfl, rfl⟩))
    go_ret
    exact ⟨rfl, Below.refl _ _⟩
  · rw [decide_eq_false h]
    have b1 : ((a : Int) == (b : Int)) = false := beq_eq_false_iff_ne.2 (by omega)
    have b2 : (a == b) = false := beq_eq_false_iff_ne.2 h
    clear h
    go_enter Try.func14, Try.ntmps14
    go_wp2_with (first | (refine (h1.out _).mono ?_; rintro e w' ⟨rfl, rfl⟩) | (refine (h2.out _).mono ?_; rintro e w' ⟨rfl, rfl⟩))
    go_ret
    exact ⟨rfl, Below.refl _ _⟩
set_option maxHeartbeats 1000000 in
theorem wput_any {u : Nat} (hu : u < T64) (w : World) : Calls Try.prog 21 #[.float .f64 u] w fun e W' => ∃ v, e = .returned v ∧ Own8 W' w.heap.size v (putW u) ∧ Below w.heap.size w W' := by
  have h1 := Lib.hid (wbits_any hu w)
  have hP := Lib.hid (put_any (canW u) 8 true w)
  clear hu
  unfold putW
  obtain ⟨a, ha⟩ : ∃ a, canW u = a := ⟨_, rfl⟩
  rw [ha] at h1 hP
  rw [ha]
  clear ha
  go_enter Try.func21, Try.ntmps21
  go_wp2_with (first | (refine h1.out.mono ?_; rintro e w' ⟨rfl, rfl⟩) | (refine hP.out.mono ?_; rintro e w' ⟨v, rfl, ho, hbl⟩))
  go_ret
  exact ⟨_, rfl, ho, hbl⟩
set_option maxHeartbeats 1000000 in
theorem wget_any (A : Option Addr) (len cap : Nat) (xs : List UInt8) (hlen : len ≤ 1000000000) (hcap : len ≤ cap) (hcap2 : cap ≤ maxLen) (w : World) (hI : Rd w w.heap.size A len xs) :
    Calls Try.prog 22 #[.slice A len cap] w fun e w' => e = .returned (.tuple #[.float .f64 (gotW xs), .bool (okW xs)]) ∧ Below w.heap.size w w' := by
  have hx := hI.len
  by_cases h8 : len = 8
  · subst h8
    have hG := Lib.hid (get_any A 8 cap xs true (by omega) hcap hcap2 w hI)
    have hn := num_lt8 hx
    have hB := Lib.hid (fun W => wbits_any hn W)
    have hb := run_f64from (num xs)
    have eG : getOf xs true = num xs := by unfold getOf; rw [if_pos rfl, List.take_of_length_le (by omega)]
    rw [eG] at hG
    have eo : okW xs = (canW (num xs) == num xs) := by
      unfold okW
      rw [decide_eq_true hx, Bool.true_and]
    have eg : gotW xs = if okW xs then num xs else 0 := rfl
    rw [eg, eo]
    clear eg eo eG hn
    obtain ⟨n, hn⟩ : ∃ n, num xs = n := ⟨_, rfl⟩
    rw [hn] at hG hB hb
    rw [hn]
    clear hn hx hlen hI
    obtain ⟨a, ha⟩ : ∃ a, canW n = a := ⟨_, rfl⟩
    rw [ha] at hB
    rw [ha]
    clear ha
    by_cases h : a = n
    · subst h
      rw [beq_self_eq_true, if_pos rfl]
      go_enter Try.func22, Try.ntmps22
      go_wp2_with (first | (refine hG.out.mono ?_; rintro e w' ⟨rfl, hbl⟩) | (refine (hB.out _).mono ?_; rintro e w' ⟨rfl, rfl⟩))
      go_ret2
      exact ⟨rfl, hbl⟩
    · have b1 : ((a : Int) != (n : Int)) = true := bne_iff_ne.2 (by omega)
      have b2 : (a != n) = true := bne_iff_ne.2 h
      have b3 : (a == n) = false := beq_eq_false_iff_ne.2 h
      have b4 : ((a : Int) == (n : Int)) = false := beq_eq_false_iff_ne.2 (by omega)
      rw [b3, if_neg (by decide)]
      clear h
      go_enter Try.func22, Try.ntmps22
      go_wp2_with (first | (refine hG.out.mono ?_; rintro e w' ⟨rfl, hbl⟩) | (refine (hB.out _).mono ?_; rintro e w' ⟨rfl, rfl⟩))
      go_ret2
      exact ⟨rfl, hbl⟩
  · have b1 : ((len : Int) != 8) = true := bne_iff_ne.2 (by omega)
    have eo : okW xs = false := by unfold okW; rw [decide_eq_false (by omega)]; rfl
    have eg : gotW xs = 0 := by unfold gotW; rw [eo]; rfl
    rw [eo, eg]
    clear eo eg hI hx
    go_enter Try.func22, Try.ntmps22
    go_wp2_with fail
    go_ret2
    exact ⟨rfl, Below.refl _ _⟩
set_option maxHeartbeats 1000000 in
theorem wtotal_any (A : Option Addr) (len cap : Nat) (xs : List Nat) (hlen : len ≤ 100) (w : World) (hI : RdV vF w w.heap.size A len xs) :
    Calls Try.prog 19 #[.slice A len cap] w fun e w' => e = .returned (.tuple #[.int .i64 (totW xs : Int), .bool (allW xs)]) ∧ w = w' := by
  go_enter Try.func19, Try.ntmps19
  go_wp2_with fail
  go_loop [4, 11] (fun n i => ∃ k : Nat, k ≤ len ∧ i = .int .i64 (k : Int) ∧ n = .int .i64 (sumW (xs.take k) : Int) ∧ allW (xs.take k) = true)
    (fun _ i => len - (intOf i).toNat)
  case atStart => exact ⟨0, Nat.zero_le _, rfl, rfl, rfl⟩
  case round =>
    obtain ⟨k, hk, rfl, rfl, hall⟩ := hrel
    by_cases hlt : k < len
    · obtain ⟨b, off, rfl, hbB⟩ := hI.addr (by omega)
      have hx : xs[k]? = some (xs[k]'(by rw [hI.len]; exact hlt)) := List.getElem?_eq_getElem _
      obtain ⟨x, hxe⟩ : ∃ x, xs[k]'(by rw [hI.len]; exact hlt) = x := ⟨_, rfl⟩
      rw [hxe] at hx
      clear hxe
      have hT : x < T64 := hI.2.1 x (List.mem_of_getElem? hx)
      have hc := hI.cell hx
      have hS := take_next hx
      have h1 : (k : Int) < (len : Int) := by omega
      have h0 : (0 : Int) ≤ (k : Int) := by omega
      have hQ := Lib.hid (wqu_any hT w)
      unfold vF at hc
      have hb := sum_le (xs.take k)
      have hq := qu_le x
      rw [List.length_take] at hb
      have e1 : sumW (xs.take (k + 1)) = sumW (xs.take k) + quW x := by rw [hS, sum_app]; show _ + (quW x + 0) = _; omega
      have e2 : allW (xs.take (k + 1)) = wtW x := by rw [hS, all_app, hall]; show (true && (wtW x && true)) = _; simp
      cases hw : wtW x
      · have ea := all_false hx hw
        have HE := Lib.hid ea
        rw [hw] at hQ
        have hq0 : quW x = 0 := by unfold quW; rw [if_neg (by rw [hw]; decide)]
        rw [hq0] at hQ
        clear ea hq0 hw
        clear hb e1 e2 hS hx hI hall hT hq
        go_wp2_with (refine hQ.out.mono ?_; rintro e w' ⟨rfl, rfl⟩)
        go_ret2
        exact ⟨by rw [tot_no HE.out, HE.out] <;> rfl, rfl⟩
      · rw [hw] at hQ e2
        have hE := Lib.hid e1
        have hA := Lib.hid e2
        have hb2 : sumW (xs.take k) ≤ 102400000 := by omega
        obtain ⟨s, hs⟩ : ∃ s, sumW (xs.take k) = s := ⟨_, rfl⟩
        rw [hs] at hE hb2 ⊢
        obtain ⟨q, hqe⟩ : ∃ q, quW x = q := ⟨_, rfl⟩
        rw [hqe] at hE hq hQ
        clear hb e1 e2 hS hx hI hall hT hs hqe hw
        go_wp2_with (refine hQ.out.mono ?_; rintro e w' ⟨rfl, rfl⟩)
        go_round
        case rel => exact ⟨k + 1, by omega, by go_num, by rw [hE.out]; simp, hA.out⟩
        case measure => simp [intOf]; omega
    · obtain rfl : k = len := by omega
      rw [List.take_of_length_le (by rw [hI.len]; exact Nat.le_refl _)] at hall ⊢
      have et : totW xs = sumW xs := by unfold totW; rw [if_pos hall]
      have HE := Lib.hid et
      have HA := Lib.hid hall
      clear et hI hall
      go_wp2_with fail
      go_ret2
      exact ⟨by rw [HE.out, HA.out] <;> rfl, rfl⟩
end Go.Proofs.Ytcimgbjliamaiaa
