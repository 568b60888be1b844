/-
  The document's Get of float64.
-/
import Derived.Test.YtcimgbjliamaiaaWP
import Derived.Test.YtcimgbjliamaiaaWQ
namespace Go.Proofs.Ytcimgbjliamaiaa
set_option maxRecDepth 100000
open Go.RowKit Go.Lib Go.Shelf

/-- The number whose bytes these are. -/
def okW (xs : List UInt8) : Bool := decide (xs.length = 8) && (canW (num xs) == num xs)
def gotW (xs : List UInt8) : Nat := if okW xs then num xs else 0
theorem ok_put {u : Nat} (h : u < T64) : okW (putW u) = true ∧ gotW (putW u) = canW u := by
  have e : okW (putW u) = true := by
    unfold okW
    rw [put_len, put_num h, can_can]
    simp
  exact ⟨e, by unfold gotW; rw [if_pos e, put_num h]⟩
theorem got_lt (xs : List UInt8) : gotW xs < T64 := by
  unfold gotW
  split
  · rename_i h
    unfold okW at h
    simp only [Bool.and_eq_true, decide_eq_true_eq] at h
    have := num_lt64 xs (by omega)
    rw [T64_eq]; exact this
  · rw [T64_eq]; decide
theorem ok_bytes {xs : List UInt8} (h : okW xs = true) : putW (gotW xs) = xs ∧ canW (gotW xs) = gotW xs := by
  have h2 := h
  unfold okW at h2
  simp only [Bool.and_eq_true, decide_eq_true_eq, beq_iff_eq] at h2
  have e : gotW xs = num xs := by unfold gotW; rw [if_pos h]
  rw [e]
  refine ⟨?_, h2.2⟩
  unfold putW
  rw [h2.2]
  exact bytes_num h2.1
theorem num_lt8 {xs : List UInt8} (h : xs.length = 8) : num xs < T64 := by
  have := num_lt64 xs (by omega)
  rw [T64_eq]; exact this
set_option maxHeartbeats 1000000 in
theorem rget14_any (A : Option Addr) (len cap : Nat) (xs : List UInt8) (hlen : len ≤ 1000000000) (w : World) (hI : Rd w w.heap.size A len xs) :
    Calls Try.prog 25 #[.slice A len cap] w fun e w' => e = .returned (.tuple #[.float .f64 (gotW xs), .bool (okW xs)]) ∧ Below w.heap.size w w' := by
  have hx := hI.len
  by_cases h8 : len = 8
  · subst h8
    have hG := Lib.hid (rget_any A 8 cap xs true (by omega) w hI)
    have hn := num_lt8 hx
    have hP := Lib.hid (fun W => rput14_any hn W)
    have hb := run_f64from (num xs)
    have eG : getOf xs true = num xs := by unfold getOf; rw [if_pos rfl, List.take_of_length_le (by omega)]
    rw [eG] at hG
    have eo : okW xs = (putW (num xs) == xs) := by
      unfold okW
      rw [decide_eq_true hx, Bool.true_and]
      have : (canW (num xs) = num xs) ↔ putW (num xs) = xs := by
        constructor
        · intro h; unfold putW; rw [h]; exact bytes_num hx
        · intro h; rw [← put_num hn, h]
      by_cases h : canW (num xs) = num xs
      · rw [beq_iff_eq.2 h, beq_iff_eq.2 (this.1 h)]
      · rw [beq_eq_false_iff_ne.2 h, beq_eq_false_iff_ne.2 (fun g => h (this.2 g))]
    have eg : gotW xs = if okW xs then num xs else 0 := rfl
    rw [eg, eo]
    clear eg eo eG hn
    obtain ⟨Y, hY⟩ : ∃ Y, putW (num xs) = Y := ⟨_, rfl⟩
    rw [hY] at hP
    rw [hY]
    clear hY
    obtain ⟨n, hn⟩ : ∃ n, num xs = n := ⟨_, rfl⟩
    rw [hn] at hG hP hb
    rw [hn]
    clear hn hx hlen
    have HI := Lib.hid hI
    clear hI
    have key : ∀ t : Bool, (Y == xs) = t → Calls Try.prog 25 #[.slice A 8 cap] w fun e w' => e = .returned (.tuple #[.float .f64 (if t then n else 0), .bool t]) ∧ Below w.heap.size w w' := by
      intro t ht
      have t2 : (Y != xs) = !t := by rw [bne, ht]
      have t3 : decide (Y = xs) = t := by rw [← ht]; by_cases h : Y = xs <;> simp [h]
      have K0 : (convert 43 9 (.slice A 8 cap)).run Try.prog w.drew = .ok (.string ⟨xs.toArray⟩) w.drew := run_str8 HI.out.drew cap
      go_enter Try.func25, Try.ntmps25
      cases t
      · go_wp2_with (refine hG.out.mono ?_; rintro e w' ⟨rfl, rfl⟩)
        go_region_with (go_at_call 24; refine (hP.out _).mono ?_; rintro e W1 ⟨v1, rfl, ho1, hb1⟩; obtain ⟨A1, m1, c1, rfl, hm1, _, _, hr1⟩ := ho1.sl; clear hm1; have K1 := run_str8 hr1 c1; have B := (Below.refl _ w).drew.trans hb1; have K2 := run_str8 (HI.out.below B) cap)
        all_goals
          go_wp2_with fail
          go_ret2
          exact ⟨rfl, B⟩
      · go_wp2_with (refine hG.out.mono ?_; rintro e w' ⟨rfl, rfl⟩)
        go_region_with (go_at_call 24; refine (hP.out _).mono ?_; rintro e W1 ⟨v1, rfl, ho1, hb1⟩; obtain ⟨A1, m1, c1, rfl, hm1, _, _, hr1⟩ := ho1.sl; clear hm1; have K1 := run_str8 hr1 c1; have B := (Below.refl _ w).drew.trans hb1; have K2 := run_str8 (HI.out.below B) cap)
        all_goals
          go_wp2_with fail
          go_ret2
          exact ⟨rfl, B⟩
    exact key _ rfl
  · have b1 : ((len : Int) != 8) = true := bne_iff_ne.2 (by omega)
    have eo : okW xs = false := by unfold okW; rw [decide_eq_false (by omega)]; rfl
    have eg : gotW xs = 0 := by unfold gotW; rw [eo]; rfl
    rw [eo, eg]
    clear eo eg hI hx
    go_enter Try.func25, Try.ntmps25
    go_wp2_with fail
    go_ret2
    exact ⟨rfl, Below.refl _ _⟩
end Go.Proofs.Ytcimgbjliamaiaa
