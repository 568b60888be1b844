/-
  The words of a text, one by one; texts made longer by noughts; and inet.Changed.
-/
import Derived.Test.YtdfjdkbnbiglnaaIRing
namespace Go.Proofs.Ytdfjdkbnbiglnaa
open Go.RowKit Go.Lib

/-- A text, made as long as M by noughts. -/
def padTo (xs : List UInt8) (M : Nat) : List UInt8 := xs ++ List.replicate (M - xs.length) 0
theorem padTo_len {xs : List UInt8} {M : Nat} (h : xs.length ≤ M) : (padTo xs M).length = M := by
  unfold padTo; rw [List.length_append, List.length_replicate]; omega
theorem padTo_self (xs : List UInt8) : padTo xs xs.length = xs := by simp [padTo]
theorem padTo_more {xs : List UInt8} {M : Nat} (h : xs.length ≤ M) : padTo xs (M + 1) = padTo xs M ++ [0] := by
  unfold padTo
  rw [show M + 1 - xs.length = (M - xs.length) + 1 by omega, List.replicate_succ', List.append_assoc]
theorem padTo_bat (xs : List UInt8) (M i : Nat) : batN (padTo xs M) i = batN xs i := by
  unfold batN padTo
  rw [List.getD_eq_getElem?_getD, List.getD_eq_getElem?_getD, List.getElem?_append]
  split
  · rfl
  · rename_i h
    rw [List.getElem?_eq_none (l := xs) (by omega), List.getElem?_replicate]
    split <;> rfl
theorem padTo_wat (xs : List UInt8) (M i : Nat) : wat (padTo xs M) i = wat xs i := by unfold wat; rw [padTo_bat, padTo_bat]
theorem wordsOf_at : ∀ (xs : List UInt8) (k : Nat), 2 * k < xs.length → (wordsOf xs)[k]? = some (wat xs (2 * k))
  | [], k, h => by simp at h
  | [x], k, h => by
    obtain rfl : k = 0 := by simp at h; omega
    simp [wordsOf, wat, batN]
  | x :: y :: r, 0, h => by simp [wordsOf, wat, batN]
  | x :: y :: r, k + 1, h => by
    have ih := wordsOf_at r k (by simp at h; omega)
    simp only [wordsOf, List.getElem?_cons_succ]
    rw [ih]
    rfl
theorem wordsOf_drop {xs : List UInt8} {k : Nat} (h : 2 * k < xs.length) : (wordsOf xs).drop k = wat xs (2 * k) :: (wordsOf xs).drop (k + 1) := by
  obtain ⟨hl, he⟩ := List.getElem?_eq_some_iff.1 (wordsOf_at xs k h)
  rw [List.drop_eq_getElem_cons hl, he]
theorem chgs_cons (c m n : Nat) (ms ns : List Nat) : chgs c (m :: ms) (n :: ns) = chgs (chg c m n) ms ns := rfl
theorem chgs_nil (c : Nat) (ns : List Nat) : chgs c [] ns = c := by cases ns <;> rfl

/-- c, changed from each word of fr to that of to. -/
def changedOf (c : Nat) (fr to : List UInt8) : Nat := chgs c (wordsOf (padTo fr (max fr.length to.length))) (wordsOf (padTo to (max fr.length to.length)))
theorem changedOf_same {fr to : List UInt8} (h : to.length = fr.length) (c : Nat) : changedOf c fr to = chgs c (wordsOf fr) (wordsOf to) := by
  unfold changedOf
  rw [h, Nat.max_self, padTo_self]
  conv => lhs; rw [← h, padTo_self]
theorem chgs_step {c k M : Nat} {fr to : List UInt8} (hf : fr.length ≤ M) (ht : to.length ≤ M) (hk : 2 * k < M) :
    chgs c ((wordsOf (padTo fr M)).drop k) ((wordsOf (padTo to M)).drop k) = chgs (chg c (wat fr (2 * k)) (wat to (2 * k))) ((wordsOf (padTo fr M)).drop (k + 1)) ((wordsOf (padTo to M)).drop (k + 1)) := by
  rw [wordsOf_drop (xs := padTo fr M) (k := k) (by rw [padTo_len hf]; exact hk), wordsOf_drop (xs := padTo to M) (k := k) (by rw [padTo_len ht]; exact hk), chgs_cons, padTo_wat, padTo_wat]
theorem chgs_end {c k M : Nat} {fr to : List UInt8} (hf : fr.length ≤ M) (hk : M ≤ 2 * k) :
    chgs c ((wordsOf (padTo fr M)).drop k) ((wordsOf (padTo to M)).drop k) = c := by
  rw [List.drop_of_length_le (by rw [wordsOf_length, padTo_len hf]; omega), chgs_nil]
theorem chgs_le : ∀ (ms ns : List Nat) (c : Nat), c ≤ 65535 → chgs c ms ns ≤ 65535
  | [], ns, c, h => by rw [chgs_nil]; exact h
  | m :: ms, [], c, h => h
  | m :: ms, n :: ns, c, h => by rw [chgs_cons]; exact chgs_le ms ns _ (chg_le _ _ _)

set_option maxHeartbeats 2000000 in
/-- inet.Changed -/
theorem changed_any (c : Nat) (hc : c < 65536) (A : Option Addr) (len cap : Nat) (xs : List UInt8) (hlen : len ≤ 100000) (A' : Option Addr) (len' cap' : Nat) (ys : List UInt8) (hlen' : len' ≤ 100000) (w : World) {B B' : Nat} (hI : Rd w B A len xs) (hI' : Rd w B' A' len' ys) :
    Calls Try.prog 15 #[.int .u16 (c : Int), .slice A len cap, .slice A' len' cap'] w fun e w' => e = .returned (.int .u16 ((changedOf c xs ys : Nat) : Int)) ∧ w = w' := by
  have hL := hI.len
  have hL' := hI'.len
  unfold changedOf
  rw [hL, hL']
  obtain ⟨M, hM⟩ : ∃ M, max len len' = M := ⟨_, rfl⟩
  have hM1 : xs.length ≤ M := by omega
  have hM2 : ys.length ≤ M := by omega
  rw [hM]
  obtain ⟨R, hR⟩ : ∃ R, chgs c (wordsOf (padTo xs M)) (wordsOf (padTo ys M)) = R := ⟨_, rfl⟩
  rw [hR]
  have HR := Lib.hid hR
  clear hR hL hL'
  rcases Nat.lt_or_ge len len' with hd | hd
  · obtain rfl : M = len' := by omega
    clear hM
    go_enter Try.func15, Try.ntmps15
    go_wp2_with fail
    go_loop [0, 7] (fun u i => ∃ k m : Nat, m < 65536 ∧ u = .int .u16 (m : Int) ∧ i = .int .i64 ((2 * k : Nat) : Int) ∧ 2 * k ≤ M + 1 ∧ chgs m ((wordsOf (padTo xs M)).drop k) ((wordsOf (padTo ys M)).drop k) = R)
      (fun _ i => M + 1 - (intOf i).toNat)
    case atStart => exact ⟨0, c, hc, rfl, rfl, by omega, HR.out⟩
    case round =>
      obtain ⟨k, m, hm, rfl, rfl, hk, hr⟩ := hrel
      by_cases hlt : 2 * k < M
      · have hlt' : 2 * (k : Int) < (M : Int) := by omega
        rw [chgs_step hM1 hM2 hlt] at hr
        have hq := chg_le m (wat xs (2 * k)) (wat ys (2 * k))
        have lx := wat_lt xs (2 * k)
        have ly := wat_lt ys (2 * k)
        have hx := word_any A _ cap xs (by omega) (2 * k) (by omega) w hI
        have hy := word_any A' _ cap' ys (by omega) (2 * k) (by omega) w hI'
        obtain ⟨x, ex⟩ : ∃ x, wat xs (2 * k) = x := ⟨_, rfl⟩
        obtain ⟨y, ey⟩ : ∃ y, wat ys (2 * k) = y := ⟨_, rfl⟩
        rw [ex] at hr hq lx hx
        rw [ey] at hr hq ly hy
        rw [show ((2 * k : Nat) : Int) = 2 * (k : Int) by omega] at hx hy
        clear ex ey
        have HX := Lib.hid hx
        have HY := Lib.hid hy
        have HC := Lib.hid (change_any m x y hm lx ly)
        have HQ := Lib.hid hr
        clear hr hx hy
        go_wp2_with fail
        refine HX.out.mono ?_
        rintro e w' ⟨rfl, rfl⟩
        go_wp2_with fail
        refine HY.out.mono ?_
        rintro e w' ⟨rfl, rfl⟩
        go_wp2_with fail
        refine (HC.out _).mono ?_
        rintro e w' ⟨rfl, rfl⟩
        go_wp2_with fail
        go_round
        case rel => exact ⟨k + 1, chg m x y, by omega, rfl, by go_num, by omega, HQ.out⟩
        case measure => simp [intOf]; omega
      · rw [chgs_end hM1 (by omega)] at hr
        have HQ := Lib.hid hr
        clear hr
        have hlt' : ¬ 2 * (k : Int) < (M : Int) := by omega
        go_wp2_with fail
        go_ret
        rw [← HQ.out]
        exact ⟨rfl, rfl⟩
  · obtain rfl : M = len := by omega
    have hd' : ¬ M < len' := by omega
    clear hM
    go_enter Try.func15, Try.ntmps15
    go_wp2_with fail
    go_loop [0, 7] (fun u i => ∃ k m : Nat, m < 65536 ∧ u = .int .u16 (m : Int) ∧ i = .int .i64 ((2 * k : Nat) : Int) ∧ 2 * k ≤ M + 1 ∧ chgs m ((wordsOf (padTo xs M)).drop k) ((wordsOf (padTo ys M)).drop k) = R)
      (fun _ i => M + 1 - (intOf i).toNat)
    case atStart => exact ⟨0, c, hc, rfl, rfl, by omega, HR.out⟩
    case round =>
      obtain ⟨k, m, hm, rfl, rfl, hk, hr⟩ := hrel
      by_cases hlt : 2 * k < M
      · have hlt' : 2 * (k : Int) < (M : Int) := by omega
        rw [chgs_step hM1 hM2 hlt] at hr
        have hq := chg_le m (wat xs (2 * k)) (wat ys (2 * k))
        have lx := wat_lt xs (2 * k)
        have ly := wat_lt ys (2 * k)
        have hx := word_any A _ cap xs (by omega) (2 * k) (by omega) w hI
        have hy := word_any A' _ cap' ys (by omega) (2 * k) (by omega) w hI'
        obtain ⟨x, ex⟩ : ∃ x, wat xs (2 * k) = x := ⟨_, rfl⟩
        obtain ⟨y, ey⟩ : ∃ y, wat ys (2 * k) = y := ⟨_, rfl⟩
        rw [ex] at hr hq lx hx
        rw [ey] at hr hq ly hy
        rw [show ((2 * k : Nat) : Int) = 2 * (k : Int) by omega] at hx hy
        clear ex ey
        have HX := Lib.hid hx
        have HY := Lib.hid hy
        have HC := Lib.hid (change_any m x y hm lx ly)
        have HQ := Lib.hid hr
        clear hr hx hy
        go_wp2_with fail
        refine HX.out.mono ?_
        rintro e w' ⟨rfl, rfl⟩
        go_wp2_with fail
        refine HY.out.mono ?_
        rintro e w' ⟨rfl, rfl⟩
        go_wp2_with fail
        refine (HC.out _).mono ?_
        rintro e w' ⟨rfl, rfl⟩
        go_wp2_with fail
        go_round
        case rel => exact ⟨k + 1, chg m x y, by omega, rfl, by go_num, by omega, HQ.out⟩
        case measure => simp [intOf]; omega
      · rw [chgs_end hM1 (by omega)] at hr
        have HQ := Lib.hid hr
        clear hr
        have hlt' : ¬ 2 * (k : Int) < (M : Int) := by omega
        go_wp2_with fail
        go_ret
        rw [← HQ.out]
        exact ⟨rfl, rfl⟩
end Go.Proofs.Ytdfjdkbnbiglnaa
