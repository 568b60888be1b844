/-
  The contracts on items and pieces: mayBe, isOf, the reference's May.
-/
import Derived.Test.YtghocjigmcdobaaCWtr2
namespace Go.Proofs.Ytghocjigmcdobaa
open Go.RowKit Go.Lib

/-- An item: its kind, its number, its order. -/
structure It where
  k : Int
  n : Int
  b : Bool
def It.val (x : It) : Value := .agg #[.int .i64 x.k, .int .i64 x.n, .bool x.b]
/-- May it be? -/
def mayB (k n : Int) : Bool := decide ((k = 1 ∧ 1 ≤ n ∧ n ≤ 8) ∨ k = 2 ∨ ((k = 3 ∨ k = 4) ∧ 0 ≤ n))

theorem mayB_yes {k n : Int} (h : mayB k n = true) : (k = 1 ∧ 1 ≤ n ∧ n ≤ 8) ∨ k = 2 ∨ (k = 3 ∧ 0 ≤ n) ∨ (k = 4 ∧ 0 ≤ n) := by
  have := of_decide_eq_true h; omega

/-- An answer that makes a box only. -/
def Boxes (w : World) (r : Bool) (e : Ending) (w' : World) : Prop := e = .returned (.bool r) ∧ Below w.heap.size w w'

set_option maxRecDepth 100000 in
set_option maxHeartbeats 2000000 in
theorem maybe_any (k n : Int) (b : Bool) (w : World) :
    Calls Try.prog 40 #[.agg #[.int .i64 k, .int .i64 n, .bool b]] w (Boxes w (mayB k n)) := by
  by_cases h1 : k = 1
  · subst h1
    by_cases hn : 1 ≤ n ∧ n ≤ 8
    · have e : mayB 1 n = true := decide_eq_true (by omega)
      rw [e]
      have HN := Lib.hid hn
      clear e hn
      go_enter Try.func40, Try.ntmps40
      go_wp2_with (go_at_call 45; refine (sized_yes _ HN.out.1 HN.out.2 _).mono ?_; rintro e w1 ⟨rfl, rfl⟩)
      go_ret
      exact ⟨rfl, (Below.refl _ _).alloc (Nat.le_refl _) _⟩
    · have e : mayB 1 n = false := decide_eq_false (by omega)
      rw [e]
      have HN := Lib.hid (show n < 1 ∨ 8 < n by omega)
      clear e hn
      go_enter Try.func40, Try.ntmps40
      go_wp2_with (go_at_call 45; refine (sized_no _ HN.out _).mono ?_; rintro e w1 ⟨rfl, rfl⟩)
      go_ret
      exact ⟨rfl, (Below.refl _ _).alloc (Nat.le_refl _) _⟩
  · by_cases h2 : k = 2
    · subst h2
      have e : mayB 2 n = true := decide_eq_true (by omega)
      rw [e]
      clear e h1
      go_enter Try.func40, Try.ntmps40
      go_wp2
      go_ret
      exact ⟨rfl, (Below.refl _ _).alloc (Nat.le_refl _) _⟩
    · by_cases h3 : k = 3
      · subst h3
        have e : mayB 3 n = decide (0 ≤ n) := by unfold mayB; congr 1; simp
        rw [e]
        clear e h1 h2
        go_enter Try.func40, Try.ntmps40
        go_wp2
        go_ret
        exact ⟨rfl, (Below.refl _ _).alloc (Nat.le_refl _) _⟩
      · by_cases h4 : k = 4
        · subst h4
          have e : mayB 4 n = decide (0 ≤ n) := by unfold mayB; congr 1; simp
          rw [e]
          clear e h1 h2 h3
          go_enter Try.func40, Try.ntmps40
          go_wp2
          go_ret
          exact ⟨rfl, (Below.refl _ _).alloc (Nat.le_refl _) _⟩
        · have e : mayB k n = false := decide_eq_false (by omega)
          rw [e]
          have b1 : (k == 1) = false := beq_eq_false_iff_ne.2 h1
          have b2 : (k == 2) = false := beq_eq_false_iff_ne.2 h2
          have b3 : (k == 3) = false := beq_eq_false_iff_ne.2 h3
          have b4 : (k == 4) = false := beq_eq_false_iff_ne.2 h4
          clear e h1 h2 h3 h4
          go_enter Try.func40, Try.ntmps40
          go_wp2
          go_ret
          exact ⟨rfl, (Below.refl _ _).alloc (Nat.le_refl _) _⟩

/-- Is the piece one of its item? -/
def isB (k n : Int) (N len : Nat) : Bool :=
  if k = 1 then decide (N < 256 ^ n.toNat ∧ len = 0) else if k = 2 then decide (len = 0) else if k = 3 then decide ((len : Int) = n ∧ N = 0) else decide ((len : Int) ≤ n ∧ N = 0)

theorem ret_b {a b : Bool} (h : a = b) : Ending.returned (.bool a) = .returned (.bool b) := by rw [h]

set_option maxRecDepth 100000 in
set_option maxHeartbeats 4000000 in
theorem isof_any (k n : Int) (hm : mayB k n = true) (b : Bool) (N : Nat) (hN : N < 18446744073709551616) (A : Option Addr) (len cap : Nat) (_hlen : len ≤ 1000000000) (w : World) :
    Calls Try.prog 41 #[.agg #[.int .i64 k, .int .i64 n, .bool b], .agg #[.int .u64 (N : Int), .slice A len cap]] w (Boxes w (isB k n N len)) := by
  rcases mayB_yes hm with ⟨rfl, h1, h8⟩ | rfl | ⟨rfl, h0⟩ | ⟨rfl, h0⟩
  · have h : n = 1 ∨ n = 2 ∨ n = 3 ∨ n = 4 ∨ n = 5 ∨ n = 6 ∨ n = 7 ∨ n = 8 := by omega
    rcases h with rfl | rfl | rfl | rfl | rfl | rfl | rfl | rfl
    all_goals
      clear h1 h8 hm
      go_enter Try.func41, Try.ntmps41
      go_wp2
      all_goals
        go_ret
        refine ⟨ret_b ?_, ((Below.refl _ _).alloc (Nat.le_refl _) _).alloc (by simp) _⟩
        rw [Bool.eq_iff_iff]
        simp [isB]
        try omega
  · have e : isB 2 n N len = ((len : Int) == 0) := by unfold isB; rw [if_neg (by decide), if_pos rfl]; rw [Bool.eq_iff_iff]; simp
    rw [e]
    clear e hm
    go_enter Try.func41, Try.ntmps41
    go_wp2
    go_ret
    exact ⟨rfl, ((Below.refl _ _).alloc (Nat.le_refl _) _).alloc (by simp) _⟩
  · by_cases he : (len : Int) = n
    · subst he
      have e : isB 3 len N len = ((N : Int) == 0) := by unfold isB; rw [if_neg (by decide), if_neg (by decide), if_pos rfl]; rw [Bool.eq_iff_iff]; simp
      rw [e]
      clear e hm
      go_enter Try.func41, Try.ntmps41
      go_wp2
      go_ret
      exact ⟨rfl, ((Below.refl _ _).alloc (Nat.le_refl _) _).alloc (by simp) _⟩
    · have e : isB 3 n N len = false := by unfold isB; rw [if_neg (by decide), if_neg (by decide), if_pos rfl]; exact decide_eq_false (fun x => he x.1)
      rw [e]
      have b1 : ((len : Int) == n) = false := beq_eq_false_iff_ne.2 he
      clear e hm he
      go_enter Try.func41, Try.ntmps41
      go_wp2
      go_ret
      exact ⟨rfl, ((Below.refl _ _).alloc (Nat.le_refl _) _).alloc (by simp) _⟩
  · by_cases he : (len : Int) ≤ n
    · have e : isB 4 n N len = ((N : Int) == 0) := by unfold isB; rw [if_neg (by decide), if_neg (by decide), if_neg (by decide)]; rw [Bool.eq_iff_iff]; simp [he]
      rw [e]
      clear e hm
      go_enter Try.func41, Try.ntmps41
      go_wp2
      go_ret
      exact ⟨rfl, ((Below.refl _ _).alloc (Nat.le_refl _) _).alloc (by simp) _⟩
    · have e : isB 4 n N len = false := by unfold isB; rw [if_neg (by decide), if_neg (by decide), if_neg (by decide)]; exact decide_eq_false (fun x => he x.1)
      rw [e]
      have b1 : decide ((len : Int) ≤ n) = false := decide_eq_false he
      clear e hm he
      go_enter Try.func41, Try.ntmps41
      go_wp2
      go_ret
      exact ⟨rfl, ((Below.refl _ _).alloc (Nat.le_refl _) _).alloc (by simp) _⟩
end Go.Proofs.Ytghocjigmcdobaa
