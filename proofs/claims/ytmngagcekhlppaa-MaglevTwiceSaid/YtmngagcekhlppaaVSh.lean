/-
  Slices of shares; few ones.
-/
import Derived.Test.YtmngagcekhlppaaJRef3
import Derived.Test.YtmngagcekhlppaaVTab
import Derived.Test.YtmngagcekhlppaaVEnc
namespace Go.Proofs.Ytmngagcekhlppaa
set_option maxRecDepth 100000
open Go.RowKit Go.Lib

def fewB (l : List Shr) : Bool := decide (l.length ≤ 30) && l.all fun x => decide (x.nm.length ≤ 60)
theorem fewB_iff (l : List Shr) : fewB l = true ↔ l.length ≤ 30 ∧ ∀ x, x ∈ l → x.nm.length ≤ 60 := by
  unfold fewB
  rw [Bool.and_eq_true, decide_eq_true_eq, List.all_eq_true]
  constructor
  · rintro ⟨h1, h2⟩
    exact ⟨h1, fun x hx => of_decide_eq_true (h2 x hx)⟩
  · rintro ⟨h1, h2⟩
    exact ⟨h1, fun x hx => decide_eq_true (h2 x hx)⟩
theorem fewB_long {l : List Shr} {j : Nat} {x : Shr} (hx : l[j]? = some x) (h : ¬ x.nm.length ≤ 60) : fewB l = false := by
  apply Bool.eq_false_iff.2
  intro h2
  exact h (((fewB_iff l).1 h2).2 x (List.mem_of_getElem? hx))
theorem fewB_end {l : List Shr} {k : Nat} (hk : ∀ j x, j < k → l[j]? = some x → x.nm.length ≤ 60) (h : l.length ≤ k ∨ 50 ≤ k ∧ k ≤ l.length) : fewB l = decide ((l.length : Int) ≤ 30) := by
  by_cases h1 : l.length ≤ 30
  · rw [decide_eq_true (by omega)]
    refine (fewB_iff l).2 ⟨h1, fun x hx => ?_⟩
    obtain ⟨j, hj⟩ := List.getElem?_of_mem hx
    have := (List.getElem?_eq_some_iff.1 hj).1
    exact hk j x (by omega) hj
  · rw [decide_eq_false (by omega)]
    apply Bool.eq_false_iff.2
    intro h2
    exact h1 ((fewB_iff l).1 h2).1
set_option maxHeartbeats 4000000 in
theorem rfew_any {B n : Nat} {A : Option Addr} (c : Nat) {xs : List Shr} (hn : n ≤ 9223372036854775807) (w : World) (h : RdG eS w B A n xs) :
    Calls Try.prog 11 #[.slice A n c] w fun e w' => e = .returned (.bool (fewB xs)) ∧ w' = w := by
  have HR := Lib.hid h
  obtain ⟨R, hRR⟩ : ∃ R, fewB xs = R := ⟨_, rfl⟩
  rw [hRR]
  have HF := Lib.hid hRR
  clear h hRR
  go_enter Try.func11, Try.ntmps11
  go_wp2_with fail
  go_loop [3] (fun i => ∃ k : Nat, k ≤ n ∧ k ≤ 50 ∧ i = .int .i64 (k : Int) ∧ Hid (∀ j x, j < k → xs[j]? = some x → x.nm.length ≤ 60))
    (fun i => 100 - (intOf i).toNat)
  case atStart => exact ⟨0, Nat.zero_le _, by omega, rfl, Lib.hid (fun j x hj _ => absurd hj (by omega))⟩
  case round =>
    obtain ⟨k, hk, hk5, rfl, HK⟩ := hrel
    by_cases hlt : k < n ∧ k < 50
    · obtain ⟨hlt, hl5⟩ := hlt
      have h1 : (k : Int) < (n : Int) := by omega
      have h2 : (k : Int) < 50 := by omega
      have h0 : (0 : Int) ≤ (k : Int) := by omega
      obtain ⟨b, off, rfl, _⟩ := HR.out.addr (by omega)
      obtain ⟨x, hx⟩ : ∃ x, xs[k]? = some x := ⟨_, List.getElem?_eq_getElem (by rw [HR.out.len]; exact hlt)⟩
      have c1 := HR.out.name hx
      obtain ⟨m, hm⟩ : ∃ m, x.nm.length = m := ⟨_, rfl⟩
      have hs : (ByteArray.mk x.nm.toArray).size = m := by rw [← hm]; rfl
      have HM := Lib.hid hm
      have HX := Lib.hid hx
      clear hm hx
      by_cases h3 : m ≤ 60
      · have h4 : ¬ 60 < (m : Int) := by omega
        clear hlt hl5
        go_wp2_with fail
        go_round
        case rel =>
          refine ⟨k + 1, by omega, by omega, by go_num, Lib.hid (fun j y hj hy => ?_)⟩
          rcases Nat.lt_or_ge j k with h5 | h5
          · exact HK.out j y h5 hy
          · obtain rfl : j = k := by omega
            rw [HX.out] at hy
            cases hy
            rw [HM.out]
            exact h3
        case measure => simp [intOf]; omega
      · have h4 : 60 < (m : Int) := by omega
        have hv : R = false := by
          rw [← HF.out]
          exact fewB_long HX.out (by rw [HM.out]; exact h3)
        subst hv
        clear hlt hl5
        go_wp2_with fail
        go_ret
        exact ⟨rfl, rfl⟩
    · have hv : R = decide ((n : Int) ≤ 30) := by
        rw [← HF.out, ← HR.out.len]
        exact fewB_end HK.out (by rw [HR.out.len]; omega)
      subst hv
      by_cases h5 : k < n
      · have h1 : (k : Int) < (n : Int) := by omega
        have h2 : ¬ (k : Int) < 50 := by omega
        go_wp2_with fail
        go_ret
        exact ⟨rfl, rfl⟩
      · have h1 : ¬ (k : Int) < (n : Int) := by omega
        go_wp2_with fail
        go_ret
        exact ⟨rfl, rfl⟩
end Go.Proofs.Ytmngagcekhlppaa
