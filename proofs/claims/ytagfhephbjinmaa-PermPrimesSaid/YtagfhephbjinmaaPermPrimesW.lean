/-
  PermPrimes: its walk, the program's contracts a premise.
-/
import Derived.Test.YtagfhephbjinmaaJAwake
namespace Go.Proofs.Ytagfhephbjinmaa
set_option maxRecDepth 100000
open Go.RowKit Go.Lib Go.ChangeShapes Go.WideShapes Go.ChangeAt

set_option maxHeartbeats 8000000 in
theorem permPrimes_walkW (S : PermC) (n : Int) (h1 : -2147483648 ≤ n) (h2 : n ≤ 2147483647) (w : World) :
    Calls Try.prog 3 #[.int .i32 n] w fun e w' => e = .returned (.bool true) ∧ Below w.heap.size w w' := by
  have P1 := Lib.hid (fun W => S.prime n (by omega) (by omega) W)
  have P2 := Lib.hid (fun W => rprime_any n (by omega) (by omega) W)
  have P3 := Lib.hid (fun W => S.next n (by omega) (by omega) W)
  have P4 := Lib.hid (fun W => rnext_any n (by omega) (by omega) W)
  obtain ⟨q, hq⟩ : ∃ q, nextN n = q := ⟨_, rfl⟩
  obtain ⟨r, hr⟩ : ∃ r, primeB n.toNat = r := ⟨_, rfl⟩
  rw [hq] at P3 P4
  rw [hr] at P1 P2
  have hrr : (r == r) = true := by simp
  clear hq hr
  go_enter Try.func3, Try.ntmps3
  go_wp2_with (first
    | (with_reducible refine (awake_any S w).mono ?_; rintro e w1 ⟨rfl, HB1_⟩; have HB1 := Lib.hid HB1_; clear HB1_)
    | (with_reducible refine (P1.out w1).mono ?_; rintro e w2 ⟨rfl, hb⟩; have HB2 := Lib.hid (HB1.out.trans (hb.mono HB1.out.size)); clear hb)
    | (with_reducible refine (P2.out w2).mono ?_; rintro e w' ⟨rfl, rfl⟩)
    | (with_reducible refine (P3.out w2).mono ?_; rintro e w3 ⟨rfl, hb⟩; have HB3 := Lib.hid (HB2.out.trans (hb.mono HB2.out.size)); clear hb)
    | (with_reducible refine (P4.out w3).mono ?_; rintro e w' ⟨rfl, rfl⟩))
  go_ret
  exact ⟨rfl, HB3.out⟩
end Go.Proofs.Ytagfhephbjinmaa
