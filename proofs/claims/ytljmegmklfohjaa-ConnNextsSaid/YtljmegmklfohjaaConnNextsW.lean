/-
  ConnNexts: its walk, the program's contracts a premise.
-/
import Derived.Test.YtljmegmklfohjaaZAwake
namespace Go.Proofs.Ytljmegmklfohjaa
set_option maxRecDepth 100000
open Go.RowKit Go.Lib

set_option maxHeartbeats 4000000 in
theorem connNexts_walkW (S : ConnC) (p : Int) (h1 : -9223372036854775808 ≤ p) (h2 : p ≤ 9223372036854775807) (z : Int) (h3 : -9223372036854775808 ≤ z) (h4 : z ≤ 9223372036854775807) (w : World) :
    Calls Try.prog 4 #[.int .i64 p, .int .i64 z] w fun e w' => e = .returned (.bool true) ∧ Below w.heap.size w w' := by
  have HA := Lib.hid (fun W => awake_any S W)
  have HB := Lib.hid (fun W => S.next p z W ⟨h1, h2⟩ ⟨h3, h4⟩)
  have HR := Lib.hid (fun W => rnext20_any p z ⟨h3, h4⟩ W)
  generalize stN p z = x at HB HR
  have hx : (x == x) = true := by simp
  clear h1 h2 h3 h4 S
  go_enter Try.func4, Try.ntmps4
  go_wp2_with (first
    | ((with_reducible refine (HA.out _).mono ?_); rintro e w1 ⟨rfl, hb⟩; have D1 := Lib.hid hb; clear hb)
    | ((with_reducible refine (HB.out _).mono ?_); rintro e w2 ⟨rfl, hb⟩; have D2 := Lib.hid (bel2 D1.out hb); clear hb)
    | ((with_reducible refine (HR.out _).mono ?_); rintro e w3 ⟨rfl, rfl⟩))
  go_ret
  exact ⟨rfl, D2.out⟩
end Go.Proofs.Ytljmegmklfohjaa
