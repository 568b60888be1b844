/-
  ConnBits: its walk, the program's contracts a premise.
-/
import Derived.Test.YtljmegmklfohjaaZAwake
namespace Go.Proofs.Ytljmegmklfohjaa
set_option maxRecDepth 100000
open Go.RowKit Go.Lib

theorem in64_wrap (z : Int) : In64 (IntKind.i64.wrap z) := by
  unfold In64
  rw [IntKind.wrap_i64]
  omega
theorem in64_or (a b : Int) : In64 (bits .or .i64 a b) := in64_wrap _
set_option maxHeartbeats 4000000 in
theorem connBits_walkW (S : ConnC) (s : Int) (h1 : -9223372036854775808 ≤ s) (h2 : s ≤ 9223372036854775807) (z : Int) (h3 : -9223372036854775808 ≤ z) (h4 : z ≤ 9223372036854775807) (y : Int) (_ : -9223372036854775808 ≤ y) (_ : y ≤ 9223372036854775807) (w : World) :
    Calls Try.prog 7 #[.int .i64 s, .int .i64 z, .int .i64 y] w fun e w' => e = .returned (.bool true) ∧ Below w.heap.size w w' := by
  have HA := Lib.hid (fun W => awake_any S W)
  have hf := fl_other z y
  have ho := in64_or (bits .and .i64 z 63) (bits .andNot .i64 y 63)
  obtain ⟨a, ha⟩ : ∃ a, bits .and .i64 z 63 = a := ⟨_, rfl⟩
  obtain ⟨b, hb⟩ : ∃ b, bits .andNot .i64 y 63 = b := ⟨_, rfl⟩
  rw [ha, hb] at hf ho
  obtain ⟨o, hoo⟩ : ∃ o, bits .or .i64 a b = o := ⟨_, rfl⟩
  rw [hoo] at hf ho
  have HN := Lib.hid (fun W => S.next s z W ⟨h1, h2⟩ ⟨h3, h4⟩)
  have HB := Lib.hid (fun W => S.begin_ 6 z W (in64_lit 6 (by decide) (by decide)) ⟨h3, h4⟩)
  have HN2 := Lib.hid (fun W => S.next s o W ⟨h1, h2⟩ ho)
  have HB2 := Lib.hid (fun W => S.begin_ 6 o W (in64_lit 6 (by decide) (by decide)) ho)
  rw [stN_congr hf] at HN2
  rw [stB_congr hf] at HB2
  generalize stN s z = x at HN HN2
  generalize stB 6 z = v at HB HB2
  have hx : (x == x) = true := by simp
  have hv : (v == v) = true := by simp
  clear h1 h2 h3 h4 S hf ho
  go_enter Try.func7, Try.ntmps7
  go_wp2_with (first
    | ((with_reducible refine (HA.out _).mono ?_); rintro e w1 ⟨rfl, hb1⟩; have D1 := Lib.hid hb1; clear hb1)
    | ((with_reducible refine (HN.out w1).mono ?_); rintro e w2 ⟨rfl, hb2⟩; have D2 := Lib.hid (bel2 D1.out hb2); clear hb2)
    | ((with_reducible refine (HN2.out w2).mono ?_); rintro e w3 ⟨rfl, hb3⟩; have D3 := Lib.hid (bel2 D2.out hb3); clear hb3)
    | ((with_reducible refine (HB.out w3).mono ?_); rintro e w4 ⟨rfl, hb4⟩; have D4 := Lib.hid (bel2 D3.out hb4); clear hb4)
    | ((with_reducible refine (HB2.out w4).mono ?_); rintro e w5 ⟨rfl, hb5⟩; have D5 := Lib.hid (bel2 D4.out hb5); clear hb5))
  go_ret
  exact ⟨rfl, D5.out⟩
end Go.Proofs.Ytljmegmklfohjaa
