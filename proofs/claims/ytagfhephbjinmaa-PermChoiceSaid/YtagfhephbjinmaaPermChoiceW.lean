/-
  PermChoice: its walk, the program's contracts a premise.
-/
import Derived.Test.YtagfhephbjinmaaJAwake
namespace Go.Proofs.Ytagfhephbjinmaa
set_option maxRecDepth 100000
open Go.RowKit Go.Lib Go.ChangeShapes Go.WideShapes Go.ChangeAt

set_option maxHeartbeats 8000000 in
theorem permChoice_walkW (S : PermC) (n : Nat) (hn : n < 65536) (of : Nat) (hof : of < 65536) (sk : Nat) (hsk : sk < 65536) (i : Nat) (hi : i < 4294967296) (w : World) :
    Calls Try.prog 7 #[.int .u16 (n : Int), .int .u16 (of : Int), .int .u16 (sk : Int), .int .u32 (i : Int)] w fun e w' => e = .returned (.bool true) ∧ Below w.heap.size w w' := by
  have hm0 : n % 65530 < 65530 := Nat.mod_lt _ (by decide)
  have em : (n : Int) % 65530 = ((n % 65530 : Nat) : Int) := by rw [Int.natCast_emod]; rfl
  obtain ⟨m, hm⟩ : ∃ m, n % 65530 = m := ⟨_, rfl⟩
  rw [hm] at em hm0
  have P1 := Lib.hid (fun W => rnext_any (m : Int) (by omega) (by omega) W)
  obtain ⟨hsz, _, _⟩ := nextN_size (z := (m : Int)) (by omega)
  obtain ⟨p, hp⟩ : ∃ p, nextN (m : Int) = p := ⟨_, rfl⟩
  rw [hp] at P1 hsz
  have hp2 := hsz.two
  have hpm := hsz.most
  have ha0 : of % p < p := Nat.mod_lt _ (by omega)
  have ea : (of : Int) % (p : Int) = ((of % p : Nat) : Int) := by rw [Int.natCast_emod]
  have hb0 : sk % (p - 1) < p - 1 := Nat.mod_lt _ (by omega)
  have eb : 1 + (sk : Int) % ((p : Int) - 1) = ((1 + sk % (p - 1) : Nat) : Int) := by rw [Int.natCast_add, Int.natCast_emod, Int.natCast_sub (by omega)]; rfl
  have hk0 : i % 2147400000 < 2147400000 := Nat.mod_lt _ (by decide)
  have ek : (i : Int) % 2147400000 = ((i % 2147400000 : Nat) : Int) := by rw [Int.natCast_emod]; rfl
  obtain ⟨a, hae⟩ : ∃ a, of % p = a := ⟨_, rfl⟩
  obtain ⟨b, hbe⟩ : ∃ b, 1 + sk % (p - 1) = b := ⟨_, rfl⟩
  obtain ⟨k, hke⟩ : ∃ k, i % 2147400000 = k := ⟨_, rfl⟩
  rw [hae] at ha0 ea
  rw [hbe] at eb
  rw [hke] at hk0 ek
  have hb1 : 1 ≤ b := by omega
  have hb2 : b < p := by omega
  have C1 := Lib.hid (fun W => S.choice a b p k hsz ha0 hb1 hb2 (by omega) W)
  have C2 : ∀ W : World, Calls Try.prog 19 #[.int .i64 (a : Int), .int .i64 (b : Int), .int .i64 (p : Int), .int .i64 ((k : Int) + 1)] W fun e w' => e = .returned (.int .i64 (chN a b p (k + 1) : Nat)) ∧ Below W.heap.size W w' := fun W => S.choice a b p (k + 1) hsz ha0 hb1 hb2 (by omega) W
  have C3 : ∀ W : World, Calls Try.prog 19 #[.int .i64 (a : Int), .int .i64 (b : Int), .int .i64 (p : Int), .int .i64 ((k : Int) + (p : Int))] W fun e w' => e = .returned (.int .i64 (chN a b p (k + p) : Nat)) ∧ Below W.heap.size W w' := fun W => S.choice a b p (k + p) hsz ha0 hb1 hb2 (by omega) W
  have C4 : ∀ W : World, Calls Try.prog 19 #[.int .i64 (a : Int), .int .i64 (b : Int), .int .i64 (p : Int), .int .i64 0] W fun e w' => e = .returned (.int .i64 (chN a b p 0 : Nat)) ∧ Below W.heap.size W w' := fun W => S.choice a b p 0 hsz ha0 hb1 hb2 (by omega) W
  rw [chN_size] at C3
  rw [chN_zero ha0] at C4
  have hx := chN_lt hp2 a b k
  have hs := chN_succ (a := a) hp2 hb2 k
  have hy := chN_lt hp2 a b (k + 1)
  obtain ⟨x, hxe⟩ : ∃ x, chN a b p k = x := ⟨_, rfl⟩
  obtain ⟨y, hye⟩ : ∃ y, chN a b p (k + 1) = y := ⟨_, rfl⟩
  rw [hxe] at C1 C3 hx hs
  rw [hye] at C2 hs hy
  have hd : (x : Int) + (b : Int) - (y : Int) = 0 ∨ (x : Int) + (b : Int) - (y : Int) = (p : Int) := by
    split at hs
    · left; omega
    · right; omega
  have d1 : ((x : Int) + (b : Int) - (y : Int)) % (p : Int) = 0 := by
    rcases hd with h | h <;> rw [h]
    · exact Int.zero_emod _
    · exact Int.emod_self
  have d2 : ((x : Int) + (b : Int) - (y : Int)).tmod (p : Int) = 0 := by
    rcases hd with h | h <;> rw [h]
    · exact Int.zero_tmod _
    · exact Int.tmod_self
  have C2 := Lib.hid C2
  have C3 := Lib.hid C3
  have C4 := Lib.hid C4
  have q1 : ((x : Int) == (x : Int)) = true := by simp
  have q2 : ((a : Int) == (a : Int)) = true := by simp
  have q3 : (x == x) = true := by simp
  have q4 : (a == a) = true := by simp
  have hx2 : (x : Int) < (p : Int) := by omega
  have hx3 : (0 : Int) ≤ (x : Int) := by omega
  have x4 : decide ((x : Int) < (p : Int)) = true := decide_eq_true hx2
  clear hm hp hae hbe hke hxe hye hs hd hsz
  go_enter Try.func7, Try.ntmps7
  go_wp2_with (first
    | (with_reducible refine (awake_any S w).mono ?_; rintro e w1 ⟨rfl, HB1_⟩; have HB1 := Lib.hid HB1_; clear HB1_)
    | (with_reducible refine (P1.out w1).mono ?_; rintro e w' ⟨rfl, rfl⟩)
    | (with_reducible refine (C1.out w1).mono ?_; rintro e w2 ⟨rfl, hb⟩; have HB2 := Lib.hid (HB1.out.trans (hb.mono HB1.out.size)); clear hb)
    | (with_reducible refine (C2.out w2).mono ?_; rintro e w3 ⟨rfl, hb⟩; have HB3 := Lib.hid (HB2.out.trans (hb.mono HB2.out.size)); clear hb)
    | (with_reducible refine (C3.out w3).mono ?_; rintro e w4 ⟨rfl, hb⟩; have HB4 := Lib.hid (HB3.out.trans (hb.mono HB3.out.size)); clear hb)
    | (with_reducible refine (C4.out w4).mono ?_; rintro e w5 ⟨rfl, hb⟩; have HB5 := Lib.hid (HB4.out.trans (hb.mono HB4.out.size)); clear hb))
  go_ret
  exact ⟨rfl, HB5.out⟩
end Go.Proofs.Ytagfhephbjinmaa
