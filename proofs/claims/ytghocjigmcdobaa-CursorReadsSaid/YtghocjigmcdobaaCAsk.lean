/-
  The contracts of a reader's calls: Take, Num, Var, Text, End.
-/
import Derived.Test.YtghocjigmcdobaaCNext
namespace Go.Proofs.Ytghocjigmcdobaa
open Go.RowKit Go.Lib

theorem RS.nextB_le (s : RS) (n : Nat) : (s.nextB n).length ≤ n := by
  unfold RS.nextB
  split
  · split
    · simp
    · rw [List.length_take]; omega
  · simp
theorem RS.nextB_few (s : RS) (n : Nat) : (s.nextB n).length ≤ s.xs.length := by
  unfold RS.nextB
  split
  · split
    · simp
    · rw [List.length_take, List.length_drop]; omega
  · simp

/-- What Take comes to. -/
def RS.take (s : RS) (z : Int) : RS := if z < 0 then s.fail 1 else s.next z.toNat
def RS.takeB (s : RS) (z : Int) : List UInt8 := if z < 0 then [] else s.nextB z.toNat

/-- An answer of new bytes. -/
def GaveB (w : World) (P : Nat) (A : Option Addr) (cap : Nat) (s : RS) (bs : List UInt8) (e : Ending) (w' : World) : Prop := ∃ v, e = .returned v ∧ Own8 w' w.heap.size v bs ∧ Rdr w' P A cap s ∧ w.grownBy w' (some P)

set_option maxRecDepth 100000 in
set_option maxHeartbeats 1000000 in
theorem take_any {w : World} {P : Nat} {A : Option Addr} {cap : Nat} {s : RS} (h : Rdr w P A cap s) (z : Int) :
    Calls Try.prog 21 #[.pointer (some ⟨P, 0, none⟩), .int .i64 z] w (GaveB w P A cap (s.take z) (s.takeB z)) := by
  unfold RS.take RS.takeB
  by_cases hz : z < 0
  · rw [if_pos hz, if_pos hz]
    go_enter Try.func21, Try.ntmps21
    go_wp2_with fail
    refine (fail_any h 1).mono ?_
    rintro e w1 ⟨rfl, h1, g1⟩
    go_wp2_with fail
    refine (next_bad h1 (RS.fail_fe (by decide)) z).mono ?_
    rintro e w2 ⟨rfl, h2, g2⟩
    go_wp2_with fail
    refine (clone_any none 0 0 [] (by omega) _ (Rd.nil_ _)).mono ?_
    rintro e w3 ⟨v, rfl, hown, hb⟩
    go_wp2_with fail
    go_ret
    have g := gb_trans g1 g2
    exact ⟨v, rfl, hown.base_le g.size, h2.below hb h2.lt, gb_below g hb g.size⟩
  · rw [if_neg hz, if_neg hz]
    obtain ⟨n, rfl⟩ := Int.eq_ofNat_of_zero_le (show 0 ≤ z by omega)
    rw [Int.toNat_natCast]
    have hz' : (0 : Int) ≤ (n : Int) := by omega
    have hlen := s.nextB_few n
    have hfew := h.few
    go_enter Try.func21, Try.ntmps21
    go_wp2_with fail
    refine (next_any h n).mono ?_
    rintro e w1 ⟨A1, m1, c1, rfl, hr1, _, _, h1, g1⟩
    have hm1 : m1 ≤ 1000000000 := by have := hr1.len; omega
    go_wp2_with fail
    refine (clone_any A1 m1 c1 _ hm1 _ (hr1.more (Nat.le_of_lt h1.lt))).mono ?_
    rintro e w2 ⟨v, rfl, hown, hb⟩
    go_wp2_with fail
    go_ret
    exact ⟨v, rfl, hown.base_le g1.size, h1.below hb h1.lt, gb_below g1 hb g1.size⟩

/-- What Num comes to. -/
def RS.num (s : RS) (z : Int) : RS := if 1 ≤ z ∧ z ≤ 8 then s.next z.toNat else s.fail 1
def RS.numN (s : RS) (z : Int) (big : Bool) : Nat := if 1 ≤ z ∧ z ≤ 8 then getOf (s.nextB z.toNat) big else 0

/-- An answer of a number. -/
def GaveN (w : World) (P : Nat) (A : Option Addr) (cap : Nat) (s : RS) (n : Nat) (e : Ending) (w' : World) : Prop := e = .returned (.int .u64 (n : Int)) ∧ Rdr w' P A cap s ∧ w.grownBy w' (some P)

theorem getOf_nil (big : Bool) : getOf [] big = 0 := by cases big <;> simp [getOf, num]

set_option maxRecDepth 100000 in
set_option maxHeartbeats 1000000 in
theorem num_any {w : World} {P : Nat} {A : Option Addr} {cap : Nat} {s : RS} (h : Rdr w P A cap s) (z : Int) (big : Bool) :
    Calls Try.prog 19 #[.pointer (some ⟨P, 0, none⟩), .int .i64 z, .bool big] w (GaveN w P A cap (s.num z) (s.numN z big)) := by
  unfold RS.num RS.numN
  by_cases hz : 1 ≤ z ∧ z ≤ 8
  · rw [if_pos hz, if_pos hz]
    obtain ⟨n, rfl⟩ := Int.eq_ofNat_of_zero_le (show 0 ≤ z by omega)
    rw [Int.toNat_natCast]
    have hlen := s.nextB_le n
    have HZ := Lib.hid hz
    clear hz
    go_enter Try.func19, Try.ntmps19
    go_wp2_with fail
    refine (sized_yes _ HZ.out.1 HZ.out.2 _).mono ?_
    rintro e w1 ⟨rfl, rfl⟩
    go_wp2_with fail
    refine (next_any h n).mono ?_
    rintro e w1 ⟨A1, m1, c1, rfl, hr1, hmc, hcm, h1, g1⟩
    have hm1 : m1 ≤ 1000000000 := by have := hr1.len; have := HZ.out; omega
    go_wp2_with fail
    refine (get_any A1 m1 c1 _ big hm1 hmc hcm _ (hr1.more (Nat.le_of_lt h1.lt))).mono ?_
    rintro e w2 ⟨rfl, hb⟩
    go_wp2_with fail
    go_ret
    exact ⟨rfl, h1.below hb h1.lt, gb_below g1 hb g1.size⟩
  · rw [if_neg hz, if_neg hz]
    have HZ := Lib.hid hz
    clear hz
    go_enter Try.func19, Try.ntmps19
    go_wp2_with fail
    refine (sized_no _ (by have := HZ.out; omega) _).mono ?_
    rintro e w1 ⟨rfl, rfl⟩
    go_wp2_with fail
    refine (fail_any h 1).mono ?_
    rintro e w1 ⟨rfl, h1, g1⟩
    go_wp2_with fail
    refine (next_bad h1 (RS.fail_fe (by decide)) z).mono ?_
    rintro e w2 ⟨rfl, h2, g2⟩
    go_wp2_with fail
    refine (get_any none 0 0 [] big (by omega) (Nat.le_refl _) (by simp [maxLen]) _ (Rd.nil_ _)).mono ?_
    rintro e w3 ⟨rfl, hb⟩
    go_wp2_with fail
    go_ret
    have g := gb_trans g1 g2
    exact ⟨by rw [getOf_nil]; rfl, h2.below hb h2.lt, gb_below g hb g.size⟩

set_option maxRecDepth 100000 in
set_option maxHeartbeats 1000000 in
theorem var_any {w : World} {P : Nat} {A : Option Addr} {cap : Nat} {s : RS} (h : Rdr w P A cap s) :
    Calls Try.prog 20 #[.pointer (some ⟨P, 0, none⟩)] w (GaveN w P A cap (s.look.next s.lookK) s.lookN) := by
  go_enter Try.func20, Try.ntmps20
  go_wp2_with fail
  refine (ahead_any h).mono ?_
  rintro e w1 ⟨rfl, h1, g1⟩
  go_wp2_with fail
  refine (next_any h1 _).mono ?_
  rintro e w2 ⟨A1, m1, c1, rfl, hr1, _, _, h2, g2⟩
  go_wp2_with fail
  go_ret
  exact ⟨rfl, h2, gb_trans g1 g2⟩

/-- What End comes to. -/
def RS.over (s : RS) : RS := if 0 < s.left then s.fail 3 else s
set_option maxHeartbeats 1000000 in
theorem end_any {w : World} {P : Nat} {A : Option Addr} {cap : Nat} {s : RS} (h : Rdr w P A cap s) :
    Calls Try.prog 23 #[.pointer (some ⟨P, 0, none⟩)] w fun e w' => e = .returned (.tuple #[]) ∧ Rdr w' P A cap s.over ∧ w.grownBy w' (some P) := by
  unfold RS.over
  by_cases hl : 0 < s.left
  · rw [if_pos hl]
    go_enter Try.func23, Try.ntmps23
    go_wp2_with fail
    refine (left_any h).mono ?_
    rintro e w1 ⟨rfl, k, rfl⟩
    go_wp2_with fail
    refine (fail_any (h.drewN k) 3).mono ?_
    rintro e w1 ⟨rfl, h1, g1⟩
    go_wp2_with fail
    go_end0
    exact ⟨rfl, h1, gb_trans (gb_drewN (World.grownBy.refl w (some P)) k) g1⟩
  · rw [if_neg hl]
    have hl' : decide (0 < s.left) = false := decide_eq_false hl
    go_enter Try.func23, Try.ntmps23
    go_wp2_with fail
    refine (left_any h).mono ?_
    rintro e w1 ⟨rfl, k, rfl⟩
    go_wp2_with fail
    go_end0
    exact ⟨rfl, h.drewN k, gb_drewN (World.grownBy.refl w (some P)) k⟩
end Go.Proofs.Ytghocjigmcdobaa
