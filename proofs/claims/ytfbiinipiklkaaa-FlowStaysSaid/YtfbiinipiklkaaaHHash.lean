/-
  The program's round: bits.RotateLeft64 at each number of places, (*words).round on a block known whole.
  The program's words: rounds, take, end, begin, last, and a port's bytes.
  slices.Chunk over bytes, by eights: the iterator hands on each eight bytes.
  slices.Concat of whatever length, the program's begin and last.
  The program's Of.
  The program's port (two bytes of a number; split from HP2: only Bytes asks for it).
  The program's Bytes of a tuple.
  The program's Hash (split from HProg).
-/
import Derived.Test.YtfbiinipiklkaaaHROf
import Derived.Test.YtfbiinipiklkaaaGBlk
import Derived.Test.YtfbiinipiklkaaaQ10
import Derived.Deep.DeepCutAuto
import Derived.Deep.RegionLaw
import Derived.RangeFuncNested
import Derived.RangeFuncBound
import Derived.RangeFuncCalls
import Derived.RangeFuncLeaves
import Derived.RangeFuncBox
import Derived.Maps.AppendAt
import Derived.Shelf.Abstract
import Derived.Shelf.RegionOpen
import Derived.OwnWalkIn
import Derived.TacticsInMore
import Derived.LoopNIn
import Derived.LoopIn
import Derived.Test.YtfbiinipiklkaaaHRBy
import Derived.Test.YtfbiinipiklkaaaHYld
namespace Go.Proofs.Ytfbiinipiklkaaa
set_option maxRecDepth 100000
open Go.RowKit Go.Lib

theorem and63_13 : bits .and .u64 13 63 = 13 := by decide
set_option maxHeartbeats 1000000 in
theorem rotl_13 (n : Nat) (hn : n < 18446744073709551616) (w : World) : Calls Try.prog 103 #[.int .u64 (n : Int), .int .i64 13] w fun e w' => e = .returned (.int .u64 (rotW n 13 : Nat)) ∧ w = w' := by
  have H := Lib.hid (rot_13 hn)
  have ha := and63_13
  clear hn
  go_enter Try.func103, Try.ntmps103
  go_wp2_with fail
  go_ret
  rw [H.out]
  exact ⟨rfl, rfl⟩
theorem and63_16 : bits .and .u64 16 63 = 16 := by decide
set_option maxHeartbeats 1000000 in
theorem rotl_16 (n : Nat) (hn : n < 18446744073709551616) (w : World) : Calls Try.prog 103 #[.int .u64 (n : Int), .int .i64 16] w fun e w' => e = .returned (.int .u64 (rotW n 16 : Nat)) ∧ w = w' := by
  have H := Lib.hid (rot_16 hn)
  have ha := and63_16
  clear hn
  go_enter Try.func103, Try.ntmps103
  go_wp2_with fail
  go_ret
  rw [H.out]
  exact ⟨rfl, rfl⟩
theorem and63_17 : bits .and .u64 17 63 = 17 := by decide
set_option maxHeartbeats 1000000 in
theorem rotl_17 (n : Nat) (hn : n < 18446744073709551616) (w : World) : Calls Try.prog 103 #[.int .u64 (n : Int), .int .i64 17] w fun e w' => e = .returned (.int .u64 (rotW n 17 : Nat)) ∧ w = w' := by
  have H := Lib.hid (rot_17 hn)
  have ha := and63_17
  clear hn
  go_enter Try.func103, Try.ntmps103
  go_wp2_with fail
  go_ret
  rw [H.out]
  exact ⟨rfl, rfl⟩
theorem and63_21 : bits .and .u64 21 63 = 21 := by decide
set_option maxHeartbeats 1000000 in
theorem rotl_21 (n : Nat) (hn : n < 18446744073709551616) (w : World) : Calls Try.prog 103 #[.int .u64 (n : Int), .int .i64 21] w fun e w' => e = .returned (.int .u64 (rotW n 21 : Nat)) ∧ w = w' := by
  have H := Lib.hid (rot_21 hn)
  have ha := and63_21
  clear hn
  go_enter Try.func103, Try.ntmps103
  go_wp2_with fail
  go_ret
  rw [H.out]
  exact ⟨rfl, rfl⟩
theorem and63_32 : bits .and .u64 32 63 = 32 := by decide
set_option maxHeartbeats 1000000 in
theorem rotl_32 (n : Nat) (hn : n < 18446744073709551616) (w : World) : Calls Try.prog 103 #[.int .u64 (n : Int), .int .i64 32] w fun e w' => e = .returned (.int .u64 (rotW n 32 : Nat)) ∧ w = w' := by
  have H := Lib.hid (rot_32 hn)
  have ha := and63_32
  clear hn
  go_enter Try.func103, Try.ntmps103
  go_wp2_with fail
  go_ret
  rw [H.out]
  exact ⟨rfl, rfl⟩
/-- A block of four words, grown from w0 there alone. -/
def WB (w0 : World) (g : Nat) (cs : List Value) (W : World) : Prop := Blk W 126 g cs ∧ w0.grownBy W (some g)
theorem WB.drew {w0 W : World} {g : Nat} {cs : List Value} (h : WB w0 g cs W) : WB w0 g cs W.drew := ⟨h.1, gb_drew h.2⟩
theorem WB.st {w0 W W' : World} {g : Nat} {cs ds : List Value} (h : WB w0 g cs W) (hb : Blk W' 126 g ds) (hg : W.grownBy W' (some g)) : WB w0 g ds W' := ⟨hb, gb_trans h.2 hg⟩
/-- Several orders that end alike. -/
theorem cut_h {goal G : Prop} (h1 : G → goal) (h2 : G) : goal := h1 h2
theorem size1_u64 : (Try.prog.info? 101).map (·.size) = some 1 := by kernel_rfl
set_option maxHeartbeats 8000000 in
theorem round_any {v : V4} (h : v.Ok) (g : Nat) (w : World) (hb : Blk w 126 g (v4L v)) : Calls Try.prog 102 #[.pointer (some ⟨g, 0, none⟩)] w fun e w' => (∃ u, e = .returned u) ∧ WB w g (v4L (rnd v)) w' := by
  obtain ⟨a, b, c, d⟩ := v
  obtain ⟨la, lb, lc, ld⟩ := h
  simp only at la lb lc ld
  unfold v4L at hb
  simp only at hb
  obtain ⟨V, hV⟩ : ∃ V, rnd ⟨a, b, c, d⟩ = V := ⟨_, rfl⟩
  have HV := Lib.hid hV
  rw [hV]
  unfold rnd at hV
  simp only at hV
  obtain ⟨a1, ea1⟩ : ∃ x, addW a b = x := ⟨_, rfl⟩
  have Fa1 := add64 a b
  have la1 := addW_lt a b
  rw [ea1] at Fa1 la1 hV
  clear ea1
  obtain ⟨r1, er1⟩ : ∃ x, rotW b 13 = x := ⟨_, rfl⟩
  have Fr1 := fun W => rotl_13 b lb W
  have lr1 := rotW_lt lb 13
  rw [er1] at Fr1 lr1 hV
  clear er1
  have Gr1 := Lib.hid Fr1
  clear Fr1
  obtain ⟨b1, eb1⟩ : ∃ x, r1 ^^^ a1 = x := ⟨_, rfl⟩
  have Fb1 := xor64 lr1 la1
  have lb1 := xorW_lt lr1 la1
  rw [eb1] at Fb1 lb1 hV
  clear eb1
  obtain ⟨a2, ea2⟩ : ∃ x, rotW a1 32 = x := ⟨_, rfl⟩
  have Fa2 := fun W => rotl_32 a1 la1 W
  have la2 := rotW_lt la1 32
  rw [ea2] at Fa2 la2 hV
  clear ea2
  have Ga2 := Lib.hid Fa2
  clear Fa2
  obtain ⟨c1, ec1⟩ : ∃ x, addW c d = x := ⟨_, rfl⟩
  have Fc1 := add64 c d
  have lc1 := addW_lt c d
  rw [ec1] at Fc1 lc1 hV
  clear ec1
  obtain ⟨r2, er2⟩ : ∃ x, rotW d 16 = x := ⟨_, rfl⟩
  have Fr2 := fun W => rotl_16 d ld W
  have lr2 := rotW_lt ld 16
  rw [er2] at Fr2 lr2 hV
  clear er2
  have Gr2 := Lib.hid Fr2
  clear Fr2
  obtain ⟨d1, ed1⟩ : ∃ x, r2 ^^^ c1 = x := ⟨_, rfl⟩
  have Fd1 := xor64 lr2 lc1
  have ld1 := xorW_lt lr2 lc1
  rw [ed1] at Fd1 ld1 hV
  clear ed1
  obtain ⟨a3, ea3⟩ : ∃ x, addW a2 d1 = x := ⟨_, rfl⟩
  have Fa3 := add64 a2 d1
  have la3 := addW_lt a2 d1
  rw [ea3] at Fa3 la3 hV
  clear ea3
  obtain ⟨r3, er3⟩ : ∃ x, rotW d1 21 = x := ⟨_, rfl⟩
  have Fr3 := fun W => rotl_21 d1 ld1 W
  have lr3 := rotW_lt ld1 21
  rw [er3] at Fr3 lr3 hV
  clear er3
  have Gr3 := Lib.hid Fr3
  clear Fr3
  obtain ⟨d2, ed2⟩ : ∃ x, r3 ^^^ a3 = x := ⟨_, rfl⟩
  have Fd2 := xor64 lr3 la3
  have ld2 := xorW_lt lr3 la3
  rw [ed2] at Fd2 ld2 hV
  clear ed2
  obtain ⟨c2, ec2⟩ : ∃ x, addW c1 b1 = x := ⟨_, rfl⟩
  have Fc2 := add64 c1 b1
  have lc2 := addW_lt c1 b1
  rw [ec2] at Fc2 lc2 hV
  clear ec2
  obtain ⟨r4, er4⟩ : ∃ x, rotW b1 17 = x := ⟨_, rfl⟩
  have Fr4 := fun W => rotl_17 b1 lb1 W
  have lr4 := rotW_lt lb1 17
  rw [er4] at Fr4 lr4 hV
  clear er4
  have Gr4 := Lib.hid Fr4
  clear Fr4
  obtain ⟨b2, eb2⟩ : ∃ x, r4 ^^^ c2 = x := ⟨_, rfl⟩
  have Fb2 := xor64 lr4 lc2
  have lb2 := xorW_lt lr4 lc2
  rw [eb2] at Fb2 lb2 hV
  clear eb2
  obtain ⟨c3, ec3⟩ : ∃ x, rotW c2 32 = x := ⟨_, rfl⟩
  have Fc3 := fun W => rotl_32 c2 lc2 W
  have lc3 := rotW_lt lc2 32
  rw [ec3] at Fc3 lc3 hV
  clear ec3
  have Gc3 := Lib.hid Fc3
  clear Fc3
  subst hV
  clear la1 lr1 lb1 la2 lc1 lr2 ld1 la3 lr3 ld2 lc2 lr4 lb2 lc3 la lb lc ld HV
  have HS : Hid (WB w g [.int .u64 (a : Int), .int .u64 (b : Int), .int .u64 (c : Int), .int .u64 (d : Int)] w) := Lib.hid ⟨hb, World.grownBy.refl w _⟩
  clear hb
  have HFa1 := Lib.hid Fa1
  clear Fa1
  have HFa3 := Lib.hid Fa3
  clear Fa3
  have HFb1 := Lib.hid Fb1
  clear Fb1
  have HFb2 := Lib.hid Fb2
  clear Fb2
  have HFc1 := Lib.hid Fc1
  clear Fc1
  have HFc2 := Lib.hid Fc2
  clear Fc2
  have HFd1 := Lib.hid Fd1
  clear Fd1
  have HFd2 := Lib.hid Fd2
  clear Fd2
  go_enter Try.func102, Try.ntmps102
  have k0 : w.cell? ⟨g, 0, none⟩ = some (.int .u64 (a : Int)) := Blk_10.cell HS.out.1 rfl
  have k1 : w.cell? ⟨g, 1, none⟩ = some (.int .u64 (b : Int)) := Blk_10.cell HS.out.1 rfl
  have k2 : w.cell? ⟨g, 2, none⟩ = some (.int .u64 (c : Int)) := Blk_10.cell HS.out.1 rfl
  have k3 : w.cell? ⟨g, 3, none⟩ = some (.int .u64 (d : Int)) := Blk_10.cell HS.out.1 rfl
  have Fa1 := HFa1.out
  have kf : w.frozen? ⟨g, 0, none⟩ = false := Blk_10.frozen HS.out.1 0
  go_wp2_with fail
  go_region
  have HS0 : Hid (WB w g [.int .u64 (a1 : Int), .int .u64 (b : Int), .int .u64 (c : Int), .int .u64 (d : Int)] (w.setCell ⟨g, 0, none⟩ (.int .u64 (a1 : Int))).drew) := Lib.hid (HS.out.st (Blk_10.set HS.out.1 0 _) (gb_setCell _ g 0 _)).drew
  generalize (w.setCell ⟨g, 0, none⟩ (.int .u64 (a1 : Int))).drew = W0 at HS0 ⊢
  clear kf
  clear k0 k1 k2 k3 HS Fa1
  have HS := HS0
  clear HS0
  have k0 : W0.cell? ⟨g, 0, none⟩ = some (.int .u64 (a1 : Int)) := Blk_10.cell HS.out.1 rfl
  have k1 : W0.cell? ⟨g, 1, none⟩ = some (.int .u64 (b : Int)) := Blk_10.cell HS.out.1 rfl
  have k2 : W0.cell? ⟨g, 2, none⟩ = some (.int .u64 (c : Int)) := Blk_10.cell HS.out.1 rfl
  have k3 : W0.cell? ⟨g, 3, none⟩ = some (.int .u64 (d : Int)) := Blk_10.cell HS.out.1 rfl
  have Fb1 := HFb1.out
  have kf : W0.frozen? ⟨g, 1, none⟩ = false := Blk_10.frozen HS.out.1 1
  go_wp2_with fail
  apply cut_h
  case h1 =>
    intro hc
    go_region_law (rw [if_pos (by rfl)]; go_simp; with_reducible refine (Gr1.out _).mono ?_; rintro e w' ⟨rfl, rfl⟩)
    all_goals exact hc
  have HS1 : Hid (WB w g [.int .u64 (a1 : Int), .int .u64 (b1 : Int), .int .u64 (c : Int), .int .u64 (d : Int)] (W0.setCell ⟨g, 1, none⟩ (.int .u64 (b1 : Int))).drew) := Lib.hid (HS.out.st (Blk_10.set HS.out.1 1 _) (gb_setCell _ g 1 _)).drew
  generalize (W0.setCell ⟨g, 1, none⟩ (.int .u64 (b1 : Int))).drew = W1 at HS1 ⊢
  clear kf
  clear k0 k1 k2 k3 HS Fb1
  have HS := HS1
  clear HS1
  have k0 : W1.cell? ⟨g, 0, none⟩ = some (.int .u64 (a1 : Int)) := Blk_10.cell HS.out.1 rfl
  have k1 : W1.cell? ⟨g, 1, none⟩ = some (.int .u64 (b1 : Int)) := Blk_10.cell HS.out.1 rfl
  have k2 : W1.cell? ⟨g, 2, none⟩ = some (.int .u64 (c : Int)) := Blk_10.cell HS.out.1 rfl
  have k3 : W1.cell? ⟨g, 3, none⟩ = some (.int .u64 (d : Int)) := Blk_10.cell HS.out.1 rfl
  go_wp2_with (first
    | (with_reducible refine (Ga2.out _).mono ?_; rintro e w' ⟨rfl, rfl⟩)
    | ((with_reducible show wpList _ _ _ (⟨none, .store 101 (.tmp 33) _, _, _, _, _⟩ :: _) _ _); refine wpList_storeB1 rfl 101 (.tmp 33) (.tmp 31) rfl g 0 (by rfl) (.int .u64 (a2 : Int)) (by rfl) 126 [.int .u64 (a1 : Int), .int .u64 (b1 : Int), .int .u64 (c : Int), .int .u64 (d : Int)] HS.out.1 (by simp) size1_u64 (by rfl) (by rfl) ?_; intro W2 hb2 hg2; have HS2 : Hid (WB w g [.int .u64 (a2 : Int), .int .u64 (b1 : Int), .int .u64 (c : Int), .int .u64 (d : Int)] W2) := Lib.hid (HS.out.st hb2 hg2); clear hb2 hg2))
  clear k0 k1 k2 k3 HS
  have HS := HS2
  clear HS2
  (try simp only [Act.put])
  have k0 : W2.cell? ⟨g, 0, none⟩ = some (.int .u64 (a2 : Int)) := Blk_10.cell HS.out.1 rfl
  have k1 : W2.cell? ⟨g, 1, none⟩ = some (.int .u64 (b1 : Int)) := Blk_10.cell HS.out.1 rfl
  have k2 : W2.cell? ⟨g, 2, none⟩ = some (.int .u64 (c : Int)) := Blk_10.cell HS.out.1 rfl
  have k3 : W2.cell? ⟨g, 3, none⟩ = some (.int .u64 (d : Int)) := Blk_10.cell HS.out.1 rfl
  have Fc1 := HFc1.out
  have kf : W2.frozen? ⟨g, 2, none⟩ = false := Blk_10.frozen HS.out.1 2
  go_region
  have HS3 : Hid (WB w g [.int .u64 (a2 : Int), .int .u64 (b1 : Int), .int .u64 (c1 : Int), .int .u64 (d : Int)] (W2.setCell ⟨g, 2, none⟩ (.int .u64 (c1 : Int))).drew) := Lib.hid (HS.out.st (Blk_10.set HS.out.1 2 _) (gb_setCell _ g 2 _)).drew
  generalize (W2.setCell ⟨g, 2, none⟩ (.int .u64 (c1 : Int))).drew = W3 at HS3 ⊢
  clear kf
  clear k0 k1 k2 k3 HS Fc1
  have HS := HS3
  clear HS3
  have k0 : W3.cell? ⟨g, 0, none⟩ = some (.int .u64 (a2 : Int)) := Blk_10.cell HS.out.1 rfl
  have k1 : W3.cell? ⟨g, 1, none⟩ = some (.int .u64 (b1 : Int)) := Blk_10.cell HS.out.1 rfl
  have k2 : W3.cell? ⟨g, 2, none⟩ = some (.int .u64 (c1 : Int)) := Blk_10.cell HS.out.1 rfl
  have k3 : W3.cell? ⟨g, 3, none⟩ = some (.int .u64 (d : Int)) := Blk_10.cell HS.out.1 rfl
  have Fd1 := HFd1.out
  have kf : W3.frozen? ⟨g, 3, none⟩ = false := Blk_10.frozen HS.out.1 3
  go_wp2_with fail
  apply cut_h
  case h1 =>
    intro hc
    go_region_law (rw [if_pos (by rfl)]; go_simp; with_reducible refine (Gr2.out _).mono ?_; rintro e w' ⟨rfl, rfl⟩)
    all_goals exact hc
  have HS4 : Hid (WB w g [.int .u64 (a2 : Int), .int .u64 (b1 : Int), .int .u64 (c1 : Int), .int .u64 (d1 : Int)] (W3.setCell ⟨g, 3, none⟩ (.int .u64 (d1 : Int))).drew) := Lib.hid (HS.out.st (Blk_10.set HS.out.1 3 _) (gb_setCell _ g 3 _)).drew
  generalize (W3.setCell ⟨g, 3, none⟩ (.int .u64 (d1 : Int))).drew = W4 at HS4 ⊢
  clear kf
  clear k0 k1 k2 k3 HS Fd1
  have HS := HS4
  clear HS4
  have k0 : W4.cell? ⟨g, 0, none⟩ = some (.int .u64 (a2 : Int)) := Blk_10.cell HS.out.1 rfl
  have k1 : W4.cell? ⟨g, 1, none⟩ = some (.int .u64 (b1 : Int)) := Blk_10.cell HS.out.1 rfl
  have k2 : W4.cell? ⟨g, 2, none⟩ = some (.int .u64 (c1 : Int)) := Blk_10.cell HS.out.1 rfl
  have k3 : W4.cell? ⟨g, 3, none⟩ = some (.int .u64 (d1 : Int)) := Blk_10.cell HS.out.1 rfl
  have Fa3 := HFa3.out
  have kf : W4.frozen? ⟨g, 0, none⟩ = false := Blk_10.frozen HS.out.1 0
  go_wp2_with fail
  go_region
  have HS5 : Hid (WB w g [.int .u64 (a3 : Int), .int .u64 (b1 : Int), .int .u64 (c1 : Int), .int .u64 (d1 : Int)] (W4.setCell ⟨g, 0, none⟩ (.int .u64 (a3 : Int))).drew) := Lib.hid (HS.out.st (Blk_10.set HS.out.1 0 _) (gb_setCell _ g 0 _)).drew
  generalize (W4.setCell ⟨g, 0, none⟩ (.int .u64 (a3 : Int))).drew = W5 at HS5 ⊢
  clear kf
  clear k0 k1 k2 k3 HS Fa3
  have HS := HS5
  clear HS5
  have k0 : W5.cell? ⟨g, 0, none⟩ = some (.int .u64 (a3 : Int)) := Blk_10.cell HS.out.1 rfl
  have k1 : W5.cell? ⟨g, 1, none⟩ = some (.int .u64 (b1 : Int)) := Blk_10.cell HS.out.1 rfl
  have k2 : W5.cell? ⟨g, 2, none⟩ = some (.int .u64 (c1 : Int)) := Blk_10.cell HS.out.1 rfl
  have k3 : W5.cell? ⟨g, 3, none⟩ = some (.int .u64 (d1 : Int)) := Blk_10.cell HS.out.1 rfl
  have Fd2 := HFd2.out
  have kf : W5.frozen? ⟨g, 3, none⟩ = false := Blk_10.frozen HS.out.1 3
  go_wp2_with fail
  apply cut_h
  case h1 =>
    intro hc
    go_region_law (rw [if_pos (by rfl)]; go_simp; with_reducible refine (Gr3.out _).mono ?_; rintro e w' ⟨rfl, rfl⟩)
    all_goals exact hc
  have HS6 : Hid (WB w g [.int .u64 (a3 : Int), .int .u64 (b1 : Int), .int .u64 (c1 : Int), .int .u64 (d2 : Int)] (W5.setCell ⟨g, 3, none⟩ (.int .u64 (d2 : Int))).drew) := Lib.hid (HS.out.st (Blk_10.set HS.out.1 3 _) (gb_setCell _ g 3 _)).drew
  generalize (W5.setCell ⟨g, 3, none⟩ (.int .u64 (d2 : Int))).drew = W6 at HS6 ⊢
  clear kf
  clear k0 k1 k2 k3 HS Fd2
  have HS := HS6
  clear HS6
  have k0 : W6.cell? ⟨g, 0, none⟩ = some (.int .u64 (a3 : Int)) := Blk_10.cell HS.out.1 rfl
  have k1 : W6.cell? ⟨g, 1, none⟩ = some (.int .u64 (b1 : Int)) := Blk_10.cell HS.out.1 rfl
  have k2 : W6.cell? ⟨g, 2, none⟩ = some (.int .u64 (c1 : Int)) := Blk_10.cell HS.out.1 rfl
  have k3 : W6.cell? ⟨g, 3, none⟩ = some (.int .u64 (d2 : Int)) := Blk_10.cell HS.out.1 rfl
  have Fc2 := HFc2.out
  have kf : W6.frozen? ⟨g, 2, none⟩ = false := Blk_10.frozen HS.out.1 2
  go_wp2_with fail
  go_region
  have HS7 : Hid (WB w g [.int .u64 (a3 : Int), .int .u64 (b1 : Int), .int .u64 (c2 : Int), .int .u64 (d2 : Int)] (W6.setCell ⟨g, 2, none⟩ (.int .u64 (c2 : Int))).drew) := Lib.hid (HS.out.st (Blk_10.set HS.out.1 2 _) (gb_setCell _ g 2 _)).drew
  generalize (W6.setCell ⟨g, 2, none⟩ (.int .u64 (c2 : Int))).drew = W7 at HS7 ⊢
  clear kf
  clear k0 k1 k2 k3 HS Fc2
  have HS := HS7
  clear HS7
  have k0 : W7.cell? ⟨g, 0, none⟩ = some (.int .u64 (a3 : Int)) := Blk_10.cell HS.out.1 rfl
  have k1 : W7.cell? ⟨g, 1, none⟩ = some (.int .u64 (b1 : Int)) := Blk_10.cell HS.out.1 rfl
  have k2 : W7.cell? ⟨g, 2, none⟩ = some (.int .u64 (c2 : Int)) := Blk_10.cell HS.out.1 rfl
  have k3 : W7.cell? ⟨g, 3, none⟩ = some (.int .u64 (d2 : Int)) := Blk_10.cell HS.out.1 rfl
  have Fb2 := HFb2.out
  have kf : W7.frozen? ⟨g, 1, none⟩ = false := Blk_10.frozen HS.out.1 1
  go_wp2_with fail
  apply cut_h
  case h1 =>
    intro hc
    go_region_law (rw [if_pos (by rfl)]; go_simp; with_reducible refine (Gr4.out _).mono ?_; rintro e w' ⟨rfl, rfl⟩)
    all_goals exact hc
  have HS8 : Hid (WB w g [.int .u64 (a3 : Int), .int .u64 (b2 : Int), .int .u64 (c2 : Int), .int .u64 (d2 : Int)] (W7.setCell ⟨g, 1, none⟩ (.int .u64 (b2 : Int))).drew) := Lib.hid (HS.out.st (Blk_10.set HS.out.1 1 _) (gb_setCell _ g 1 _)).drew
  generalize (W7.setCell ⟨g, 1, none⟩ (.int .u64 (b2 : Int))).drew = W8 at HS8 ⊢
  clear kf
  clear k0 k1 k2 k3 HS Fb2
  have HS := HS8
  clear HS8
  have k0 : W8.cell? ⟨g, 0, none⟩ = some (.int .u64 (a3 : Int)) := Blk_10.cell HS.out.1 rfl
  have k1 : W8.cell? ⟨g, 1, none⟩ = some (.int .u64 (b2 : Int)) := Blk_10.cell HS.out.1 rfl
  have k2 : W8.cell? ⟨g, 2, none⟩ = some (.int .u64 (c2 : Int)) := Blk_10.cell HS.out.1 rfl
  have k3 : W8.cell? ⟨g, 3, none⟩ = some (.int .u64 (d2 : Int)) := Blk_10.cell HS.out.1 rfl
  go_wp2_with (first
    | (with_reducible refine (Gc3.out _).mono ?_; rintro e w' ⟨rfl, rfl⟩)
    | ((with_reducible show wpList _ _ _ (⟨none, .store 101 (.tmp 113) _, _, _, _, _⟩ :: _) _ _); refine wpList_storeB1 rfl 101 (.tmp 113) (.tmp 111) rfl g 2 (by rfl) (.int .u64 (c3 : Int)) (by rfl) 126 [.int .u64 (a3 : Int), .int .u64 (b2 : Int), .int .u64 (c2 : Int), .int .u64 (d2 : Int)] HS.out.1 (by simp) size1_u64 (by rfl) (by rfl) ?_; intro W9 hb9 hg9; have HS9 : Hid (WB w g [.int .u64 (a3 : Int), .int .u64 (b2 : Int), .int .u64 (c3 : Int), .int .u64 (d2 : Int)] W9) := Lib.hid (HS.out.st hb9 hg9); clear hb9 hg9))
  clear k0 k1 k2 k3 HS
  have HS := HS9
  clear HS9
  go_end0
  exact ⟨⟨_, rfl⟩, HS.out⟩
end Go.Proofs.Ytfbiinipiklkaaa
namespace Go.Proofs.Ytfbiinipiklkaaa
set_option maxRecDepth 100000
open Go.RowKit Go.Lib

theorem WB.refl {w : World} {g : Nat} {cs : List Value} (h : Blk w 126 g cs) : WB w g cs w := ⟨h, World.grownBy.refl w _⟩
theorem WB.b {w0 w : World} {g : Nat} {cs : List Value} (h : WB w0 g cs w) : Blk w 126 g cs := h.1
theorem WB.trans {w0 w1 w2 : World} {g : Nat} {cs ds : List Value} (h : WB w0 g cs w1) (k : WB w1 g ds w2) : WB w0 g ds w2 := ⟨k.1, gb_trans h.2 k.2⟩
set_option maxHeartbeats 2000000 in
theorem prounds_any {v : V4} (h : v.Ok) (n : Nat) (hn : n ≤ 100) (g : Nat) (w : World) (hb : Blk w 126 g (v4L v)) : Calls Try.prog 100 #[.pointer (some ⟨g, 0, none⟩), .int .i64 (n : Int)] w fun e w' => (∃ u, e = .returned u) ∧ WB w g (v4L (rnds n v)) w' := by
  have HV := Lib.hid h
  have HB := Lib.hid hb
  clear h hb
  go_enter Try.func100, Try.ntmps100
  go_wp2_with fail
  go_loopw [5] (fun i wr => ∃ k : Nat, k ≤ n ∧ i = .int .i64 (k : Int) ∧ WB w g (v4L (rnds k v)) wr)
    (fun i _ => n - (intOf i).toNat)
  case atStart => exact ⟨0, Nat.zero_le _, rfl, by rw [rnds_zero]; exact WB.refl HB.out⟩
  case round =>
    obtain ⟨k, hk, rfl, hw⟩ := hrel
    by_cases hlt : k < n
    · have h1 : (k : Int) < (n : Int) := by omega
      have HR := Lib.hid (round_any (rnds_ok k HV.out) g wr hw.1)
      have HW := Lib.hid hw
      clear hw
      go_wp2_with (with_reducible refine HR.out.mono ?_; rintro e w2 ⟨⟨u2, rfl⟩, hw2⟩)
      go_roundw
      case rel => exact ⟨k + 1, by omega, by go_num, by rw [rnds_succ]; exact HW.out.trans hw2⟩
      case measure => simp [intOf]; omega
    · obtain rfl : k = n := by omega
      go_wp2_with fail
      go_end0
      exact ⟨⟨_, rfl⟩, hw⟩
set_option maxHeartbeats 4000000 in
theorem ptake_any {v : V4} (h : v.Ok) (m : Nat) (hm : m < 18446744073709551616) (g : Nat) (w : World) (hb : Blk w 126 g (v4L v)) : Calls Try.prog 93 #[.pointer (some ⟨g, 0, none⟩), .int .u64 (m : Int)] w fun e w' => (∃ u, e = .returned u) ∧ WB w g (v4L (takeV v m)) w' := by
  have HO := Lib.hid (xorD_ok h hm)
  have HT : Hid (takeV v m = xorA (rnds 2 (xorD v m)) m) := Lib.hid rfl
  have HF := Lib.hid (fun (x : V4) (hx : x.Ok) => xor64 hx.a hm)
  have hO2 := rnds_ok 2 HO.out
  obtain ⟨a, b, c, d⟩ := v
  obtain ⟨x, hx⟩ : ∃ x, rnds 2 (xorD ⟨a, b, c, d⟩ m) = x := ⟨_, rfl⟩
  rw [hx] at hO2
  have F0 := xor64 h.d hm
  have F1 := xor64 hO2.a hm
  obtain ⟨d1, hd1⟩ : ∃ y, d ^^^ m = y := ⟨_, rfl⟩
  have hxd : xorD ⟨a, b, c, d⟩ m = ⟨a, b, c, d1⟩ := by rw [← hd1]; rfl
  rw [hxd] at hx HO HT
  rw [hx] at HT
  have hR0 := fun W hb => prounds_any HO.out 2 (by decide) g W hb
  rw [hx] at hR0
  have HS : Hid (WB w g [.int .u64 (a : Int), .int .u64 (b : Int), .int .u64 (c : Int), .int .u64 (d : Int)] w) := Lib.hid (WB.refl hb)
  obtain ⟨a2, b2, c2, d2⟩ := x
  obtain ⟨a3, ha3⟩ : ∃ y, a2 ^^^ m = y := ⟨_, rfl⟩
  simp only at F0 F1
  rw [hd1] at F0
  rw [ha3] at F1
  have HE : Hid (takeV ⟨a, b, c, d⟩ m = ⟨a3, b2, c2, d2⟩) := Lib.hid (by rw [HT.out, ← ha3]; rfl)
  have HR : Hid (∀ W, Blk W 126 g [.int .u64 (a : Int), .int .u64 (b : Int), .int .u64 (c : Int), .int .u64 (d1 : Int)] → Calls Try.prog 100 #[.pointer (some ⟨g, 0, none⟩), .int .i64 2] W fun e w' => (∃ u, e = .returned u) ∧ WB W g [.int .u64 (a2 : Int), .int .u64 (b2 : Int), .int .u64 (c2 : Int), .int .u64 (d2 : Int)] w') := Lib.hid hR0
  clear h hm hb HF hO2 HT hx hxd hd1 ha3 HO hR0
  have k0 : w.cell? ⟨g, 0, none⟩ = some (.int .u64 (a : Int)) := Blk_10.cell HS.out.1 rfl
  have k1 : w.cell? ⟨g, 1, none⟩ = some (.int .u64 (b : Int)) := Blk_10.cell HS.out.1 rfl
  have k2 : w.cell? ⟨g, 2, none⟩ = some (.int .u64 (c : Int)) := Blk_10.cell HS.out.1 rfl
  have k3 : w.cell? ⟨g, 3, none⟩ = some (.int .u64 (d : Int)) := Blk_10.cell HS.out.1 rfl
  go_enter Try.func93, Try.ntmps93
  go_wp2_with (first
    | ((with_reducible show wpList _ _ _ (⟨none, .store 101 (.tmp 11) _, _, _, _, _⟩ :: _) _ _); refine wpList_storeB1 rfl 101 (.tmp 11) (.tmp 9) rfl g 3 (by rfl) (.int .u64 (d1 : Int)) (by rfl) 126 [.int .u64 (a : Int), .int .u64 (b : Int), .int .u64 (c : Int), .int .u64 (d : Int)] HS.out.1 (by simp) size1_u64 (by rfl) (by rfl) ?_; intro W1 hb1 hg1; have HS1 : Hid (WB w g [.int .u64 (a : Int), .int .u64 (b : Int), .int .u64 (c : Int), .int .u64 (d1 : Int)] W1) := Lib.hid (HS.out.st hb1 hg1); clear hb1 hg1)
    | ((with_reducible refine (HR.out _ (WB.b HS1.out)).mono ?_); rintro e W2 ⟨⟨u2, rfl⟩, hw2⟩; have HS2 : Hid (WB w g [.int .u64 (a2 : Int), .int .u64 (b2 : Int), .int .u64 (c2 : Int), .int .u64 (d2 : Int)] W2) := Lib.hid (HS1.out.trans hw2); clear hw2; have k4 : W2.cell? ⟨g, 0, none⟩ = some (.int .u64 (a2 : Int)) := Blk_10.cell HS2.out.1 rfl)
    | ((with_reducible show wpList _ _ _ (⟨none, .store 101 (.tmp 21) _, _, _, _, _⟩ :: _) _ _); refine wpList_storeB1 rfl 101 (.tmp 21) (.tmp 19) rfl g 0 (by rfl) (.int .u64 (a3 : Int)) (by rfl) 126 [.int .u64 (a2 : Int), .int .u64 (b2 : Int), .int .u64 (c2 : Int), .int .u64 (d2 : Int)] HS2.out.1 (by simp) size1_u64 (by rfl) (by rfl) ?_; intro W3 hb3 hg3; have HS3 : Hid (WB w g [.int .u64 (a3 : Int), .int .u64 (b2 : Int), .int .u64 (c2 : Int), .int .u64 (d2 : Int)] W3) := Lib.hid (HS2.out.st hb3 hg3); clear hb3 hg3))
  go_end0
  refine ⟨⟨_, rfl⟩, ?_⟩
  rw [HE.out]
  exact HS3.out
set_option maxHeartbeats 4000000 in
theorem pend_any {v : V4} (h : v.Ok) (g : Nat) (w : World) (hb : Blk w 126 g (v4L v)) : Calls Try.prog 96 #[.pointer (some ⟨g, 0, none⟩)] w fun e w' => e = .returned (.int .u64 (finV v : Nat)) ∧ w.grownBy w' (some g) := by
  have HT : Hid (finV v = (rnds 4 (xorC v 255)).a ^^^ (rnds 4 (xorC v 255)).b ^^^ (rnds 4 (xorC v 255)).c ^^^ (rnds 4 (xorC v 255)).d) := Lib.hid rfl
  obtain ⟨q, hq⟩ : ∃ q, finV v = q := ⟨_, rfl⟩
  rw [hq]
  rw [hq] at HT
  clear hq
  have hO := xorC_ok h (m := 255) (by decide)
  have hO2 := rnds_ok 4 hO
  have F0 := xor64 h.c (b := 255) (by decide)
  obtain ⟨a, b, c, d⟩ := v
  simp only at F0
  obtain ⟨c1, hc1⟩ : ∃ y, c ^^^ 255 = y := ⟨_, rfl⟩
  have hxc : xorC ⟨a, b, c, d⟩ 255 = ⟨a, b, c1, d⟩ := by rw [← hc1]; rfl
  rw [hc1] at F0
  rw [hxc] at hO hO2 HT
  have HO := Lib.hid hO
  obtain ⟨x, hx⟩ : ∃ x, rnds 4 ⟨a, b, c1, d⟩ = x := ⟨_, rfl⟩
  have hR0 := fun W hb => prounds_any HO.out 4 (by decide) g W hb
  rw [hx] at HT hO2 hR0
  have HS : Hid (WB w g [.int .u64 (a : Int), .int .u64 (b : Int), .int .u64 (c : Int), .int .u64 (d : Int)] w) := Lib.hid (WB.refl hb)
  obtain ⟨a2, b2, c2, d2⟩ := x
  obtain ⟨l1, l2, l3, l4⟩ := hO2
  simp only at l1 l2 l3 l4 HT
  have F1 := xor64 l1 l2
  have m1 := xorW_lt l1 l2
  obtain ⟨y1, e1⟩ : ∃ y, a2 ^^^ b2 = y := ⟨_, rfl⟩
  rw [e1] at F1 m1 HT
  have F2 := xor64 m1 l3
  have m2 := xorW_lt m1 l3
  obtain ⟨y2, e2⟩ : ∃ y, y1 ^^^ c2 = y := ⟨_, rfl⟩
  rw [e2] at F2 m2 HT
  have F3 := xor64 m2 l4
  rw [← HT.out] at F3
  have F0' : bits .xor .u64 (c : Int) 255 = (c1 : Int) := F0
  have HR : Hid (∀ W, Blk W 126 g [.int .u64 (a : Int), .int .u64 (b : Int), .int .u64 (c1 : Int), .int .u64 (d : Int)] → Calls Try.prog 100 #[.pointer (some ⟨g, 0, none⟩), .int .i64 4] W fun e w' => (∃ u, e = .returned u) ∧ WB W g [.int .u64 (a2 : Int), .int .u64 (b2 : Int), .int .u64 (c2 : Int), .int .u64 (d2 : Int)] w') := Lib.hid hR0
  clear h hb hO hx hxc hc1 l1 l2 l3 l4 m1 m2 e1 e2 HT HO F0 hR0
  have k0 : w.cell? ⟨g, 0, none⟩ = some (.int .u64 (a : Int)) := Blk_10.cell HS.out.1 rfl
  have k1 : w.cell? ⟨g, 1, none⟩ = some (.int .u64 (b : Int)) := Blk_10.cell HS.out.1 rfl
  have k2 : w.cell? ⟨g, 2, none⟩ = some (.int .u64 (c : Int)) := Blk_10.cell HS.out.1 rfl
  have k3 : w.cell? ⟨g, 3, none⟩ = some (.int .u64 (d : Int)) := Blk_10.cell HS.out.1 rfl
  go_enter Try.func96, Try.ntmps96
  go_wp2_with (first
    | ((with_reducible show wpList _ _ _ (⟨none, .store 101 (.tmp 9) _, _, _, _, _⟩ :: _) _ _); refine wpList_storeB1 rfl 101 (.tmp 9) (.tmp 7) rfl g 2 (by rfl) (.int .u64 (c1 : Int)) (by rfl) 126 [.int .u64 (a : Int), .int .u64 (b : Int), .int .u64 (c : Int), .int .u64 (d : Int)] HS.out.1 (by simp) size1_u64 (by rfl) (by rfl) ?_; intro W1 hb1 hg1; have HS1 : Hid (WB w g [.int .u64 (a : Int), .int .u64 (b : Int), .int .u64 (c1 : Int), .int .u64 (d : Int)] W1) := Lib.hid (HS.out.st hb1 hg1); clear hb1 hg1)
    | ((with_reducible refine (HR.out _ (WB.b HS1.out)).mono ?_); rintro e W2 ⟨⟨u2, rfl⟩, hw2⟩; have HS2 : Hid (WB w g [.int .u64 (a2 : Int), .int .u64 (b2 : Int), .int .u64 (c2 : Int), .int .u64 (d2 : Int)] W2) := Lib.hid (HS1.out.trans hw2); clear hw2; have j0 : W2.cell? ⟨g, 0, none⟩ = some (.int .u64 (a2 : Int)) := Blk_10.cell HS2.out.1 rfl; have j1 : W2.cell? ⟨g, 1, none⟩ = some (.int .u64 (b2 : Int)) := Blk_10.cell HS2.out.1 rfl; have j2 : W2.cell? ⟨g, 2, none⟩ = some (.int .u64 (c2 : Int)) := Blk_10.cell HS2.out.1 rfl; have j3 : W2.cell? ⟨g, 3, none⟩ = some (.int .u64 (d2 : Int)) := Blk_10.cell HS2.out.1 rfl))
  go_region
  go_wp2_with fail
  go_ret
  exact ⟨rfl, gb_drew HS2.out.2⟩
end Go.Proofs.Ytfbiinipiklkaaa
namespace Go.Proofs.Ytfbiinipiklkaaa
set_option maxRecDepth 100000
open Go.RowKit Go.Shelf Go.Lib

attribute [local go_sem] Oper.semAt_some

/-- b[L:H:M], where these come to l, l + n and l + n again. -/
theorem run_cut8m (A : Option Addr) (len cap l n : Nat) (L H M : Int) (hL : L = (l : Int)) (hH : H = ((l + n : Nat) : Int)) (hM : M = H) (h2 : l + n ≤ cap) (hn : 0 < n) (W : World) :
    (Instr.slice 72 (.slice A len cap) (some (.int .i64 L)) (some (.int .i64 H)) (some (.int .i64 M))).run Try.prog W = .ok (.slice (A.map fun a => a.add l) n n) W := by
  subst hM hL hH
  obtain ⟨i0, hi, hz0, hz1, hz2⟩ := info_parts info8
  have hb := run_sliceBound (P := Try.prog) (w := W) .i64 (l : Int) (l + n) .slice3C (by omega) (by omega)
  have hc := run_sliceBound (P := Try.prog) (w := W) .i64 ((l + n : Nat) : Int) (l + n) .slice3B (by omega) (by omega)
  have hd := run_sliceBound (P := Try.prog) (w := W) .i64 ((l + n : Nat) : Int) cap .slice3Acap (by omega) (by omega)
  simp only [Int.natCast_add] at hc hd
  simp [Instr.slice, hb, hc, hd, run_underlying Try.underlying72, Instr.sliceBounds, sizeOf, typeInfo, hi, hz1, show ((l : Int) + (n : Int)).toNat = l + n by omega]
  omega
def KpC (n₀ Bs Bn : Nat) (W W' : World) : Prop := Below n₀ W W' ∧ W'.heap[Bs]? = W.heap[Bs]? ∧ W'.heap[Bn]? = W.heap[Bn]?
theorem KpC.refl (n₀ Bs Bn : Nat) (W : World) : KpC n₀ Bs Bn W W := ⟨Below.refl _ _, rfl, rfl⟩
theorem KpC.trans {n₀ Bs Bn : Nat} {A B C : World} (h : KpC n₀ Bs Bn A B) (k : KpC n₀ Bs Bn B C) : KpC n₀ Bs Bn A C := ⟨h.1.trans k.1, k.2.1.trans h.2.1, k.2.2.trans h.2.2⟩
theorem kpC_b {n₀ Bs Bn : Nat} {w : World} (hn : n₀ ≤ w.heap.size) (hBs : Bs < w.heap.size) (hBn : Bn < w.heap.size) (W : World) (l : Nat) (o o' : Obj) (hl : w.heap.size ≤ l) (h : W.heap[l]? = some o) (h1 : o.isCells = false) (h2 : o.isWalk = false) : KpC n₀ Bs Bn W (W.putObj l o') :=
  ⟨belowK_b hn W l o o' hl h h1 h2, (grownBy_putObj' W l o').block Bs (by have := (Array.getElem?_eq_some_iff.1 h).1; omega) (fun e => by cases e; omega), (grownBy_putObj' W l o').block Bn (by have := (Array.getElem?_eq_some_iff.1 h).1; omega) (fun e => by cases e; omega)⟩
/-- The j-th eight bytes, as a slice. -/
def chV (A : Option Addr) (q j : Nat) : Value := if j < q then .slice (A.map fun a => a.add (8 * j)) 8 8 else .slice none 0 0
def encC (A : Option Addr) (q j : Nat) : Array Value := #[chV A q j]
theorem upto_id_succ (k : Nat) : upto id (k + 1) = upto id k ++ [k] := upto_succ id k

set_option maxHeartbeats 4000000 in
theorem chunk1_in (F : Fence) (n : Nat) (hF : F.fn 99) (hro : F.round = none) (hn : 1 ≤ n) (l Bs Bn n₀ : Nat) (A : Option Addr) (q len cap : Nat) (hq : len = 8 * q) (hlen : len ≤ cap) (hcap : cap ≤ maxLen) (J Jx : List Nat → World → Prop) (N0 : Nat) (hJ : AbidesFrom N0 J)
    (hY : ∀ pre x W, J pre W → pre.length < q → YieldAt F (n - 1) Try.prog l (encC A q x) W fun e W' =>
      (e = .returned (.bool true) ∧ J (pre ++ [x]) W' ∧ KpC n₀ Bs Bn W W') ∨ (e = .returned (.bool false) ∧ Jx (pre ++ [x]) W'))
    (W : World) (hBs : W.cell? ⟨Bs, 0, none⟩ = some (.slice A len cap)) (hBn : W.cell? ⟨Bn, 0, none⟩ = some (.int .i64 8)) (h0 : J [] W) :
    CallsIn F n Try.prog 99 #[.func (.yield l) #[] #[], .pointer (some ⟨Bs, 0, none⟩), .pointer (some ⟨Bn, 0, none⟩)] W fun e W' => (∃ v, e = .returned v) ∧
      ((∃ ys, ys = upto id q ∧ J ys W') ∨ (∃ pre, (∃ k, k ≤ q ∧ pre = upto id k) ∧ Jx pre W')) := by
  unfold maxLen at hcap
  refine callsIn_of_wp Try.func99 rfl hF ?_ hro
  simp only [Try.ntmps99, List.size_toArray, List.length_cons, List.length_nil, Nat.reduceAdd, Nat.reduceSub, Array.replicate_succ, Array.replicate_zero, List.push_toArray, List.append_toArray, List.nil_append, List.cons_append]
  gi_wp2
  gi_loopw [4] (fun i wr => ∃ r p : Nat, r ≤ q ∧ p = 8 * r ∧ i = .int .i64 (p : Int) ∧ J (upto id r) wr ∧ KpC n₀ Bs Bn W wr)
    (fun i _ => len - (intOf i).toNat)
  case atStart => exact ⟨0, 0, Nat.zero_le _, rfl, rfl, by simpa [upto] using h0, KpC.refl _ _ _ _⟩
  case round =>
    obtain ⟨r, p, hr, hp, rfl, hJs, hnx⟩ := hrel
    have hBx : wr.cell? ⟨Bs, 0, none⟩ = some (.slice A len cap) := (World.cell?_of_block (a := ⟨Bs, 0, none⟩) hnx.2.1).trans hBs
    have hBy : wr.cell? ⟨Bn, 0, none⟩ = some (.int .i64 8) := (World.cell?_of_block (a := ⟨Bn, 0, none⟩) hnx.2.2).trans hBn
    by_cases hlt : r < q
    · have h1 : (p : Int) < (len : Int) := by omega
      have hfr := fun W => run_from8 A len cap p (by omega) W
      have hct := fun W => run_cut8m A len cap p 8 (p : Int) ((p : Int) + 8) ((p : Int) + 8) rfl (by omega) rfl (by omega) (by decide) W
      have hmn : (8 : Int) ≤ ((len - p : Nat) : Int) := by omega
      have hmn2 : ¬ ((len - p : Nat) : Int) < 8 := by omega
      have hp8 : p + 8 ≤ 9223372036854775807 := by omega
      obtain ⟨m, hm⟩ : ∃ m, len - p = m := ⟨_, rfl⟩
      rw [hm] at hfr hmn hmn2
      have HM := Lib.hid hm
      have HP := Lib.hid hp
      have HQ := Lib.hid hq
      obtain ⟨fn, tmps, assign, body, hy, hR⟩ := hY _ r wr.drew (hJ _ _ _ none hJs (gb_drew (World.grownBy.refl wr none)) (fun r e => by cases e)) (by rw [upto_length]; exact hlt)
      dsimp only [encC, chV] at hy
      rw [if_pos hlt] at hy
      rw [← hp] at hy
      clear hm hp hq
      gi_wp2
      apply cut_h
      case h1 =>
        intro hc
        gi_region
        all_goals exact hc
      gi_wp2
      refine hR.mono ?_
      rintro e W3 (⟨rfl, hJ3, hk3⟩ | ⟨rfl, hJx3⟩)
      · have hBz : W3.cell? ⟨Bn, 0, none⟩ = some (.int .i64 8) := (World.cell?_of_block (a := ⟨Bn, 0, none⟩) hk3.2.2).trans hBy
        gi_wp2
        go_roundw
        case rel =>
          refine ⟨r + 1, p + 8, by omega, by have := HP.out; omega, by go_num, by rw [upto_id_succ]; exact hJ3, hnx.trans (KpC.trans ⟨(Below.refl _ _).drew, rfl, rfl⟩ hk3)⟩
        case measure =>
          have := HP.out
          have := HQ.out
          simp [intOf]
          omega
      · gi_wp2
        refine bodyPost_ret (results_none rfl _ _ _) rfl ?_
        exact ⟨⟨_, rfl⟩, .inr ⟨_, ⟨r + 1, by omega, rfl⟩, by rw [upto_id_succ]; exact hJx3⟩⟩
    · obtain rfl : r = q := by omega
      have h1 : ¬ (p : Int) < (len : Int) := by omega
      gi_wp2
      go_end0
      exact ⟨⟨_, rfl⟩, .inl hJs⟩

set_option maxHeartbeats 1000000 in
/-- slices.Chunk(s, 8): both are boxed; the function value captures the boxes. -/
theorem chunk_in (F : Fence) (n : Nat) (hF : F.fn 92) (hro : F.round = none) (a : Option Addr) (len cap : Nat) (w : World) :
    CallsIn F n Try.prog 92 #[.slice a len cap, .int .i64 8] w fun e w' => e = .returned (.func (.func 99) #[] #[.pointer (some ⟨w.heap.size, 0, none⟩), .pointer (some ⟨w.heap.size + 1, 0, none⟩)]) ∧
      w' = (w.alloc (.cells #[.slice a len cap] 72)).alloc (.cells #[.int .i64 8] 3) := by
  refine callsIn_of_wp Try.func92 rfl hF ?_ hro
  simp only [Try.ntmps92, List.size_toArray, List.length_cons, List.length_nil, Nat.reduceAdd, Nat.reduceSub, Array.replicate_succ, Array.replicate_zero, List.push_toArray, List.append_toArray, List.nil_append, List.cons_append]
  gi_wp2
  go_ret
  exact ⟨rfl, rfl⟩

/-- slices.Chunk(s, 8) hands back a value that goes through s by eights: all of it, or a part. -/
theorem chunk_stops (F : Fence) (n : Nat) (hF : F.fn 99) (hro : F.round = none) (hn : 1 ≤ n) (Bs Bn n₀ : Nat) (A : Option Addr) (q len cap : Nat) (hq : len = 8 * q) (hlen : len ≤ cap) (hcap : cap ≤ maxLen) (w : World) (hBs : Bs < w.heap.size) (hBn : Bn < w.heap.size)
    (hc : w.cell? ⟨Bs, 0, none⟩ = some (.slice A len cap)) (hd : w.cell? ⟨Bn, 0, none⟩ = some (.int .i64 8)) :
    SeqStopsK F n Try.prog 99 #[.pointer (some ⟨Bs, 0, none⟩), .pointer (some ⟨Bn, 0, none⟩)] (encC A q) (KpC n₀ Bs Bn) (fun ys => ys = upto id q)
      (fun pre => ∃ k, k ≤ q ∧ pre = upto id k) q w := fun l J Jx W hW hJ _ hY h0 =>
  chunk1_in F n hF hro hn l Bs Bn n₀ A q len cap hq hlen hcap J Jx _ hJ hY W ((hW.cell (p := ⟨Bs, 0, none⟩) hBs).trans hc) ((hW.cell (p := ⟨Bn, 0, none⟩) hBn).trans hd) h0
end Go.Proofs.Ytfbiinipiklkaaa
namespace Go.Proofs.Ytfbiinipiklkaaa
set_option maxRecDepth 100000
open Go.RowKit Go.Lib

set_option maxHeartbeats 1000000 in
theorem grow_nought (w : World) : Calls Try.prog 82 #[.slice none 0 0, .int .i64 0] w fun e W' => e = .returned (.slice none 0 0) ∧ w = W' := by
  go_enter Try.func82, Try.ntmps82
  go_wp2_with fail
  go_ret
  exact ⟨rfl, rfl⟩
theorem grow_all (n : Nat) (hn : n ≤ 1000000) (w : World) :
    Calls Try.prog 82 #[.slice none 0 0, .int .i64 (n : Int)] w fun e W' => ∃ v, e = .returned v ∧ Own8 W' w.heap.size v [] ∧ Below w.heap.size w W' := by
  rcases Nat.eq_zero_or_pos n with rfl | h0
  · refine (grow_nought w).mono ?_
    rintro e w' ⟨rfl, rfl⟩
    exact ⟨_, rfl, Own8.nil_ _ _, Below.refl _ _⟩
  · refine (grow_any n h0 hn w).mono ?_
    rintro e w' ⟨g, C, rfl, ho, hb⟩
    exact ⟨_, rfl, ho, hb⟩
set_option maxHeartbeats 2000000 in
/-- slices.Concat -/
theorem concat_all (A : Option Addr) (n cap : Nat) (l : List (List UInt8)) (hn : n ≤ 1000) (hlen : l.flatten.length ≤ 1000000) (w : World) {B : Nat} (hI : LsAt w B A n l) (hB : B ≤ w.heap.size) :
    Calls Try.prog 67 #[.slice A n cap] w fun e W' => ∃ v, e = .returned v ∧ Own8 W' w.heap.size v l.flatten ∧ Below w.heap.size w W' := by
  obtain ⟨T, hT⟩ : ∃ T, l.flatten.length = T := ⟨_, rfl⟩
  rw [hT] at hlen
  have HT := Lib.hid hT
  have HG := Lib.hid (grow_all T hlen w)
  have HS := Lib.hid hI.size
  clear hT
  go_enter Try.func67, Try.ntmps67
  go_wp2_with fail
  go_loop [3, 11] (fun s i => ∃ (k S : Nat), k ≤ n ∧ s = .int .i64 (S : Int) ∧ i = .int .i64 (k : Int) ∧ S + (l.drop k).flatten.length = T)
    (fun _ i => n - (intOf i).toNat)
  case atStart => exact ⟨0, 0, by omega, rfl, rfl, by rw [List.drop_zero, Nat.zero_add]; exact HT.out⟩
  case round =>
    obtain ⟨k, S, hk, rfl, rfl, hs⟩ := hrel
    by_cases hlt : k < n
    · have hlt' : (k : Int) < (n : Int) := by omega
      obtain ⟨xs, hxs⟩ : ∃ xs, l[k]? = some xs := ⟨_, List.getElem?_eq_getElem (by rw [HS.out]; exact hlt)⟩
      obtain ⟨b, off, A', n', c', rfl, hc, hr⟩ := hI.at hxs
      rw [flat_drop hxs, List.length_append, hr.len] at hs
      have hneg : ¬ ((S : Int) + (n' : Int) < 0) := by omega
      have HQ := Lib.hid hs
      have hbd : S + n' ≤ 1000000 := by omega
      clear hs hxs hr
      go_wp2_with fail
      go_round
      case rel => exact ⟨k + 1, S + n', by omega, by go_num, by go_num, by rw [← HQ.out, Nat.add_assoc]⟩
      case measure => simp [intOf]; omega
    · obtain rfl : k = n := by omega
      rw [List.drop_of_length_le (by rw [HS.out]; omega)] at hs
      have hs' : S = T := hs
      subst hs'
      clear hs hlt
      go_wp2_with fail
      refine HG.out.mono ?_
      rintro e w1 ⟨v1, rfl, ho1, hb1⟩
      go_wp2_with fail
      go_loopw [6, 27] (fun v i wr => ∃ (j : Nat), j ≤ k ∧ i = .int .i64 (j : Int) ∧ Own8 wr w.heap.size v (l.take j).flatten ∧ Below w.heap.size w wr)
        (fun _ i _ => k - (intOf i).toNat)
      case atStart => exact ⟨0, by omega, rfl, by rw [List.take_zero]; exact ho1, hb1⟩
      case round =>
        clear ho1 hb1
        obtain ⟨j, hj, rfl, hown, hbel⟩ := hrel
        have hsz := hbel.size
        have hI2 := hI.below (hbel.mono hB)
        by_cases hlt : j < k
        · have hlt' : (j : Int) < (k : Int) := by omega
          obtain ⟨xs, hxs⟩ : ∃ xs, l[j]? = some xs := ⟨_, List.getElem?_eq_getElem (by rw [HS.out]; exact hlt)⟩
          obtain ⟨b, off, A', n', c', rfl, hc, hr⟩ := hI2.at hxs
          have ht := flat_take hxs
          have hbd : (l.take j).flatten.length + n' ≤ 1000000 := by
            have e : l.flatten = (l.take j).flatten ++ (l.drop j).flatten := by rw [← List.flatten_append, List.take_append_drop]
            have e2 := HT.out
            rw [e, flat_drop hxs, List.length_append, List.length_append, hr.len] at e2
            omega
          have HQ := Lib.hid ht
          have HB := Lib.hid hbd
          clear ht hxs hbd
          go_wp2_with (at_builtin; refine wpList_append8 rfl _ _ rfl w.heap.size _ _ (by rfl) hown _ _ _ _ xs (by rfl) hr (by have := HB.out; omega) hsz ?_; intro v' w3 ho' hg' _)
          have hb3 := hbel.grown hg' hsz hown.lt
          rw [HQ.out] at ho'
          go_wp2_with fail
          go_roundw
          case rel => exact ⟨j + 1, by omega, by go_num, ho', hb3⟩
          case measure => simp [intOf]; omega
        · obtain rfl : j = k := by omega
          rw [List.take_of_length_le (by rw [HS.out]; omega)] at hown
          go_wp2_with fail
          go_ret
          exact ⟨_, rfl, hown, hbel⟩
theorem rd_key8 {w : World} {T : TypeId} {g : Nat} {bs : List UInt8} {n : Nat} (h : Blk w T g (bs.map v8)) (hn : bs.length = n) : Rd w (g + 1) (some ⟨g, 0, none⟩) n bs :=
  ⟨hn, fun _ => ⟨g, 0, rfl, Nat.lt_succ_self _, fun j x hx => by
    rw [Nat.zero_add]
    exact Blk_10.cell h (by rw [List.getElem?_map, hx]; rfl)⟩⟩
theorem size4w : (Try.prog.info? 126).map (·.size) = some 4 := by kernel_rfl
theorem results_v4 {fn : Func} {p : Tmp} (hr : fn.results = #[.cell p 126]) (tmps : Array Value) (w : World) (g : Nat) (hp : tmps.getD p undef = .pointer (some ⟨g, 0, none⟩)) (v : V4) (hb : Blk w 126 g (v4L v)) :
    (results fn tmps).run Try.prog w = .ok (v4C v) w := by
  have hl := run_loadVar_mid (P := Try.prog) w g 0 126 (v4L v) _ (Blk_10.range hb) Try.underlying126 rfl size4w
  rw [results_cell0 hr, hp]
  simp [Result.andThen, asAddr, hl, v4C]
set_option maxHeartbeats 4000000 in
theorem pbegin_any (key : List UInt8) (hk : key.length = 16) (w : World) : Calls Try.prog 91 #[keyC key] w fun e w' => e = .returned (v4C (begV key)) ∧ Below w.heap.size w w' := by
  have HKL := Lib.hid hk
  obtain ⟨C0, hC0⟩ : ∃ C, (key.map v8).toArray = C := ⟨_, rfl⟩
  unfold keyC
  rw [hC0]
  obtain ⟨Y, hY⟩ : ∃ Y, (w.alloc (.cells C0 22)).alloc (.cells #[.int .u64 0, .int .u64 0, .int .u64 0, .int .u64 0] 126) = Y := ⟨_, rfl⟩
  have HK0 := Lib.hid (show Blk Y 22 w.heap.size (key.map v8) by rw [← hY, ← hC0]; exact Blk_10.alloc (Blk_10.new w _ _) _)
  have HW0 := Lib.hid (show Blk Y 126 (w.heap.size + 1) [.int .u64 0, .int .u64 0, .int .u64 0, .int .u64 0] by
    rw [← hY]
    have := Blk_10.new (w.alloc (.cells C0 22)) 126 [.int .u64 0, .int .u64 0, .int .u64 0, .int .u64 0]
    rwa [World.size_alloc] at this)
  have HB0 := Lib.hid (show Below w.heap.size w Y by rw [← hY]; exact ((Below.refl w.heap.size w).alloc (Nat.le_refl _) _).alloc (by simp) _)
  have HS0 := Lib.hid (show Y.heap.size = w.heap.size + 1 + 1 by rw [← hY, World.size_alloc, World.size_alloc])
  have HY := Lib.hid hY
  have hl1 : (key.take 8).length ≤ 8 := by rw [List.length_take]; omega
  have hl2 : (key.drop 8).length ≤ 8 := by rw [List.length_drop, hk]; omega
  have HG1 : Hid (∀ W, Below Y.heap.size Y W → Calls Try.prog 94 #[.slice (some ⟨w.heap.size, 0, none⟩) 8 16, .bool false] W fun e w' => e = .returned (.int .u64 (leN (key.take 8) : Nat)) ∧ Below W.heap.size W w') := Lib.hid (fun W hW => by
    have h := get_any (some ⟨w.heap.size, 0, none⟩) 8 16 (key.take 8) false (by omega) (by omega) (by unfold maxLen; omega) W (((rd_key8 (Blk_10.below HK0.out (by rw [HS0.out]; omega) hW) HKL.out).take (k := 8) (by omega)).more (by have := hW.size; rw [HS0.out] at this; omega))
    rwa [get_leN hl1] at h)
  have HG2 : Hid (∀ W, Below Y.heap.size Y W → Calls Try.prog 94 #[.slice (some ⟨w.heap.size, 8, none⟩) 8 8, .bool false] W fun e w' => e = .returned (.int .u64 (leN (key.drop 8) : Nat)) ∧ Below W.heap.size W w') := Lib.hid (fun W hW => by
    have hp := (rd_key8 (Blk_10.below HK0.out (by rw [HS0.out]; omega) hW) HKL.out).part (k := 8) (n := 8) (by omega) (by omega)
    rw [List.take_of_length_le hl2] at hp
    have h := get_any (some ⟨w.heap.size, 8, none⟩) 8 8 (key.drop 8) false (by omega) (by omega) (by unfold maxLen; omega) W (hp.more (by have := hW.size; rw [HS0.out] at this; omega))
    rwa [get_leN hl2] at h)
  have k1 := leN_lt _ hl1
  have k2 := leN_lt _ hl2
  have hV : Hid (begV key = ⟨leN (key.take 8) ^^^ 8317987319222330741, leN (key.drop 8) ^^^ 7237128888997146477, leN (key.take 8) ^^^ 7816392313619706465, leN (key.drop 8) ^^^ 8387220255154660723⟩) := Lib.hid rfl
  obtain ⟨K1, hK1⟩ : ∃ x, leN (key.take 8) = x := ⟨_, rfl⟩
  obtain ⟨K2, hK2⟩ : ∃ x, leN (key.drop 8) = x := ⟨_, rfl⟩
  rw [hK1] at HG1 k1 hV
  rw [hK2] at HG2 k2 hV
  have X1 : bits .xor .u64 (K1 : Int) 8317987319222330741 = ((K1 ^^^ 8317987319222330741 : Nat) : Int) := xor64 k1 (b := 8317987319222330741) (by decide)
  have X2 : bits .xor .u64 (K2 : Int) 7237128888997146477 = ((K2 ^^^ 7237128888997146477 : Nat) : Int) := xor64 k2 (b := 7237128888997146477) (by decide)
  have X3 : bits .xor .u64 (K1 : Int) 7816392313619706465 = ((K1 ^^^ 7816392313619706465 : Nat) : Int) := xor64 k1 (b := 7816392313619706465) (by decide)
  have X4 : bits .xor .u64 (K2 : Int) 8387220255154660723 = ((K2 ^^^ 8387220255154660723 : Nat) : Int) := xor64 k2 (b := 8387220255154660723) (by decide)
  obtain ⟨va, hva⟩ : ∃ x, K1 ^^^ 8317987319222330741 = x := ⟨_, rfl⟩
  obtain ⟨vb, hvb⟩ : ∃ x, K2 ^^^ 7237128888997146477 = x := ⟨_, rfl⟩
  obtain ⟨vc, hvc⟩ : ∃ x, K1 ^^^ 7816392313619706465 = x := ⟨_, rfl⟩
  obtain ⟨vd, hvd⟩ : ∃ x, K2 ^^^ 8387220255154660723 = x := ⟨_, rfl⟩
  rw [hva] at X1
  rw [hvb] at X2
  rw [hvc] at X3
  rw [hvd] at X4
  rw [hva, hvb, hvc, hvd] at hV
  rw [hV.out]
  clear hva hvb hvc hvd hK1 hK2 k1 k2 hl1 hl2 hC0 hY hk hV
  go_enter Try.func91, Try.ntmps91
  go_wp2_with fail
  (try rw [HY.out])
  refine wp_region_held_drew (S := fun W => Below Y.heap.size Y W) (by kernel_rfl) ((Below.refl Y.heap.size Y).drew) (fun hHeld => ?_)
  refine tk 0 5 (.slice (some ⟨w.heap.size, 0, none⟩) 8 16) rfl hHeld ?_
  simp only [Act.put, sA, sZ, sS]
  refine tk 2 7 (.slice (some ⟨w.heap.size, 8, none⟩) 8 8) rfl hHeld ?_
  simp only [Act.put, sA, sZ, sS]
  refine wpAnyH_ready (rs := [1]) (by kernel_rfl) (by simp) (AllReadyH.cons (o := ⟨some 6, _, _, _, _, _⟩) rfl (fun K hK => ?_) AllReadyH.nil)
  go_simp
  refine (HG1.out Y.drew hHeld).mono ?_
  rintro e W1 ⟨rfl, hb1⟩
  have HB1 : Hid (Below Y.heap.size Y W1) := Lib.hid (hHeld.trans (hb1.mono (Nat.le_refl _)))
  clear hb1
  refine hK.out _ _ (HB1.out) (fun hHeld => ?_)
  clear hK K 
  refine wpAnyH_ready (rs := [3]) (by kernel_rfl) (by simp) (AllReadyH.cons (o := ⟨some 8, _, _, _, _, _⟩) rfl (fun K hK => ?_) AllReadyH.nil)
  go_simp
  refine (HG2.out W1 hHeld).mono ?_
  rintro e W2 ⟨rfl, hb2⟩
  have HB2 : Hid (Below Y.heap.size Y W2) := Lib.hid (HB1.out.trans (hb2.mono HB1.out.size))
  clear hb2
  refine hK.out _ _ (HB2.out) (fun hHeld => ?_)
  clear hK K 
  refine tk 4 3 (.int .u64 (K1 : Int)) rfl hHeld ?_
  simp only [Act.put, sA, sZ, sS]
  refine tk 5 4 (.int .u64 (K2 : Int)) rfl hHeld ?_
  simp only [Act.put, sA, sZ, sS]
  refine wpAnyH_done (by kernel_rfl) ?_ _
  have HW2 : Hid (Blk W2 126 (w.heap.size + 1) [.int .u64 0, .int .u64 0, .int .u64 0, .int .u64 0]) := Lib.hid (Blk_10.below HW0.out (by rw [HS0.out]; omega) HB2.out)
  have HBW : Hid (Below w.heap.size w W2) := Lib.hid (HB0.out.trans (HB2.out.mono (by rw [HS0.out]; omega)))
  clear hHeld
  go_wp2_with ((with_reducible show wpList _ _ _ (⟨none, .store 126 (.tmp 2) _, _, _, _, _⟩ :: _) _ _); refine wpList_storeBA rfl 126 (.tmp 2) (.tmp 17) rfl (w.heap.size + 1) (by rfl) (v4L ⟨va, vb, vc, vd⟩) (by rfl) [.int .u64 0, .int .u64 0, .int .u64 0, .int .u64 0] HW2.out rfl size4w (v4L_one _) ?_; intro W3 hb3 hg3; have HB3 : Hid (Below w.heap.size w W3) := Lib.hid (below_gb HBW.out hg3 (by omega) HBW.out.size); have HW3 := Lib.hid hb3; clear hb3 hg3)
  refine bodyPost_ret (v := v4C ⟨va, vb, vc, vd⟩) (results_v4 rfl _ _ (w.heap.size + 1) (by rfl) _ HW3.out) rfl ?_
  exact ⟨rfl, HB3.out⟩
theorem shl56 (n : Nat) : IntKind.u64.wrap ((n : Int) * 72057594037927936) = ((n % 256 * 72057594037927936 : Nat) : Int) := by
  have e : (n : Int) * 72057594037927936 = ((n * 72057594037927936 : Nat) : Int) := by rw [Int.natCast_mul]; rfl
  rw [e, wrap64_nat]
  congr 1
  omega
theorem or56 (a k : Nat) (ha : a < 72057594037927936) (hk : k < 256) : bits .or .u64 (a : Int) ((k * 72057594037927936 : Nat) : Int) = ((a + k * 72057594037927936 : Nat) : Int) := by
  rw [u64_or_nat _ _ (by omega) (by omega)]
  congr 1
  have := Nat.shiftLeft_add_eq_or_of_lt (i := 56) (b := a) (by omega) k
  rw [Nat.shiftLeft_eq] at this
  rw [Nat.or_comm, Nat.add_comm]
  exact this.symm
set_option maxHeartbeats 2000000 in
theorem plast_any (A : Option Addr) (n cap : Nat) (bs : List UInt8) (hn : n ≤ 100000) (hc : n ≤ cap) (hm : cap ≤ maxLen) (w : World) (hI : Rd w w.heap.size A n bs) :
    Calls Try.prog 95 #[.slice A n cap] w fun e w' => e = .returned (.int .u64 (lastW bs : Nat)) ∧ Below w.heap.size w w' := by
  have hl := hI.len
  obtain ⟨q, hq⟩ : ∃ q, n / 8 = q := ⟨_, rfl⟩
  have hqn : q * 8 ≤ n := by omega
  have hfr := fun W => run_from8 A n cap (q * 8) hqn W
  have hr := hI.from hqn cap hc
  have hl7 : (bs.drop (q * 8)).length ≤ 7 := by rw [List.length_drop]; omega
  have hg := get_any (cutA A cap (q * 8)) (n - q * 8) (cap - q * 8) (bs.drop (q * 8)) false (by omega) (by omega) (by omega) w hr
  rw [get_leN (by omega)] at hg
  have hsm := leN_small _ hl7
  have ho := or56 _ (n % 256) hsm (by omega)
  have hs := shl56 n
  have hL : lastW bs = leN (bs.drop (q * 8)) + n % 256 * 72057594037927936 := by
    unfold lastW
    rw [hl, hq, Nat.mul_comm 8 q]
  rw [← hL] at ho
  obtain ⟨L, hL2⟩ : ∃ L, lastW bs = L := ⟨_, rfl⟩
  rw [hL2] at ho ⊢
  obtain ⟨A1, hA1⟩ : ∃ A1, cutA A cap (q * 8) = A1 := ⟨_, rfl⟩
  obtain ⟨c1, hc1⟩ : ∃ c1, cap - q * 8 = c1 := ⟨_, rfl⟩
  obtain ⟨n1, hn1⟩ : ∃ n1, n - q * 8 = n1 := ⟨_, rfl⟩
  rw [hA1, hc1, hn1] at hfr hg
  obtain ⟨a, ha⟩ : ∃ a, leN (bs.drop (q * 8)) = a := ⟨_, rfl⟩
  rw [ha] at ho hg
  rw [← hs] at ho
  have HG := Lib.hid hg
  have hqi : (n : Int) / 8 = (q : Int) := by omega
  have hwr : IntKind.u64.wrap (n : Int) = (n : Int) := by rw [IntKind.wrap_u64]; omega
  rw [show ((q * 8 : Nat) : Int) = (q : Int) * 8 from by omega] at hfr
  clear hA1 hc1 hn1 hs hL hL2 ha hsm hr hl7 hg hl hI hq hm
  go_enter Try.func95, Try.ntmps95
  go_wp2_with (with_reducible refine HG.out.mono ?_; rintro e w1 ⟨rfl, hb1⟩)
  go_ret
  exact ⟨rfl, hb1⟩
end Go.Proofs.Ytfbiinipiklkaaa
namespace Go.Proofs.Ytfbiinipiklkaaa
set_option maxRecDepth 100000
open Go.RowKit Go.Shelf Go.Lib

attribute [local go_sem] Oper.semAt_some

def wdC (bs : List UInt8) (q x : Nat) : List UInt8 := if x < q then (bs.drop (8 * x)).take 8 else []
def foldC (bs : List UInt8) (q : Nat) (s0 : V4) (pre : List Nat) : V4 := pre.foldl (fun v x => takeV v (leN (wdC bs q x))) s0
theorem wdC_len (bs : List UInt8) (q x : Nat) : (wdC bs q x).length ≤ 8 := by
  unfold wdC
  split
  · rw [List.length_take]; omega
  · exact Nat.zero_le _
theorem foldC_snoc (bs : List UInt8) (q : Nat) (s0 : V4) (pre : List Nat) (x : Nat) : foldC bs q s0 (pre ++ [x]) = takeV (foldC bs q s0 pre) (leN (wdC bs q x)) := by
  unfold foldC
  rw [List.foldl_append]
  rfl
theorem foldC_ok (bs : List UInt8) (q : Nat) : ∀ (pre : List Nat) {s0 : V4} (_ : s0.Ok), (foldC bs q s0 pre).Ok
  | [], _, h => h
  | x :: pre, _, h => foldC_ok bs q pre (takeV_ok h (leN_lt _ (wdC_len bs q x)))
theorem foldC_upto (bs : List UInt8) (q : Nat) (hq : q = bs.length / 8) (s0 : V4) (k : Nat) (hk : k ≤ q) : foldC bs q s0 (upto id k) = stK (wordW bs) s0 k := by
  induction k with
  | zero => rw [stK_zero]; rfl
  | succ k ih =>
    rw [upto_id_succ, foldC_snoc, ih (by omega), stK_succ]
    congr 1
    unfold wdC wordW
    rw [if_pos (by omega), if_pos (by omega)]
theorem hash_fin (key bs : List UInt8) (q : Nat) (hq : q = bs.length / 8) (s0 : V4) (hs : begV key = s0) : hashW key bs = finV (takeV (stK (wordW bs) s0 q) (lastW bs)) := by
  have e : wordW bs q = lastW bs := by
    unfold wordW
    rw [if_neg (by omega)]
  unfold hashW
  rw [hs, ← hq, stK_succ, e]
theorem chV_rd {w : World} {B n : Nat} {A : Option Addr} {bs : List UInt8} (q x : Nat) (hq : 8 * q ≤ n) (h : Rd w B A n bs) : ∃ A' m, chV A q x = .slice A' m m ∧ m ≤ 8 ∧ Rd w B A' m (wdC bs q x) := by
  unfold chV wdC
  by_cases hx : x < q
  · rw [if_pos hx, if_pos hx]
    exact ⟨_, 8, rfl, Nat.le_refl _, h.part (by omega) (by omega)⟩
  · rw [if_neg hx, if_neg hx]
    exact ⟨none, 0, rfl, Nat.zero_le _, Rd.nil_ _⟩
/-- The block of the words, and what else lies below the loop's beginning. -/
theorem wb_own {α : Type} (w1 : World) (g B : Nat) (cs : α → List Value) (hB : w1.heap.size ≤ B) : OwnFrom B (fun (s : α) W => WB w1 g (cs s) W) := by
  intro s W W' row hs hg hr
  have hne : row ≠ some g := by
    intro e
    obtain ⟨_, ob, h1, h2⟩ := hr g e
    have h3 : W.heap[g]? = some (.cells (cs s).toArray 126 (0, 0)) := hs.1
    rw [h3] at h1
    cases h1
    cases h2
  exact ⟨Blk.gb hs.1 hg hne, World.grownBy.andThen hs.2 hg (fun j hj => Or.inl (Nat.le_trans hB (hr j hj).1))⟩
theorem keeps_below {A B : World} (C : Nat) (h : Below A.heap.size A B) : KeepsFrom C A B := ⟨h.size, fun k _ _ hk _ => (h.block k (Array.getElem?_eq_some_iff.1 hk).1).trans hk⟩
theorem keeps_wb {A B : World} (C g : Nat) {cs : List Value} {T : TypeId} (hb : Blk A T g cs) (h : A.grownBy B (some g)) : KeepsFrom C A B :=
  (KeepsOthers.of_grownBy h (fun j ob hj ho => by cases hj; have h3 : A.heap[g]? = some (.cells cs.toArray T (0, 0)) := hb; rw [h3] at ho; cases ho; rfl)).from C
/-- A whole value of many cells loaded, in the walk inside a fence. -/
theorem wpListIn_load_mid {F : Fence} {n : Nat} {P : Program} {ops : Array Oper} {rest : List Oper} {op : Oper} {a : Act} {w : World} {Q : Exit → Act → World → Prop} (hgd : op.guard = none) (ty : TypeId) (x : Operand) (ho : op.op = .load ty x)
    (b o : Nat) (hx : a.eval x = .pointer (some ⟨b, o, none⟩)) (cs : List Value) (d : TypeDesc) (hc : w.rangeAt b o cs)
    (hu : P.underlying ty = some d) (hd : d.isRow = true) (hi : (P.info? ty).map (·.size) = some cs.length)
    (h : wpListIn F n P ops Q rest (a.put op.dst (.agg cs.toArray)) w) : wpListIn F n P ops Q (op :: rest) a w := by
  refine wpListIn_plain hgd fun K hK => ?_
  have hl := run_loadAt_mid (P := P) w b o ty cs d hc hu hd hi
  unfold Oper.wpIn
  refine ⟨?_, ?_⟩
  · simp [Oper.about, ho]
  · rw [Oper.semAt_plain F _ _ (by rw [ho]; intro c hc'; cases hc')]
    simp [execOp, ho, hx, hl, Result.andThen]
    exact hK _ _ h
set_option maxHeartbeats 8000000 in
theorem pof_any (key : List UInt8) (hk : key.length = 16) (A : Option Addr) (n cap : Nat) (l : List (List UInt8)) (hn : n ≤ 100) (hl : l.flatten.length ≤ 100000) (w : World) (B : Nat) (hI : LsAt w B A n l) (hB : B ≤ w.heap.size) :
    Calls Try.prog 84 #[keyC key, .slice A n cap] w fun e w' => e = .returned (.int .u64 (hashW key l.flatten : Nat)) ∧ Below w.heap.size w w' := by
  obtain ⟨bs, hbs⟩ : ∃ bs, l.flatten = bs := ⟨_, rfl⟩
  rw [hbs] at hl ⊢
  obtain ⟨H, hH⟩ : ∃ H, hashW key bs = H := ⟨_, rfl⟩
  rw [hH]
  have HH := Lib.hid hH
  have HK := Lib.hid hk
  obtain ⟨C0, hC0⟩ : ∃ C, (key.map v8).toArray = C := ⟨_, rfl⟩
  have HC0 := Lib.hid hC0
  obtain ⟨q, hq⟩ : ∃ q, bs.length / 8 = q := ⟨_, rfl⟩
  obtain ⟨len, hlen⟩ : ∃ len, bs.length = len := ⟨_, rfl⟩
  obtain ⟨s0, hs0⟩ : ∃ s, begV key = s := ⟨_, rfl⟩
  have HS0 := Lib.hid hs0
  have hok := begV_ok hk
  rw [hs0] at hok
  have HOK := Lib.hid hok
  have HQ : Hid (q = bs.length / 8) := Lib.hid hq.symm
  have HL := Lib.hid hlen
  have HC : Hid (∀ W, Below w.heap.size w W → Calls Try.prog 67 #[.slice A n cap] W fun e W' => ∃ v, e = .returned v ∧ Own8 W' W.heap.size v bs ∧ Below W.heap.size W W') := Lib.hid (fun W hW => by
    have h := concat_all A n cap l (by omega) (by rw [hbs]; omega) W (hI.below (hW.mono hB)) (Nat.le_trans hB hW.size)
    rwa [hbs] at h)
  have HBG : Hid (∀ W, Calls Try.prog 91 #[.agg C0] W fun e w' => e = .returned (v4C s0) ∧ Below W.heap.size W w') := Lib.hid (fun W => by
    have h := pbegin_any key hk W
    unfold keyC at h
    rwa [hC0, hs0] at h)
  rw [hlen] at hl hq
  have hqi : (len : Int) / 8 = (q : Int) := by omega
  have hq8 : 8 * q ≤ len := by omega
  unfold keyC
  rw [hC0]
  obtain ⟨Y, hY⟩ : ∃ Y, w.alloc (.cells C0 22) = Y := ⟨_, rfl⟩
  have HK0 := Lib.hid (show Blk Y 22 w.heap.size (key.map v8) by rw [← hY, ← hC0]; exact Blk_10.new w _ _)
  have HB0 := Lib.hid (show Below w.heap.size w Y by rw [← hY]; exact (Below.refl w.heap.size w).alloc (Nat.le_refl _) _)
  have HS1 := Lib.hid (show Y.heap.size = w.heap.size + 1 by rw [← hY, World.size_alloc])
  have HY := Lib.hid hY
  obtain ⟨a, b, c, d⟩ := s0
  have HBG2 : Hid (∀ W, Calls Try.prog 91 #[.agg C0] W fun e w' => e = .returned (.agg #[.int .u64 (a : Int), .int .u64 (b : Int), .int .u64 (c : Int), .int .u64 (d : Int)]) ∧ Below W.heap.size W w') := Lib.hid (fun W => HBG.out W)
  clear hI hB hbs hH hk hC0 hs0 hok hlen hq hY HBG
  have f1 : Fence.wide.fn 67 := trivial
  have f2 : Fence.wide.fn 91 := trivial
  have f3 : Fence.wide.fn 92 := trivial
  have f4 : Fence.wide.fn 95 := trivial
  have f5 : Fence.wide.fn 93 := trivial
  have f6 : Fence.wide.fn 96 := trivial
  have f7 : Fence.wide.fn 94 := trivial
  refine (callsIn_wide (n := 6)).1 ?_
  refine callsIn_of_wp_marks Try.func84 rfl trivial ?_ rfl
  simp only [Try.ntmps84, List.size_toArray, List.length_cons, List.length_nil, Nat.reduceAdd, Nat.reduceSub, Array.replicate_succ, Array.replicate_zero, List.push_toArray, List.append_toArray, List.nil_append, List.cons_append]
  gi_wp2_with (first
    | (gi_at_call 67; rw [HY.out]; refine (callsIn_wide.2 (HC.out Y HB0.out)).mono ?_; rintro e W1 ⟨v1, rfl, ho1, hb1⟩; obtain ⟨A1, c1, rfl, h1c, h1m, h1r, _⟩ := ho1.rd; rw [HL.out] at h1c h1r ⊢; have HKB : Hid (Blk W1 22 w.heap.size (key.map v8)) := Lib.hid (Blk_10.below HK0.out (by rw [HS1.out]; omega) hb1); have HO1 := Lib.hid ho1; have HB1 := Lib.hid hb1; have H1C := Lib.hid h1c; have H1M := Lib.hid h1m; have H1R := Lib.hid h1r; have hqc : q * 8 ≤ c1 := (by omega); have hqc2 : (q : Int) * 8 ≤ (c1 : Int) := (by omega); clear ho1 hb1 h1c h1m h1r)
    | ((with_reducible show wpListIn _ _ _ _ _ (⟨some 10, _, _, _, _, _⟩ :: _) _ _); refine wpListIn_load_mid rfl 22 (.tmp 2) rfl w.heap.size 0 (by rfl) (key.map v8) _ (Blk_10.range HKB.out) Try.underlying22 rfl (by rw [List.length_map, HK.out]; kernel_rfl) ?_; rw [HC0.out])
    | (gi_at_call 91; refine (callsIn_wide.2 (HBG2.out W1)).mono ?_; rintro e W2 ⟨rfl, hb2⟩; have HB2 := Lib.hid hb2; clear hb2)
    | (gi_at_call 92; obtain ⟨W3, hW3⟩ : ∃ W3, W2.alloc (.cells #[.int .u64 (a : Int), .int .u64 (b : Int), .int .u64 (c : Int), .int .u64 (d : Int)] 126) = W3 := ⟨_, rfl⟩; rw [hW3]; have HW3 := Lib.hid hW3; clear hW3; refine (chunk_in Fence.wide 5 f3 rfl _ _ _ _).mono ?_; rintro e W4 ⟨rfl, hW4⟩; have HW4 := Lib.hid hW4.symm; clear hW4))
  obtain ⟨g, hg⟩ : ∃ g, W2.heap.size = g := ⟨_, rfl⟩
  have HG2 := Lib.hid hg
  have h3s : W3.heap.size = g + 1 := by rw [← HW3.out, World.size_alloc, hg]
  have h4s : W4.heap.size = g + 3 := by rw [← HW4.out, World.size_alloc, World.size_alloc, h3s]
  have h3b : Blk W3 126 g (v4L ⟨a, b, c, d⟩) := by rw [← HW3.out, ← hg]; exact Blk_10.new W2 _ _
  have h4b : Blk W4 126 g (v4L ⟨a, b, c, d⟩) := by rw [← HW4.out]; exact Blk_10.alloc (Blk_10.alloc h3b _) _
  have bS : W4.cell? ⟨W3.heap.size, 0, none⟩ = some (.slice A1 (q * 8) c1) := by
    rw [← HW4.out]
    exact Blk_10.cell (Blk_10.alloc (Blk_10.new W3 72 [.slice A1 (q * 8) c1]) _) rfl
  have bN : W4.cell? ⟨W3.heap.size + 1, 0, none⟩ = some (.int .i64 8) := by
    rw [← HW4.out]
    have := Blk_10.new (W3.alloc (.cells #[.slice A1 (q * 8) c1] 72)) 3 [.int .i64 8]
    rw [World.size_alloc] at this
    exact Blk_10.cell this rfl
  have hg1 : W1.heap.size ≤ g := by rw [← hg]; exact HB2.out.size
  have hg0 : w.heap.size ≤ g := Nat.le_trans (Nat.le_trans (by rw [HS1.out]; omega) HB1.out.size) hg1
  have h14 : Below W1.heap.size W1 W4 := by
    rw [← HW4.out, ← HW3.out]
    exact ((HB2.out.alloc HB2.out.size _).alloc (by rw [World.size_alloc]; exact Nat.le_succ_of_le HB2.out.size) _).alloc (by rw [World.size_alloc, World.size_alloc]; exact Nat.le_succ_of_le (Nat.le_succ_of_le HB2.out.size)) _
  have h04 : Below w.heap.size w W4 := (HB0.out.trans (HB1.out.mono (by rw [HS1.out]; omega))).trans (h14.mono (Nat.le_trans (by rw [HS1.out]; omega) HB1.out.size))
  have H4B := Lib.hid h4b
  have H14 := Lib.hid h14
  have H04 := Lib.hid h04
  have H4S := Lib.hid h4s
  have H3S := Lib.hid h3s
  have HG1 := Lib.hid hg1
  have HG0 := Lib.hid hg0
  have BS := Lib.hid bS
  have BN := Lib.hid bN
  clear hg h3b h4b h14 h04 h4s hg1 hg0 bS bN
  rw [HG2.out]
  rw [h3s]
  rw [h3s] at BS BN
  clear h3s
  refine wpIn_rangeFunc_ownG rfl (by omega) (gf := 99) (lb := #[.pointer (some ⟨g + 1, 0, none⟩), .pointer (some ⟨g + 1 + 1, 0, none⟩)]) rfl trivial (enters_of Try.func99 (by kernel_rfl) rfl)
    (chunk_stops Fence.wide _ trivial rfl (by omega) (g + 1) (g + 1 + 1) 0 A1 q (q * 8) c1 (by omega) (by have := H1C.out; omega) H1M.out W4 (by rw [H4S.out]; omega) (by rw [H4S.out]; omega) BS.out BN.out) (fun h k => h.trans k) (kpC_b (Nat.zero_le _) (by rw [H4S.out]; omega) (by rw [H4S.out]; omega)) (Below.refl _ _) (fun _ => rfl)
    (fun (pre : List Nat) W => WB W4 g (v4L (foldC bs q ⟨a, b, c, d⟩ pre)) W)
    (fun _ _ _ => False)
    (wb_own W4 g _ (fun pre => v4L (foldC bs q ⟨a, b, c, d⟩ pre)) (Nat.le_refl _))
    (fun _ _ _ _ _ hs _ _ => hs)
    (WB.refl H4B.out)
    (fun (x : Nat) => { tmps := #[.agg C0, .slice A n cap, .pointer (some ⟨w.heap.size, 0, none⟩), undef, .int .u64 0, .slice A1 len c1, .pointer (some ⟨g, 0, none⟩), chV A1 q x, .slice A n cap, .slice A1 len c1, .agg C0, .agg #[.int .u64 (a : Int), .int .u64 (b : Int), .int .u64 (c : Int), .int .u64 (d : Int)], .slice A1 len c1, .slice A1 len c1, .int .i64 (len : Int), .int .i64 (q : Int), .int .i64 ((q : Int) * 8), .slice A1 (q * 8) c1,
      .func (.func 99) #[] #[.pointer (some ⟨g + 1, 0, none⟩), .pointer (some ⟨g + 1 + 1, 0, none⟩)], chV A1 q x, undef, undef, undef, undef, undef, undef, undef], defers := [] }) ?assign ?body ?done ?stop
  case assign =>
    intro l x W K hK
    dsimp only [encC]
    gi_wp2
    exact hK
  case stop =>
    rintro D c pre W _ _ h _
    exact h.elim
  case body =>
    rintro l pre x W hw hlt
    have hbw : Below W1.heap.size W1 W := below_gb H14.out hw.2 HG1.out H14.out.size
    obtain ⟨A', m, hch, hm, hrd⟩ := chV_rd q x hq8 (H1R.out.below hbw)
    have hsz := hbw.size
    have hgt := get_any A' m m (wdC bs q x) false (by omega) (Nat.le_refl _) (by unfold maxLen; omega) W (hrd.more hsz)
    rw [get_leN (wdC_len bs q x)] at hgt
    have HGT := Lib.hid hgt
    have HTK := Lib.hid (fun W' (hb : Blk W' 126 g (v4L (foldC bs q ⟨a, b, c, d⟩ pre))) => ptake_any (foldC_ok bs q pre HOK.out) (leN (wdC bs q x)) (leN_lt _ (wdC_len bs q x)) g W' hb)
    rw [hch]
    have HW := Lib.hid hw
    have hgl := Blk_10.lt hw.1
    have HGL := Lib.hid hgl
    clear hch hm hrd hgt hbw hsz hw hgl hq8 hqi
    gi_wp2_with (first
      | (gi_at_call 94; refine (CallsIn.inRound l (callsIn_wide.2 HGT.out)).mono ?_; rintro e W6 ⟨rfl, hb6⟩; have HB6 := Lib.hid hb6; have HK6 := Lib.hid (show Blk W6 126 g (v4L (foldC bs q ⟨a, b, c, d⟩ pre)) from Blk_10.below (WB.b HW.out) HGL.out hb6); clear hb6)
      | (gi_at_call 93; refine (CallsIn.inRound l (callsIn_wide.2 (HTK.out W6 HK6.out))).mono ?_; rintro e W7 ⟨⟨u7, rfl⟩, hw7⟩))
    have hwt : W.grownBy W7 (some g) := by
      have h6 : W.grownBy W6 (some g) := ⟨HB6.out.os, HB6.out.tape, HB6.out.output, HB6.out.size, fun k hk _ => HB6.out.block k hk⟩
      exact gb_trans h6 hw7.2
    refine ⟨?_, ⟨?_, ?_, ?_⟩, ?_⟩
    · exact (keeps_below _ HB6.out).trans (keeps_wb _ g HK6.out hw7.2)
    · exact (Below.refl 0 W).grown hwt (Nat.zero_le _) (fun k _ => Nat.zero_le k)
    · exact hwt.block (g + 1) (by have := HW.out.2.size; rw [H4S.out] at this; omega) (fun e => by cases e)
    · exact hwt.block (g + 1 + 1) (by have := HW.out.2.size; rw [H4S.out] at this; omega) (fun e => by cases e)
    · show WB W4 g (v4L (foldC bs q ⟨a, b, c, d⟩ (pre ++ [x]))) W7
      rw [foldC_snoc]
      exact ⟨hw7.1, gb_trans HW.out.2 hwt⟩
  case done =>
    rintro D ys W hD rfl hw hK
    rw [foldC_upto bs q HQ.out _ q (Nat.le_refl _)] at hw
    have hv : (stK (wordW bs) ⟨a, b, c, d⟩ q).Ok := stK_ok (wordW_lt bs) HOK.out q
    have hfin : H = finV (takeV (stK (wordW bs) ⟨a, b, c, d⟩ q) (lastW bs)) := by
      rw [← HH.out]
      exact hash_fin key bs q HQ.out _ HS0.out
    obtain ⟨S, hS⟩ : ∃ S, stK (wordW bs) ⟨a, b, c, d⟩ q = S := ⟨_, rfl⟩
    rw [hS] at hw hv hfin
    have hbw : Below W1.heap.size W1 W := below_gb H14.out hw.2 HG1.out H14.out.size
    have h0w : Below w.heap.size w W := below_gb H04.out hw.2 HG0.out H04.out.size
    have HLA := Lib.hid (plast_any A1 len c1 bs hl H1C.out H1M.out W ((H1R.out.below hbw).more hbw.size))
    have hll := lastW_lt bs
    have HTK := Lib.hid (fun W' (hb : Blk W' 126 g (v4L S)) => ptake_any hv (lastW bs) hll g W' hb)
    have HEN := Lib.hid (fun W' (hb : Blk W' 126 g (v4L (takeV S (lastW bs)))) => pend_any (takeV_ok hv hll) g W' hb)
    rw [← hfin] at HEN
    have HW := Lib.hid hw
    have H0W := Lib.hid h0w
    have hgl := Blk_10.lt hw.1
    have HGL := Lib.hid hgl
    have HDK := Lib.hid hK
    have HDD := Lib.hid (show g < D by rw [H4S.out] at hD; omega)
    have HDW := Lib.hid (Nat.le_trans H04.out.size hD)
    clear hS hw hv hfin hbw h0w hll hgl hK hD hl hq8 hqi
    gi_wp2_with (first
      | (gi_at_call 95; refine (callsIn_wide.2 HLA.out).mono ?_; rintro e W6 ⟨rfl, hb6⟩; have HB6 := Lib.hid hb6; have HK6 := Lib.hid (show Blk W6 126 g (v4L S) from Blk_10.below (WB.b HW.out) HGL.out hb6); clear hb6)
      | (gi_at_call 93; refine (callsIn_wide.2 (HTK.out W6 HK6.out)).mono ?_; rintro e W7 ⟨⟨u7, rfl⟩, hw7⟩; have HW7 := Lib.hid hw7; clear hw7)
      | (gi_at_call 96; refine (callsIn_wide.2 (HEN.out W7 (WB.b HW7.out))).mono ?_; rintro e W8 ⟨rfl, hg8⟩))
    have hdl := (Array.getElem?_eq_some_iff.1 HDK.out).1
    have k6 : W6.heap[D]? = some (.deferred (some [])) := (HB6.out.block D hdl).trans HDK.out
    have k7 : W7.heap[D]? = some (.deferred (some [])) := (HW7.out.2.block D (Array.getElem?_eq_some_iff.1 k6).1 (fun e => by have := HDD.out; cases e; omega)).trans k6
    have k8 : W8.heap[D]? = some (.deferred (some [])) := (hg8.block D (Array.getElem?_eq_some_iff.1 k7).1 (fun e => by have := HDD.out; cases e; omega)).trans k7
    have b6 := H0W.out.trans (HB6.out.mono H0W.out.size)
    have b7 := below_gb b6 HW7.out.2 HG0.out b6.size
    have b8 := below_gb b7 hg8 HG0.out b7.size
    refine ⟨by simp, .inl ⟨_, _, rfl, run_takeDeferred k8, ?_⟩⟩
    refine ⟨_, results_tmp rfl _ _ _, rfl, b8.trans (belowK_b (w := w) (Nat.le_refl _) W8 D _ _ HDW.out k8 rfl rfl)⟩
end Go.Proofs.Ytfbiinipiklkaaa
namespace Go.Proofs.Ytfbiinipiklkaaa
set_option maxRecDepth 100000
open Go.RowKit Go.Lib

set_option maxHeartbeats 1000000 in
theorem pport_any (n : Nat) (hn : n < 65536) (w : World) : Calls Try.prog 68 #[.int .i64 (n : Int)] w fun e W' => ∃ v, e = .returned v ∧ Own8 W' w.heap.size v (bePW (n : Int)) ∧ Below w.heap.size w W' := by
  have hp := put_any n 2 true w
  have e : bytesOf n (sizeOf8 2) true = bePW (n : Int) := by
    show (dig n 2).reverse = _
    unfold bePW
    rw [Int.toNat_natCast, be2_dig]
    unfold be2
    rfl
  rw [e] at hp
  have HP := Lib.hid hp
  have hw : IntKind.u64.wrap (n : Int) = (n : Int) := by rw [IntKind.wrap_u64]; omega
  clear hp e
  go_enter Try.func68, Try.ntmps68
  go_wp2_with (refine HP.out.mono ?_; rintro e w1 ⟨v, rfl, hown, hb⟩)
  go_ret
  exact ⟨v, rfl, hown, hb⟩
end Go.Proofs.Ytfbiinipiklkaaa
namespace Go.Proofs.Ytfbiinipiklkaaa
set_option maxRecDepth 100000
open Go.RowKit Go.Lib

theorem Rd.next {w w' : World} {A : Option Addr} {n : Nat} {xs : List UInt8} (h : Rd w w.heap.size A n xs) (hb : Below w.heap.size w w') : Rd w' w'.heap.size A n xs := (h.below hb).more hb.size
/-- What the region's four makers have laid. -/
structure B4 (Y W : World) (x y : UInt8) (ps pd : List UInt8) (A8 A18 A21 A24 : Option Addr) (c21 c24 : Nat) : Prop where
  bel : Below Y.heap.size Y W
  r8 : Rd W W.heap.size A8 1 [x]
  r18 : Rd W W.heap.size A18 1 [y]
  r21 : Rd W W.heap.size A21 2 ps
  r24 : Rd W W.heap.size A24 2 pd
  k21 : 2 ≤ c21
  m21 : c21 ≤ maxLen
  k24 : 2 ≤ c24
  m24 : c24 ≤ maxLen
theorem cut_b4 {goal : Prop} {H M : World → Option Addr → Option Addr → Option Addr → Option Addr → Nat → Nat → Prop} (h1 : (∀ W a b c d e f, H W a b c d e f → M W a b c d e f) → goal) (h2 : ∀ W a b c d e f, H W a b c d e f → M W a b c d e f) : goal := h1 h2
theorem tu_srcR {w : World} {g : Nat} {t : Tu} (h : Blk w 26 g (tuL t)) (ho : t.Ok) : Rd w w.heap.size (some ⟨g, 1, none⟩) 16 t.s.b :=
  ⟨ho.s, fun _ => ⟨g, 1, rfl, Blk_10.lt h, fun _ _ hx => tu_srcB h hx⟩⟩
theorem tu_dstR {w : World} {g : Nat} {t : Tu} (h : Blk w 26 g (tuL t)) (ho : t.Ok) : Rd w w.heap.size (some ⟨g, 18, none⟩) 16 t.d.b :=
  ⟨ho.d, fun _ => ⟨g, 18, rfl, Blk_10.lt h, fun _ _ hx => tu_dstB h ho hx⟩⟩
set_option maxHeartbeats 2000000 in
/-- slices.Concat of six texts, their slices just laid in a row of new memory. -/
theorem concat_six (W : World) {A1 A2 A3 A4 A5 A6 : Option Addr} {c5 c6 : Nat} {x1 x2 x3 x4 x5 x6 : List UInt8} (h1 : Rd W W.heap.size A1 1 x1) (h2 : Rd W W.heap.size A2 16 x2) (h3 : Rd W W.heap.size A3 16 x3) (h4 : Rd W W.heap.size A4 1 x4) (h5 : Rd W W.heap.size A5 2 x5) (h6 : Rd W W.heap.size A6 2 x6)
    (k5 : 2 ≤ c5) (m5 : c5 ≤ maxLen) (k6 : 2 ≤ c6) (m6 : c6 ≤ maxLen) :
    Calls Try.prog 67 #[.slice (some ⟨W.heap.size, 0, none⟩) 6 6] (W.alloc (.cells #[.slice A1 1 1, .slice A2 16 16, .slice A3 16 16, .slice A4 1 1, .slice A5 2 c5, .slice A6 2 c6] 72)) fun e W' => ∃ v, e = .returned v ∧ Own8 W' W.heap.size v (x1 ++ (x2 ++ (x3 ++ (x4 ++ (x5 ++ x6))))) ∧ Below W.heap.size W W' := by
  have hl := ((((((CellsAt.nil_ W W.heap.size).cons h6 k6 m6).cons h5 k5 m5).cons h4 (Nat.le_refl _) (small_max (by omega))).cons h3 (Nat.le_refl _) (small_max (by omega))).cons h2 (Nat.le_refl _) (small_max (by omega))).cons h1 (Nat.le_refl _) (small_max (by omega))
  have hl := hl.laid (Nat.le_refl _) 6 rfl
  have hf : ([x1, x2, x3, x4, x5, x6] : List (List UInt8)).flatten = x1 ++ (x2 ++ (x3 ++ (x4 ++ (x5 ++ x6)))) := by simp
  have h := concat_all (some ⟨W.heap.size, 0, none⟩) 6 6 [x1, x2, x3, x4, x5, x6] (by omega) (by rw [hf, List.length_append, List.length_append, List.length_append, List.length_append, List.length_append, h1.len, h2.len, h3.len, h4.len, h5.len, h6.len]; omega) _ hl (by rw [World.size_alloc]; exact Nat.le_refl _)
  rw [hf] at h
  have hb0 : Below W.heap.size W (W.alloc (.cells #[.slice A1 1 1, .slice A2 16 16, .slice A3 16 16, .slice A4 1 1, .slice A5 2 c5, .slice A6 2 c6] 72)) := (Below.refl W.heap.size W).alloc (Nat.le_refl _) _
  refine h.mono ?_
  rintro e W' ⟨v, he, hv, hb⟩
  exact ⟨v, he, hv.base_le hb0.size, hb0.trans (hb.mono hb0.size)⟩
set_option maxHeartbeats 16000000 in
theorem pbytes_any {t : Tu} (ho : t.Ok) (hf : t.Fit) (w : World) : Calls Try.prog 54 #[tuC t] w fun e W' => ∃ v, e = .returned v ∧ Own8 W' w.heap.size v (tuB t) ∧ Below w.heap.size w W' := by
  obtain ⟨Y, hY, hb, hbel, hys⟩ := box_tu1 w t
  have d0 := tu_six hb
  obtain ⟨d2, d3, d4⟩ := tu_num hb ho
  obtain ⟨p, hp⟩ := Int.eq_ofNat_of_zero_le hf.pr.1
  obtain ⟨s, hs⟩ := Int.eq_ofNat_of_zero_le hf.sp.1
  obtain ⟨d, hd⟩ := Int.eq_ofNat_of_zero_le hf.dp.1
  have lp : p < 256 := by have := hf.pr.2; omega
  have ls : s < 65536 := by have := hf.sp.2; omega
  have ld : d < 65536 := by have := hf.dp.2; omega
  rw [hp] at d2
  rw [hs] at d3
  rw [hd] at d4
  obtain ⟨y, hy⟩ : ∃ y, UInt8.ofNat p = y := ⟨_, rfl⟩
  have hwp : IntKind.u8.wrap (p : Int) = (y.toNat : Int) := by
    rw [← hy, ← byte_val lp, IntKind.wrap_u8]
    omega
  have HT : Hid (tuB t = [(if t.s.six then 6 else 4)] ++ (t.s.b ++ (t.d.b ++ ([y] ++ (bePW s ++ bePW d))))) := Lib.hid (by
    unfold tuB
    rw [hp, hs, hd, Int.toNat_natCast, hy]
    rfl)
  obtain ⟨R, hR⟩ : ∃ R, tuB t = R := ⟨_, rfl⟩
  rw [hR]
  rw [hR] at HT
  have HP1 := Lib.hid (fun W => pport_any s ls W)
  have HP2 := Lib.hid (fun W => pport_any d ld W)
  have HB := Lib.hid hb
  have HOK := Lib.hid ho
  have HG := Lib.hid (Blk_10.lt hb)
  obtain ⟨ps, hps⟩ : ∃ l, bePW (s : Int) = l := ⟨_, rfl⟩
  obtain ⟨pd, hpd⟩ : ∃ l, bePW (d : Int) = l := ⟨_, rfl⟩
  have hl1 : ps.length = 2 := by rw [← hps]; rfl
  have hl2 : pd.length = 2 := by rw [← hpd]; rfl
  rw [hps] at HP1 HT
  rw [hpd] at HP2 HT
  have HL1 := Lib.hid hl1
  have HL2 := Lib.hid hl2
  have D2 : Hid (∀ W, Below Y.heap.size Y W → W.cell? ⟨w.heap.size, 34, none⟩ = some (.int .i64 (p : Int))) := Lib.hid (fun W hW => (hW.cell (p := ⟨w.heap.size, 34, none⟩) HG.out).trans d2)
  have D3 : Hid (∀ W, Below Y.heap.size Y W → W.cell? ⟨w.heap.size, 35, none⟩ = some (.int .i64 (s : Int))) := Lib.hid (fun W hW => (hW.cell (p := ⟨w.heap.size, 35, none⟩) HG.out).trans d3)
  have D4 : Hid (∀ W, Below Y.heap.size Y W → W.cell? ⟨w.heap.size, 36, none⟩ = some (.int .i64 (d : Int))) := Lib.hid (fun W hW => (hW.cell (p := ⟨w.heap.size, 36, none⟩) HG.out).trans d4)
  obtain ⟨C, hC⟩ : ∃ C, (tuL t).toArray = C := ⟨_, rfl⟩
  unfold tuC
  rw [hC] at hY ⊢
  have HY := Lib.hid hY
  have HBel := Lib.hid hbel
  have HYS := Lib.hid hys
  obtain ⟨a, ha⟩ : ∃ a, t.s.six = a := ⟨_, rfl⟩
  rw [ha] at d0 HT
  rw [← hY] at d0
  clear ha hps hpd hl1 hl2 hR hp hs hd hy hb ho hf hY hC hbel hys d2 d3 d4 lp ls ld
  cases a
  · rw [if_neg (by decide)] at HT
    go_enter Try.func54, Try.ntmps54
    go_wp2_with fail
    rw [HY.out]
    apply cut_b4 (H := fun W A8 A18 A21 A24 c21 c24 => B4 Y W 4 y ps pd A8 A18 A21 A24 c21 c24)
    case h1 =>
      intro hc
      refine wp_region_held_drew (S := fun W => Below Y.heap.size Y W) (by kernel_rfl) ((Below.refl Y.heap.size Y).drew) (fun hHeld => ?_)
      obtain ⟨X0, hX0⟩ : ∃ X, Y.drew = X := ⟨_, rfl⟩
      rw [hX0] at hHeld ⊢
      clear hX0
      refine tk 0 7 (.int .u8 4) rfl hHeld ?_
      simp only [Act.put, sA, sZ, sS]
      refine tk 2 9 (.pointer (some ⟨w.heap.size, 0, none⟩)) rfl hHeld ?_
      simp only [Act.put, sA, sZ, sS]
      refine tk 3 10 (.pointer (some ⟨w.heap.size, 1, none⟩)) rfl hHeld ?_
      simp only [Act.put, sA, sZ, sS]
      refine tk 4 11 (.slice (some ⟨w.heap.size, 1, none⟩) 16 16) rfl hHeld ?_
      simp only [Act.put, sA, sZ, sS]
      refine tk 5 12 (.pointer (some ⟨w.heap.size, 17, none⟩)) rfl hHeld ?_
      simp only [Act.put, sA, sZ, sS]
      refine tk 6 13 (.pointer (some ⟨w.heap.size, 18, none⟩)) rfl hHeld ?_
      simp only [Act.put, sA, sZ, sS]
      refine tk 7 14 (.slice (some ⟨w.heap.size, 18, none⟩) 16 16) rfl hHeld ?_
      simp only [Act.put, sA, sZ, sS]
      refine tk 8 15 (.pointer (some ⟨w.heap.size, 34, none⟩)) rfl hHeld ?_
      simp only [Act.put, sA, sZ, sS]
      refine tkY 9 16 (.int .i64 (p : Int)) rfl (Or.inl ⟨by rfl, fun W hW => by have hc := D2.out W hW; go_simp⟩) hHeld ?_
      simp only [Act.put, sA, sZ, sS]
      refine tk 10 17 (.int .u8 (y.toNat : Int)) rfl hHeld ?_
      simp only [Act.put, sA, sZ, sS]
      refine tk 12 19 (.pointer (some ⟨w.heap.size, 35, none⟩)) rfl hHeld ?_
      simp only [Act.put, sA, sZ, sS]
      refine tkY 13 20 (.int .i64 (s : Int)) rfl (Or.inl ⟨by rfl, fun W hW => by have hc := D3.out W hW; go_simp⟩) hHeld ?_
      simp only [Act.put, sA, sZ, sS]
      refine tk 15 22 (.pointer (some ⟨w.heap.size, 36, none⟩)) rfl hHeld ?_
      simp only [Act.put, sA, sZ, sS]
      refine tkY 16 23 (.int .i64 (d : Int)) rfl (Or.inl ⟨by rfl, fun W hW => by have hc := D4.out W hW; go_simp⟩) hHeld ?_
      simp only [Act.put, sA, sZ, sS]
      refine wpAnyH_ready (rs := [1, 11, 14]) (by kernel_rfl) (by simp) (AllReadyH.cons (o := ⟨some 8, _, _, _, _, _⟩) rfl (fun K hK => ?_) (AllReadyH.cons (o := ⟨some 18, _, _, _, _, _⟩) rfl (fun K hK => ?_) (AllReadyH.cons (o := ⟨some 21, _, _, _, _, _⟩) rfl (fun K hK => ?_) AllReadyH.nil)))
      · go_simp
        have hb' : Below X0.heap.size X0 (X0.alloc (.cells #[.int .u8 4] 5)) := (Below.refl _ _).alloc (Nat.le_refl _) _
        have hr' : Rd (X0.alloc (.cells #[.int .u8 4] 5)) (X0.alloc (.cells #[.int .u8 4] 5)).heap.size (some ⟨X0.heap.size, 0, none⟩) 1 [4] := (Rd.one X0 (4)).more (by rw [World.size_alloc]; exact Nat.le_refl _)
        obtain ⟨X1, hX⟩ : ∃ X, X0.alloc (.cells #[.int .u8 4] 5) = X := ⟨_, rfl⟩
        rw [hX] at hb' hr' ⊢
        obtain ⟨A8, hA⟩ : ∃ A : Option Addr, some ⟨X0.heap.size, 0, none⟩ = A := ⟨_, rfl⟩
        rw [hA] at hr' ⊢
        clear hA hX
        have HR8 := Lib.hid hr'
        refine hK.out _ _ (hHeld.trans (hb'.mono hHeld.size)) (fun hHeld => ?_)
        clear hK K hr' hb'
        refine wpAnyH_ready (rs := [11, 14]) (by kernel_rfl) (by simp) (AllReadyH.cons (o := ⟨some 18, _, _, _, _, _⟩) rfl (fun K hK => ?_) (AllReadyH.cons (o := ⟨some 21, _, _, _, _, _⟩) rfl (fun K hK => ?_) AllReadyH.nil))
        · go_simp
          have hb' : Below X1.heap.size X1 (X1.alloc (.cells #[.int .u8 (y.toNat : Int)] 5)) := (Below.refl _ _).alloc (Nat.le_refl _) _
          have hr' : Rd (X1.alloc (.cells #[.int .u8 (y.toNat : Int)] 5)) (X1.alloc (.cells #[.int .u8 (y.toNat : Int)] 5)).heap.size (some ⟨X1.heap.size, 0, none⟩) 1 [y] := (Rd.one X1 (y)).more (by rw [World.size_alloc]; exact Nat.le_refl _)
          obtain ⟨X2, hX⟩ : ∃ X, X1.alloc (.cells #[.int .u8 (y.toNat : Int)] 5) = X := ⟨_, rfl⟩
          rw [hX] at hb' hr' ⊢
          obtain ⟨A18, hA⟩ : ∃ A : Option Addr, some ⟨X1.heap.size, 0, none⟩ = A := ⟨_, rfl⟩
          rw [hA] at hr' ⊢
          clear hA hX
          have HR8' := Lib.hid (HR8.out.next hb')
          clear HR8
          have HR8 := HR8'
          clear HR8'
          have HR18 := Lib.hid hr'
          refine hK.out _ _ (hHeld.trans (hb'.mono hHeld.size)) (fun hHeld => ?_)
          clear hK K hr' hb'
          refine wpAnyH_ready (rs := [14]) (by kernel_rfl) (by simp) (AllReadyH.cons (o := ⟨some 21, _, _, _, _, _⟩) rfl (fun K hK => ?_) AllReadyH.nil)
          go_simp
          refine (HP1.out X2).mono ?_
          rintro e X3 ⟨v, rfl, hov, hb'⟩
          obtain ⟨A21, m, c21, rfl, hm, hkk, hmm, hr'⟩ := hov.sl
          rw [HL1.out] at hm
          subst hm
          have HK21 := Lib.hid hkk
          have HM21 := Lib.hid hmm
          clear hov hkk hmm
          have HR8' := Lib.hid (HR8.out.next hb')
          clear HR8
          have HR8 := HR8'
          clear HR8'
          have HR18' := Lib.hid (HR18.out.next hb')
          clear HR18
          have HR18 := HR18'
          clear HR18'
          have HR21 := Lib.hid hr'
          refine hK.out _ _ (hHeld.trans (hb'.mono hHeld.size)) (fun hHeld => ?_)
          clear hK K hr' hb'
          refine wpAnyH_ready (rs := [17]) (by kernel_rfl) (by simp) (AllReadyH.cons (o := ⟨some 24, _, _, _, _, _⟩) rfl (fun K hK => ?_) AllReadyH.nil)
          go_simp
          refine (HP2.out X3).mono ?_
          rintro e X4 ⟨v, rfl, hov, hb'⟩
          obtain ⟨A24, m, c24, rfl, hm, hkk, hmm, hr'⟩ := hov.sl
          rw [HL2.out] at hm
          subst hm
          have HK24 := Lib.hid hkk
          have HM24 := Lib.hid hmm
          clear hov hkk hmm
          have HR8' := Lib.hid (HR8.out.next hb')
          clear HR8
          have HR8 := HR8'
          clear HR8'
          have HR18' := Lib.hid (HR18.out.next hb')
          clear HR18
          have HR18 := HR18'
          clear HR18'
          have HR21' := Lib.hid (HR21.out.next hb')
          clear HR21
          have HR21 := HR21'
          clear HR21'
          have HR24 := Lib.hid hr'
          refine hK.out _ _ (hHeld.trans (hb'.mono hHeld.size)) (fun hHeld => ?_)
          clear hK K hr' hb'
          exact hc X4 A8 A18 A21 A24 c21 c24 ⟨hHeld, HR8.out, HR18.out, HR21.out, HR24.out, HK21.out, HM21.out, HK24.out, HM24.out⟩
        · go_simp
          refine (HP1.out X1).mono ?_
          rintro e X2 ⟨v, rfl, hov, hb'⟩
          obtain ⟨A21, m, c21, rfl, hm, hkk, hmm, hr'⟩ := hov.sl
          rw [HL1.out] at hm
          subst hm
          have HK21 := Lib.hid hkk
          have HM21 := Lib.hid hmm
          clear hov hkk hmm
          have HR8' := Lib.hid (HR8.out.next hb')
          clear HR8
          have HR8 := HR8'
          clear HR8'
          have HR21 := Lib.hid hr'
          refine hK.out _ _ (hHeld.trans (hb'.mono hHeld.size)) (fun hHeld => ?_)
          clear hK K hr' hb'
          refine wpAnyH_ready (rs := [11, 17]) (by kernel_rfl) (by simp) (AllReadyH.cons (o := ⟨some 18, _, _, _, _, _⟩) rfl (fun K hK => ?_) (AllReadyH.cons (o := ⟨some 24, _, _, _, _, _⟩) rfl (fun K hK => ?_) AllReadyH.nil))
          · go_simp
            have hb' : Below X2.heap.size X2 (X2.alloc (.cells #[.int .u8 (y.toNat : Int)] 5)) := (Below.refl _ _).alloc (Nat.le_refl _) _
            have hr' : Rd (X2.alloc (.cells #[.int .u8 (y.toNat : Int)] 5)) (X2.alloc (.cells #[.int .u8 (y.toNat : Int)] 5)).heap.size (some ⟨X2.heap.size, 0, none⟩) 1 [y] := (Rd.one X2 (y)).more (by rw [World.size_alloc]; exact Nat.le_refl _)
            obtain ⟨X3, hX⟩ : ∃ X, X2.alloc (.cells #[.int .u8 (y.toNat : Int)] 5) = X := ⟨_, rfl⟩
            rw [hX] at hb' hr' ⊢
            obtain ⟨A18, hA⟩ : ∃ A : Option Addr, some ⟨X2.heap.size, 0, none⟩ = A := ⟨_, rfl⟩
            rw [hA] at hr' ⊢
            clear hA hX
            have HR8' := Lib.hid (HR8.out.next hb')
            clear HR8
            have HR8 := HR8'
            clear HR8'
            have HR21' := Lib.hid (HR21.out.next hb')
            clear HR21
            have HR21 := HR21'
            clear HR21'
            have HR18 := Lib.hid hr'
            refine hK.out _ _ (hHeld.trans (hb'.mono hHeld.size)) (fun hHeld => ?_)
            clear hK K hr' hb'
            refine wpAnyH_ready (rs := [17]) (by kernel_rfl) (by simp) (AllReadyH.cons (o := ⟨some 24, _, _, _, _, _⟩) rfl (fun K hK => ?_) AllReadyH.nil)
            go_simp
            refine (HP2.out X3).mono ?_
            rintro e X4 ⟨v, rfl, hov, hb'⟩
            obtain ⟨A24, m, c24, rfl, hm, hkk, hmm, hr'⟩ := hov.sl
            rw [HL2.out] at hm
            subst hm
            have HK24 := Lib.hid hkk
            have HM24 := Lib.hid hmm
            clear hov hkk hmm
            have HR8' := Lib.hid (HR8.out.next hb')
            clear HR8
            have HR8 := HR8'
            clear HR8'
            have HR21' := Lib.hid (HR21.out.next hb')
            clear HR21
            have HR21 := HR21'
            clear HR21'
            have HR18' := Lib.hid (HR18.out.next hb')
            clear HR18
            have HR18 := HR18'
            clear HR18'
            have HR24 := Lib.hid hr'
            refine hK.out _ _ (hHeld.trans (hb'.mono hHeld.size)) (fun hHeld => ?_)
            clear hK K hr' hb'
            exact hc X4 A8 A18 A21 A24 c21 c24 ⟨hHeld, HR8.out, HR18.out, HR21.out, HR24.out, HK21.out, HM21.out, HK24.out, HM24.out⟩
          · go_simp
            refine (HP2.out X2).mono ?_
            rintro e X3 ⟨v, rfl, hov, hb'⟩
            obtain ⟨A24, m, c24, rfl, hm, hkk, hmm, hr'⟩ := hov.sl
            rw [HL2.out] at hm
            subst hm
            have HK24 := Lib.hid hkk
            have HM24 := Lib.hid hmm
            clear hov hkk hmm
            have HR8' := Lib.hid (HR8.out.next hb')
            clear HR8
            have HR8 := HR8'
            clear HR8'
            have HR21' := Lib.hid (HR21.out.next hb')
            clear HR21
            have HR21 := HR21'
            clear HR21'
            have HR24 := Lib.hid hr'
            refine hK.out _ _ (hHeld.trans (hb'.mono hHeld.size)) (fun hHeld => ?_)
            clear hK K hr' hb'
            refine wpAnyH_ready (rs := [11]) (by kernel_rfl) (by simp) (AllReadyH.cons (o := ⟨some 18, _, _, _, _, _⟩) rfl (fun K hK => ?_) AllReadyH.nil)
            go_simp
            have hb' : Below X3.heap.size X3 (X3.alloc (.cells #[.int .u8 (y.toNat : Int)] 5)) := (Below.refl _ _).alloc (Nat.le_refl _) _
            have hr' : Rd (X3.alloc (.cells #[.int .u8 (y.toNat : Int)] 5)) (X3.alloc (.cells #[.int .u8 (y.toNat : Int)] 5)).heap.size (some ⟨X3.heap.size, 0, none⟩) 1 [y] := (Rd.one X3 (y)).more (by rw [World.size_alloc]; exact Nat.le_refl _)
            obtain ⟨X4, hX⟩ : ∃ X, X3.alloc (.cells #[.int .u8 (y.toNat : Int)] 5) = X := ⟨_, rfl⟩
            rw [hX] at hb' hr' ⊢
            obtain ⟨A18, hA⟩ : ∃ A : Option Addr, some ⟨X3.heap.size, 0, none⟩ = A := ⟨_, rfl⟩
            rw [hA] at hr' ⊢
            clear hA hX
            have HR8' := Lib.hid (HR8.out.next hb')
            clear HR8
            have HR8 := HR8'
            clear HR8'
            have HR21' := Lib.hid (HR21.out.next hb')
            clear HR21
            have HR21 := HR21'
            clear HR21'
            have HR24' := Lib.hid (HR24.out.next hb')
            clear HR24
            have HR24 := HR24'
            clear HR24'
            have HR18 := Lib.hid hr'
            refine hK.out _ _ (hHeld.trans (hb'.mono hHeld.size)) (fun hHeld => ?_)
            clear hK K hr' hb'
            exact hc X4 A8 A18 A21 A24 c21 c24 ⟨hHeld, HR8.out, HR18.out, HR21.out, HR24.out, HK21.out, HM21.out, HK24.out, HM24.out⟩
      · go_simp
        have hb' : Below X0.heap.size X0 (X0.alloc (.cells #[.int .u8 (y.toNat : Int)] 5)) := (Below.refl _ _).alloc (Nat.le_refl _) _
        have hr' : Rd (X0.alloc (.cells #[.int .u8 (y.toNat : Int)] 5)) (X0.alloc (.cells #[.int .u8 (y.toNat : Int)] 5)).heap.size (some ⟨X0.heap.size, 0, none⟩) 1 [y] := (Rd.one X0 (y)).more (by rw [World.size_alloc]; exact Nat.le_refl _)
        obtain ⟨X1, hX⟩ : ∃ X, X0.alloc (.cells #[.int .u8 (y.toNat : Int)] 5) = X := ⟨_, rfl⟩
        rw [hX] at hb' hr' ⊢
        obtain ⟨A18, hA⟩ : ∃ A : Option Addr, some ⟨X0.heap.size, 0, none⟩ = A := ⟨_, rfl⟩
        rw [hA] at hr' ⊢
        clear hA hX
        have HR18 := Lib.hid hr'
        refine hK.out _ _ (hHeld.trans (hb'.mono hHeld.size)) (fun hHeld => ?_)
        clear hK K hr' hb'
        refine wpAnyH_ready (rs := [1, 14]) (by kernel_rfl) (by simp) (AllReadyH.cons (o := ⟨some 8, _, _, _, _, _⟩) rfl (fun K hK => ?_) (AllReadyH.cons (o := ⟨some 21, _, _, _, _, _⟩) rfl (fun K hK => ?_) AllReadyH.nil))
        · go_simp
          have hb' : Below X1.heap.size X1 (X1.alloc (.cells #[.int .u8 4] 5)) := (Below.refl _ _).alloc (Nat.le_refl _) _
          have hr' : Rd (X1.alloc (.cells #[.int .u8 4] 5)) (X1.alloc (.cells #[.int .u8 4] 5)).heap.size (some ⟨X1.heap.size, 0, none⟩) 1 [4] := (Rd.one X1 (4)).more (by rw [World.size_alloc]; exact Nat.le_refl _)
          obtain ⟨X2, hX⟩ : ∃ X, X1.alloc (.cells #[.int .u8 4] 5) = X := ⟨_, rfl⟩
          rw [hX] at hb' hr' ⊢
          obtain ⟨A8, hA⟩ : ∃ A : Option Addr, some ⟨X1.heap.size, 0, none⟩ = A := ⟨_, rfl⟩
          rw [hA] at hr' ⊢
          clear hA hX
          have HR18' := Lib.hid (HR18.out.next hb')
          clear HR18
          have HR18 := HR18'
          clear HR18'
          have HR8 := Lib.hid hr'
          refine hK.out _ _ (hHeld.trans (hb'.mono hHeld.size)) (fun hHeld => ?_)
          clear hK K hr' hb'
          refine wpAnyH_ready (rs := [14]) (by kernel_rfl) (by simp) (AllReadyH.cons (o := ⟨some 21, _, _, _, _, _⟩) rfl (fun K hK => ?_) AllReadyH.nil)
          go_simp
          refine (HP1.out X2).mono ?_
          rintro e X3 ⟨v, rfl, hov, hb'⟩
          obtain ⟨A21, m, c21, rfl, hm, hkk, hmm, hr'⟩ := hov.sl
          rw [HL1.out] at hm
          subst hm
          have HK21 := Lib.hid hkk
          have HM21 := Lib.hid hmm
          clear hov hkk hmm
          have HR18' := Lib.hid (HR18.out.next hb')
          clear HR18
          have HR18 := HR18'
          clear HR18'
          have HR8' := Lib.hid (HR8.out.next hb')
          clear HR8
          have HR8 := HR8'
          clear HR8'
          have HR21 := Lib.hid hr'
          refine hK.out _ _ (hHeld.trans (hb'.mono hHeld.size)) (fun hHeld => ?_)
          clear hK K hr' hb'
          refine wpAnyH_ready (rs := [17]) (by kernel_rfl) (by simp) (AllReadyH.cons (o := ⟨some 24, _, _, _, _, _⟩) rfl (fun K hK => ?_) AllReadyH.nil)
          go_simp
          refine (HP2.out X3).mono ?_
          rintro e X4 ⟨v, rfl, hov, hb'⟩
          obtain ⟨A24, m, c24, rfl, hm, hkk, hmm, hr'⟩ := hov.sl
          rw [HL2.out] at hm
          subst hm
          have HK24 := Lib.hid hkk
          have HM24 := Lib.hid hmm
          clear hov hkk hmm
          have HR18' := Lib.hid (HR18.out.next hb')
          clear HR18
          have HR18 := HR18'
          clear HR18'
          have HR8' := Lib.hid (HR8.out.next hb')
          clear HR8
          have HR8 := HR8'
          clear HR8'
          have HR21' := Lib.hid (HR21.out.next hb')
          clear HR21
          have HR21 := HR21'
          clear HR21'
          have HR24 := Lib.hid hr'
          refine hK.out _ _ (hHeld.trans (hb'.mono hHeld.size)) (fun hHeld => ?_)
          clear hK K hr' hb'
          exact hc X4 A8 A18 A21 A24 c21 c24 ⟨hHeld, HR8.out, HR18.out, HR21.out, HR24.out, HK21.out, HM21.out, HK24.out, HM24.out⟩
        · go_simp
          refine (HP1.out X1).mono ?_
          rintro e X2 ⟨v, rfl, hov, hb'⟩
          obtain ⟨A21, m, c21, rfl, hm, hkk, hmm, hr'⟩ := hov.sl
          rw [HL1.out] at hm
          subst hm
          have HK21 := Lib.hid hkk
          have HM21 := Lib.hid hmm
          clear hov hkk hmm
          have HR18' := Lib.hid (HR18.out.next hb')
          clear HR18
          have HR18 := HR18'
          clear HR18'
          have HR21 := Lib.hid hr'
          refine hK.out _ _ (hHeld.trans (hb'.mono hHeld.size)) (fun hHeld => ?_)
          clear hK K hr' hb'
          refine wpAnyH_ready (rs := [1, 17]) (by kernel_rfl) (by simp) (AllReadyH.cons (o := ⟨some 8, _, _, _, _, _⟩) rfl (fun K hK => ?_) (AllReadyH.cons (o := ⟨some 24, _, _, _, _, _⟩) rfl (fun K hK => ?_) AllReadyH.nil))
          · go_simp
            have hb' : Below X2.heap.size X2 (X2.alloc (.cells #[.int .u8 4] 5)) := (Below.refl _ _).alloc (Nat.le_refl _) _
            have hr' : Rd (X2.alloc (.cells #[.int .u8 4] 5)) (X2.alloc (.cells #[.int .u8 4] 5)).heap.size (some ⟨X2.heap.size, 0, none⟩) 1 [4] := (Rd.one X2 (4)).more (by rw [World.size_alloc]; exact Nat.le_refl _)
            obtain ⟨X3, hX⟩ : ∃ X, X2.alloc (.cells #[.int .u8 4] 5) = X := ⟨_, rfl⟩
            rw [hX] at hb' hr' ⊢
            obtain ⟨A8, hA⟩ : ∃ A : Option Addr, some ⟨X2.heap.size, 0, none⟩ = A := ⟨_, rfl⟩
            rw [hA] at hr' ⊢
            clear hA hX
            have HR18' := Lib.hid (HR18.out.next hb')
            clear HR18
            have HR18 := HR18'
            clear HR18'
            have HR21' := Lib.hid (HR21.out.next hb')
            clear HR21
            have HR21 := HR21'
            clear HR21'
            have HR8 := Lib.hid hr'
            refine hK.out _ _ (hHeld.trans (hb'.mono hHeld.size)) (fun hHeld => ?_)
            clear hK K hr' hb'
            refine wpAnyH_ready (rs := [17]) (by kernel_rfl) (by simp) (AllReadyH.cons (o := ⟨some 24, _, _, _, _, _⟩) rfl (fun K hK => ?_) AllReadyH.nil)
            go_simp
            refine (HP2.out X3).mono ?_
            rintro e X4 ⟨v, rfl, hov, hb'⟩
            obtain ⟨A24, m, c24, rfl, hm, hkk, hmm, hr'⟩ := hov.sl
            rw [HL2.out] at hm
            subst hm
            have HK24 := Lib.hid hkk
            have HM24 := Lib.hid hmm
            clear hov hkk hmm
            have HR18' := Lib.hid (HR18.out.next hb')
            clear HR18
            have HR18 := HR18'
            clear HR18'
            have HR21' := Lib.hid (HR21.out.next hb')
            clear HR21
            have HR21 := HR21'
            clear HR21'
            have HR8' := Lib.hid (HR8.out.next hb')
            clear HR8
            have HR8 := HR8'
            clear HR8'
            have HR24 := Lib.hid hr'
            refine hK.out _ _ (hHeld.trans (hb'.mono hHeld.size)) (fun hHeld => ?_)
            clear hK K hr' hb'
            exact hc X4 A8 A18 A21 A24 c21 c24 ⟨hHeld, HR8.out, HR18.out, HR21.out, HR24.out, HK21.out, HM21.out, HK24.out, HM24.out⟩
          · go_simp
            refine (HP2.out X2).mono ?_
            rintro e X3 ⟨v, rfl, hov, hb'⟩
            obtain ⟨A24, m, c24, rfl, hm, hkk, hmm, hr'⟩ := hov.sl
            rw [HL2.out] at hm
            subst hm
            have HK24 := Lib.hid hkk
            have HM24 := Lib.hid hmm
            clear hov hkk hmm
            have HR18' := Lib.hid (HR18.out.next hb')
            clear HR18
            have HR18 := HR18'
            clear HR18'
            have HR21' := Lib.hid (HR21.out.next hb')
            clear HR21
            have HR21 := HR21'
            clear HR21'
            have HR24 := Lib.hid hr'
            refine hK.out _ _ (hHeld.trans (hb'.mono hHeld.size)) (fun hHeld => ?_)
            clear hK K hr' hb'
            refine wpAnyH_ready (rs := [1]) (by kernel_rfl) (by simp) (AllReadyH.cons (o := ⟨some 8, _, _, _, _, _⟩) rfl (fun K hK => ?_) AllReadyH.nil)
            go_simp
            have hb' : Below X3.heap.size X3 (X3.alloc (.cells #[.int .u8 4] 5)) := (Below.refl _ _).alloc (Nat.le_refl _) _
            have hr' : Rd (X3.alloc (.cells #[.int .u8 4] 5)) (X3.alloc (.cells #[.int .u8 4] 5)).heap.size (some ⟨X3.heap.size, 0, none⟩) 1 [4] := (Rd.one X3 (4)).more (by rw [World.size_alloc]; exact Nat.le_refl _)
            obtain ⟨X4, hX⟩ : ∃ X, X3.alloc (.cells #[.int .u8 4] 5) = X := ⟨_, rfl⟩
            rw [hX] at hb' hr' ⊢
            obtain ⟨A8, hA⟩ : ∃ A : Option Addr, some ⟨X3.heap.size, 0, none⟩ = A := ⟨_, rfl⟩
            rw [hA] at hr' ⊢
            clear hA hX
            have HR18' := Lib.hid (HR18.out.next hb')
            clear HR18
            have HR18 := HR18'
            clear HR18'
            have HR21' := Lib.hid (HR21.out.next hb')
            clear HR21
            have HR21 := HR21'
            clear HR21'
            have HR24' := Lib.hid (HR24.out.next hb')
            clear HR24
            have HR24 := HR24'
            clear HR24'
            have HR8 := Lib.hid hr'
            refine hK.out _ _ (hHeld.trans (hb'.mono hHeld.size)) (fun hHeld => ?_)
            clear hK K hr' hb'
            exact hc X4 A8 A18 A21 A24 c21 c24 ⟨hHeld, HR8.out, HR18.out, HR21.out, HR24.out, HK21.out, HM21.out, HK24.out, HM24.out⟩
      · go_simp
        refine (HP1.out X0).mono ?_
        rintro e X1 ⟨v, rfl, hov, hb'⟩
        obtain ⟨A21, m, c21, rfl, hm, hkk, hmm, hr'⟩ := hov.sl
        rw [HL1.out] at hm
        subst hm
        have HK21 := Lib.hid hkk
        have HM21 := Lib.hid hmm
        clear hov hkk hmm
        have HR21 := Lib.hid hr'
        refine hK.out _ _ (hHeld.trans (hb'.mono hHeld.size)) (fun hHeld => ?_)
        clear hK K hr' hb'
        refine wpAnyH_ready (rs := [1, 11, 17]) (by kernel_rfl) (by simp) (AllReadyH.cons (o := ⟨some 8, _, _, _, _, _⟩) rfl (fun K hK => ?_) (AllReadyH.cons (o := ⟨some 18, _, _, _, _, _⟩) rfl (fun K hK => ?_) (AllReadyH.cons (o := ⟨some 24, _, _, _, _, _⟩) rfl (fun K hK => ?_) AllReadyH.nil)))
        · go_simp
          have hb' : Below X1.heap.size X1 (X1.alloc (.cells #[.int .u8 4] 5)) := (Below.refl _ _).alloc (Nat.le_refl _) _
          have hr' : Rd (X1.alloc (.cells #[.int .u8 4] 5)) (X1.alloc (.cells #[.int .u8 4] 5)).heap.size (some ⟨X1.heap.size, 0, none⟩) 1 [4] := (Rd.one X1 (4)).more (by rw [World.size_alloc]; exact Nat.le_refl _)
          obtain ⟨X2, hX⟩ : ∃ X, X1.alloc (.cells #[.int .u8 4] 5) = X := ⟨_, rfl⟩
          rw [hX] at hb' hr' ⊢
          obtain ⟨A8, hA⟩ : ∃ A : Option Addr, some ⟨X1.heap.size, 0, none⟩ = A := ⟨_, rfl⟩
          rw [hA] at hr' ⊢
          clear hA hX
          have HR21' := Lib.hid (HR21.out.next hb')
          clear HR21
          have HR21 := HR21'
          clear HR21'
          have HR8 := Lib.hid hr'
          refine hK.out _ _ (hHeld.trans (hb'.mono hHeld.size)) (fun hHeld => ?_)
          clear hK K hr' hb'
          refine wpAnyH_ready (rs := [11, 17]) (by kernel_rfl) (by simp) (AllReadyH.cons (o := ⟨some 18, _, _, _, _, _⟩) rfl (fun K hK => ?_) (AllReadyH.cons (o := ⟨some 24, _, _, _, _, _⟩) rfl (fun K hK => ?_) AllReadyH.nil))
          · go_simp
            have hb' : Below X2.heap.size X2 (X2.alloc (.cells #[.int .u8 (y.toNat : Int)] 5)) := (Below.refl _ _).alloc (Nat.le_refl _) _
            have hr' : Rd (X2.alloc (.cells #[.int .u8 (y.toNat : Int)] 5)) (X2.alloc (.cells #[.int .u8 (y.toNat : Int)] 5)).heap.size (some ⟨X2.heap.size, 0, none⟩) 1 [y] := (Rd.one X2 (y)).more (by rw [World.size_alloc]; exact Nat.le_refl _)
            obtain ⟨X3, hX⟩ : ∃ X, X2.alloc (.cells #[.int .u8 (y.toNat : Int)] 5) = X := ⟨_, rfl⟩
            rw [hX] at hb' hr' ⊢
            obtain ⟨A18, hA⟩ : ∃ A : Option Addr, some ⟨X2.heap.size, 0, none⟩ = A := ⟨_, rfl⟩
            rw [hA] at hr' ⊢
            clear hA hX
            have HR21' := Lib.hid (HR21.out.next hb')
            clear HR21
            have HR21 := HR21'
            clear HR21'
            have HR8' := Lib.hid (HR8.out.next hb')
            clear HR8
            have HR8 := HR8'
            clear HR8'
            have HR18 := Lib.hid hr'
            refine hK.out _ _ (hHeld.trans (hb'.mono hHeld.size)) (fun hHeld => ?_)
            clear hK K hr' hb'
            refine wpAnyH_ready (rs := [17]) (by kernel_rfl) (by simp) (AllReadyH.cons (o := ⟨some 24, _, _, _, _, _⟩) rfl (fun K hK => ?_) AllReadyH.nil)
            go_simp
            refine (HP2.out X3).mono ?_
            rintro e X4 ⟨v, rfl, hov, hb'⟩
            obtain ⟨A24, m, c24, rfl, hm, hkk, hmm, hr'⟩ := hov.sl
            rw [HL2.out] at hm
            subst hm
            have HK24 := Lib.hid hkk
            have HM24 := Lib.hid hmm
            clear hov hkk hmm
            have HR21' := Lib.hid (HR21.out.next hb')
            clear HR21
            have HR21 := HR21'
            clear HR21'
            have HR8' := Lib.hid (HR8.out.next hb')
            clear HR8
            have HR8 := HR8'
            clear HR8'
            have HR18' := Lib.hid (HR18.out.next hb')
            clear HR18
            have HR18 := HR18'
            clear HR18'
            have HR24 := Lib.hid hr'
            refine hK.out _ _ (hHeld.trans (hb'.mono hHeld.size)) (fun hHeld => ?_)
            clear hK K hr' hb'
            exact hc X4 A8 A18 A21 A24 c21 c24 ⟨hHeld, HR8.out, HR18.out, HR21.out, HR24.out, HK21.out, HM21.out, HK24.out, HM24.out⟩
          · go_simp
            refine (HP2.out X2).mono ?_
            rintro e X3 ⟨v, rfl, hov, hb'⟩
            obtain ⟨A24, m, c24, rfl, hm, hkk, hmm, hr'⟩ := hov.sl
            rw [HL2.out] at hm
            subst hm
            have HK24 := Lib.hid hkk
            have HM24 := Lib.hid hmm
            clear hov hkk hmm
            have HR21' := Lib.hid (HR21.out.next hb')
            clear HR21
            have HR21 := HR21'
            clear HR21'
            have HR8' := Lib.hid (HR8.out.next hb')
            clear HR8
            have HR8 := HR8'
            clear HR8'
            have HR24 := Lib.hid hr'
            refine hK.out _ _ (hHeld.trans (hb'.mono hHeld.size)) (fun hHeld => ?_)
            clear hK K hr' hb'
            refine wpAnyH_ready (rs := [11]) (by kernel_rfl) (by simp) (AllReadyH.cons (o := ⟨some 18, _, _, _, _, _⟩) rfl (fun K hK => ?_) AllReadyH.nil)
            go_simp
            have hb' : Below X3.heap.size X3 (X3.alloc (.cells #[.int .u8 (y.toNat : Int)] 5)) := (Below.refl _ _).alloc (Nat.le_refl _) _
            have hr' : Rd (X3.alloc (.cells #[.int .u8 (y.toNat : Int)] 5)) (X3.alloc (.cells #[.int .u8 (y.toNat : Int)] 5)).heap.size (some ⟨X3.heap.size, 0, none⟩) 1 [y] := (Rd.one X3 (y)).more (by rw [World.size_alloc]; exact Nat.le_refl _)
            obtain ⟨X4, hX⟩ : ∃ X, X3.alloc (.cells #[.int .u8 (y.toNat : Int)] 5) = X := ⟨_, rfl⟩
            rw [hX] at hb' hr' ⊢
            obtain ⟨A18, hA⟩ : ∃ A : Option Addr, some ⟨X3.heap.size, 0, none⟩ = A := ⟨_, rfl⟩
            rw [hA] at hr' ⊢
            clear hA hX
            have HR21' := Lib.hid (HR21.out.next hb')
            clear HR21
            have HR21 := HR21'
            clear HR21'
            have HR8' := Lib.hid (HR8.out.next hb')
            clear HR8
            have HR8 := HR8'
            clear HR8'
            have HR24' := Lib.hid (HR24.out.next hb')
            clear HR24
            have HR24 := HR24'
            clear HR24'
            have HR18 := Lib.hid hr'
            refine hK.out _ _ (hHeld.trans (hb'.mono hHeld.size)) (fun hHeld => ?_)
            clear hK K hr' hb'
            exact hc X4 A8 A18 A21 A24 c21 c24 ⟨hHeld, HR8.out, HR18.out, HR21.out, HR24.out, HK21.out, HM21.out, HK24.out, HM24.out⟩
        · go_simp
          have hb' : Below X1.heap.size X1 (X1.alloc (.cells #[.int .u8 (y.toNat : Int)] 5)) := (Below.refl _ _).alloc (Nat.le_refl _) _
          have hr' : Rd (X1.alloc (.cells #[.int .u8 (y.toNat : Int)] 5)) (X1.alloc (.cells #[.int .u8 (y.toNat : Int)] 5)).heap.size (some ⟨X1.heap.size, 0, none⟩) 1 [y] := (Rd.one X1 (y)).more (by rw [World.size_alloc]; exact Nat.le_refl _)
          obtain ⟨X2, hX⟩ : ∃ X, X1.alloc (.cells #[.int .u8 (y.toNat : Int)] 5) = X := ⟨_, rfl⟩
          rw [hX] at hb' hr' ⊢
          obtain ⟨A18, hA⟩ : ∃ A : Option Addr, some ⟨X1.heap.size, 0, none⟩ = A := ⟨_, rfl⟩
          rw [hA] at hr' ⊢
          clear hA hX
          have HR21' := Lib.hid (HR21.out.next hb')
          clear HR21
          have HR21 := HR21'
          clear HR21'
          have HR18 := Lib.hid hr'
          refine hK.out _ _ (hHeld.trans (hb'.mono hHeld.size)) (fun hHeld => ?_)
          clear hK K hr' hb'
          refine wpAnyH_ready (rs := [1, 17]) (by kernel_rfl) (by simp) (AllReadyH.cons (o := ⟨some 8, _, _, _, _, _⟩) rfl (fun K hK => ?_) (AllReadyH.cons (o := ⟨some 24, _, _, _, _, _⟩) rfl (fun K hK => ?_) AllReadyH.nil))
          · go_simp
            have hb' : Below X2.heap.size X2 (X2.alloc (.cells #[.int .u8 4] 5)) := (Below.refl _ _).alloc (Nat.le_refl _) _
            have hr' : Rd (X2.alloc (.cells #[.int .u8 4] 5)) (X2.alloc (.cells #[.int .u8 4] 5)).heap.size (some ⟨X2.heap.size, 0, none⟩) 1 [4] := (Rd.one X2 (4)).more (by rw [World.size_alloc]; exact Nat.le_refl _)
            obtain ⟨X3, hX⟩ : ∃ X, X2.alloc (.cells #[.int .u8 4] 5) = X := ⟨_, rfl⟩
            rw [hX] at hb' hr' ⊢
            obtain ⟨A8, hA⟩ : ∃ A : Option Addr, some ⟨X2.heap.size, 0, none⟩ = A := ⟨_, rfl⟩
            rw [hA] at hr' ⊢
            clear hA hX
            have HR21' := Lib.hid (HR21.out.next hb')
            clear HR21
            have HR21 := HR21'
            clear HR21'
            have HR18' := Lib.hid (HR18.out.next hb')
            clear HR18
            have HR18 := HR18'
            clear HR18'
            have HR8 := Lib.hid hr'
            refine hK.out _ _ (hHeld.trans (hb'.mono hHeld.size)) (fun hHeld => ?_)
            clear hK K hr' hb'
            refine wpAnyH_ready (rs := [17]) (by kernel_rfl) (by simp) (AllReadyH.cons (o := ⟨some 24, _, _, _, _, _⟩) rfl (fun K hK => ?_) AllReadyH.nil)
            go_simp
            refine (HP2.out X3).mono ?_
            rintro e X4 ⟨v, rfl, hov, hb'⟩
            obtain ⟨A24, m, c24, rfl, hm, hkk, hmm, hr'⟩ := hov.sl
            rw [HL2.out] at hm
            subst hm
            have HK24 := Lib.hid hkk
            have HM24 := Lib.hid hmm
            clear hov hkk hmm
            have HR21' := Lib.hid (HR21.out.next hb')
            clear HR21
            have HR21 := HR21'
            clear HR21'
            have HR18' := Lib.hid (HR18.out.next hb')
            clear HR18
            have HR18 := HR18'
            clear HR18'
            have HR8' := Lib.hid (HR8.out.next hb')
            clear HR8
            have HR8 := HR8'
            clear HR8'
            have HR24 := Lib.hid hr'
            refine hK.out _ _ (hHeld.trans (hb'.mono hHeld.size)) (fun hHeld => ?_)
            clear hK K hr' hb'
            exact hc X4 A8 A18 A21 A24 c21 c24 ⟨hHeld, HR8.out, HR18.out, HR21.out, HR24.out, HK21.out, HM21.out, HK24.out, HM24.out⟩
          · go_simp
            refine (HP2.out X2).mono ?_
            rintro e X3 ⟨v, rfl, hov, hb'⟩
            obtain ⟨A24, m, c24, rfl, hm, hkk, hmm, hr'⟩ := hov.sl
            rw [HL2.out] at hm
            subst hm
            have HK24 := Lib.hid hkk
            have HM24 := Lib.hid hmm
            clear hov hkk hmm
            have HR21' := Lib.hid (HR21.out.next hb')
            clear HR21
            have HR21 := HR21'
            clear HR21'
            have HR18' := Lib.hid (HR18.out.next hb')
            clear HR18
            have HR18 := HR18'
            clear HR18'
            have HR24 := Lib.hid hr'
            refine hK.out _ _ (hHeld.trans (hb'.mono hHeld.size)) (fun hHeld => ?_)
            clear hK K hr' hb'
            refine wpAnyH_ready (rs := [1]) (by kernel_rfl) (by simp) (AllReadyH.cons (o := ⟨some 8, _, _, _, _, _⟩) rfl (fun K hK => ?_) AllReadyH.nil)
            go_simp
            have hb' : Below X3.heap.size X3 (X3.alloc (.cells #[.int .u8 4] 5)) := (Below.refl _ _).alloc (Nat.le_refl _) _
            have hr' : Rd (X3.alloc (.cells #[.int .u8 4] 5)) (X3.alloc (.cells #[.int .u8 4] 5)).heap.size (some ⟨X3.heap.size, 0, none⟩) 1 [4] := (Rd.one X3 (4)).more (by rw [World.size_alloc]; exact Nat.le_refl _)
            obtain ⟨X4, hX⟩ : ∃ X, X3.alloc (.cells #[.int .u8 4] 5) = X := ⟨_, rfl⟩
            rw [hX] at hb' hr' ⊢
            obtain ⟨A8, hA⟩ : ∃ A : Option Addr, some ⟨X3.heap.size, 0, none⟩ = A := ⟨_, rfl⟩
            rw [hA] at hr' ⊢
            clear hA hX
            have HR21' := Lib.hid (HR21.out.next hb')
            clear HR21
            have HR21 := HR21'
            clear HR21'
            have HR18' := Lib.hid (HR18.out.next hb')
            clear HR18
            have HR18 := HR18'
            clear HR18'
            have HR24' := Lib.hid (HR24.out.next hb')
            clear HR24
            have HR24 := HR24'
            clear HR24'
            have HR8 := Lib.hid hr'
            refine hK.out _ _ (hHeld.trans (hb'.mono hHeld.size)) (fun hHeld => ?_)
            clear hK K hr' hb'
            exact hc X4 A8 A18 A21 A24 c21 c24 ⟨hHeld, HR8.out, HR18.out, HR21.out, HR24.out, HK21.out, HM21.out, HK24.out, HM24.out⟩
        · go_simp
          refine (HP2.out X1).mono ?_
          rintro e X2 ⟨v, rfl, hov, hb'⟩
          obtain ⟨A24, m, c24, rfl, hm, hkk, hmm, hr'⟩ := hov.sl
          rw [HL2.out] at hm
          subst hm
          have HK24 := Lib.hid hkk
          have HM24 := Lib.hid hmm
          clear hov hkk hmm
          have HR21' := Lib.hid (HR21.out.next hb')
          clear HR21
          have HR21 := HR21'
          clear HR21'
          have HR24 := Lib.hid hr'
          refine hK.out _ _ (hHeld.trans (hb'.mono hHeld.size)) (fun hHeld => ?_)
          clear hK K hr' hb'
          refine wpAnyH_ready (rs := [1, 11]) (by kernel_rfl) (by simp) (AllReadyH.cons (o := ⟨some 8, _, _, _, _, _⟩) rfl (fun K hK => ?_) (AllReadyH.cons (o := ⟨some 18, _, _, _, _, _⟩) rfl (fun K hK => ?_) AllReadyH.nil))
          · go_simp
            have hb' : Below X2.heap.size X2 (X2.alloc (.cells #[.int .u8 4] 5)) := (Below.refl _ _).alloc (Nat.le_refl _) _
            have hr' : Rd (X2.alloc (.cells #[.int .u8 4] 5)) (X2.alloc (.cells #[.int .u8 4] 5)).heap.size (some ⟨X2.heap.size, 0, none⟩) 1 [4] := (Rd.one X2 (4)).more (by rw [World.size_alloc]; exact Nat.le_refl _)
            obtain ⟨X3, hX⟩ : ∃ X, X2.alloc (.cells #[.int .u8 4] 5) = X := ⟨_, rfl⟩
            rw [hX] at hb' hr' ⊢
            obtain ⟨A8, hA⟩ : ∃ A : Option Addr, some ⟨X2.heap.size, 0, none⟩ = A := ⟨_, rfl⟩
            rw [hA] at hr' ⊢
            clear hA hX
            have HR21' := Lib.hid (HR21.out.next hb')
            clear HR21
            have HR21 := HR21'
            clear HR21'
            have HR24' := Lib.hid (HR24.out.next hb')
            clear HR24
            have HR24 := HR24'
            clear HR24'
            have HR8 := Lib.hid hr'
            refine hK.out _ _ (hHeld.trans (hb'.mono hHeld.size)) (fun hHeld => ?_)
            clear hK K hr' hb'
            refine wpAnyH_ready (rs := [11]) (by kernel_rfl) (by simp) (AllReadyH.cons (o := ⟨some 18, _, _, _, _, _⟩) rfl (fun K hK => ?_) AllReadyH.nil)
            go_simp
            have hb' : Below X3.heap.size X3 (X3.alloc (.cells #[.int .u8 (y.toNat : Int)] 5)) := (Below.refl _ _).alloc (Nat.le_refl _) _
            have hr' : Rd (X3.alloc (.cells #[.int .u8 (y.toNat : Int)] 5)) (X3.alloc (.cells #[.int .u8 (y.toNat : Int)] 5)).heap.size (some ⟨X3.heap.size, 0, none⟩) 1 [y] := (Rd.one X3 (y)).more (by rw [World.size_alloc]; exact Nat.le_refl _)
            obtain ⟨X4, hX⟩ : ∃ X, X3.alloc (.cells #[.int .u8 (y.toNat : Int)] 5) = X := ⟨_, rfl⟩
            rw [hX] at hb' hr' ⊢
            obtain ⟨A18, hA⟩ : ∃ A : Option Addr, some ⟨X3.heap.size, 0, none⟩ = A := ⟨_, rfl⟩
            rw [hA] at hr' ⊢
            clear hA hX
            have HR21' := Lib.hid (HR21.out.next hb')
            clear HR21
            have HR21 := HR21'
            clear HR21'
            have HR24' := Lib.hid (HR24.out.next hb')
            clear HR24
            have HR24 := HR24'
            clear HR24'
            have HR8' := Lib.hid (HR8.out.next hb')
            clear HR8
            have HR8 := HR8'
            clear HR8'
            have HR18 := Lib.hid hr'
            refine hK.out _ _ (hHeld.trans (hb'.mono hHeld.size)) (fun hHeld => ?_)
            clear hK K hr' hb'
            exact hc X4 A8 A18 A21 A24 c21 c24 ⟨hHeld, HR8.out, HR18.out, HR21.out, HR24.out, HK21.out, HM21.out, HK24.out, HM24.out⟩
          · go_simp
            have hb' : Below X2.heap.size X2 (X2.alloc (.cells #[.int .u8 (y.toNat : Int)] 5)) := (Below.refl _ _).alloc (Nat.le_refl _) _
            have hr' : Rd (X2.alloc (.cells #[.int .u8 (y.toNat : Int)] 5)) (X2.alloc (.cells #[.int .u8 (y.toNat : Int)] 5)).heap.size (some ⟨X2.heap.size, 0, none⟩) 1 [y] := (Rd.one X2 (y)).more (by rw [World.size_alloc]; exact Nat.le_refl _)
            obtain ⟨X3, hX⟩ : ∃ X, X2.alloc (.cells #[.int .u8 (y.toNat : Int)] 5) = X := ⟨_, rfl⟩
            rw [hX] at hb' hr' ⊢
            obtain ⟨A18, hA⟩ : ∃ A : Option Addr, some ⟨X2.heap.size, 0, none⟩ = A := ⟨_, rfl⟩
            rw [hA] at hr' ⊢
            clear hA hX
            have HR21' := Lib.hid (HR21.out.next hb')
            clear HR21
            have HR21 := HR21'
            clear HR21'
            have HR24' := Lib.hid (HR24.out.next hb')
            clear HR24
            have HR24 := HR24'
            clear HR24'
            have HR18 := Lib.hid hr'
            refine hK.out _ _ (hHeld.trans (hb'.mono hHeld.size)) (fun hHeld => ?_)
            clear hK K hr' hb'
            refine wpAnyH_ready (rs := [1]) (by kernel_rfl) (by simp) (AllReadyH.cons (o := ⟨some 8, _, _, _, _, _⟩) rfl (fun K hK => ?_) AllReadyH.nil)
            go_simp
            have hb' : Below X3.heap.size X3 (X3.alloc (.cells #[.int .u8 4] 5)) := (Below.refl _ _).alloc (Nat.le_refl _) _
            have hr' : Rd (X3.alloc (.cells #[.int .u8 4] 5)) (X3.alloc (.cells #[.int .u8 4] 5)).heap.size (some ⟨X3.heap.size, 0, none⟩) 1 [4] := (Rd.one X3 (4)).more (by rw [World.size_alloc]; exact Nat.le_refl _)
            obtain ⟨X4, hX⟩ : ∃ X, X3.alloc (.cells #[.int .u8 4] 5) = X := ⟨_, rfl⟩
            rw [hX] at hb' hr' ⊢
            obtain ⟨A8, hA⟩ : ∃ A : Option Addr, some ⟨X3.heap.size, 0, none⟩ = A := ⟨_, rfl⟩
            rw [hA] at hr' ⊢
            clear hA hX
            have HR21' := Lib.hid (HR21.out.next hb')
            clear HR21
            have HR21 := HR21'
            clear HR21'
            have HR24' := Lib.hid (HR24.out.next hb')
            clear HR24
            have HR24 := HR24'
            clear HR24'
            have HR18' := Lib.hid (HR18.out.next hb')
            clear HR18
            have HR18 := HR18'
            clear HR18'
            have HR8 := Lib.hid hr'
            refine hK.out _ _ (hHeld.trans (hb'.mono hHeld.size)) (fun hHeld => ?_)
            clear hK K hr' hb'
            exact hc X4 A8 A18 A21 A24 c21 c24 ⟨hHeld, HR8.out, HR18.out, HR21.out, HR24.out, HK21.out, HM21.out, HK24.out, HM24.out⟩
    case h2 =>
      intro W A8 A18 A21 A24 c21 c24 hh
      have HH := Lib.hid hh
      have hHeld := hh.bel
      clear hh
      refine wpAnyH_ready (rs := [18]) (by kernel_rfl) (by simp) (AllReadyH.cons (o := ⟨some 25, _, _, _, _, _⟩) rfl (fun K hK => ?_) AllReadyH.nil)
      go_simp
      have HBW : Hid (Blk W 26 w.heap.size (tuL t)) := Lib.hid (Blk_10.below HB.out HG.out HH.out.bel)
      have HCC := Lib.hid (concat_six W HH.out.r8 (tu_srcR HBW.out HOK.out) (tu_dstR HBW.out HOK.out) HH.out.r18 HH.out.r21 HH.out.r24 HH.out.k21 HH.out.m21 HH.out.k24 HH.out.m24)
      rw [← HT.out] at HCC
      refine hK.out _ _ (hHeld.alloc hHeld.size _) (fun hHeld => ?_)
      clear hK K
      refine wpAnyH_ready (rs := [19]) (by kernel_rfl) (by simp) (AllReadyH.cons (o := ⟨some 26, _, _, _, _, _⟩) rfl (fun K hK => ?_) AllReadyH.nil)
      go_simp
      refine HCC.out.mono ?_
      rintro e W9 ⟨v, rfl, hov, hb9⟩
      have HB9 := Lib.hid (HH.out.bel.trans (hb9.mono HH.out.bel.size))
      have HOV := Lib.hid (hov.base_le (Nat.le_trans (by rw [HYS.out]; exact Nat.le_succ _) HH.out.bel.size))
      clear hov hb9
      refine hK.out _ _ HB9.out (fun hHeld => ?_)
      clear hK K
      refine tk 20 2 v rfl hHeld ?_
      simp only [Act.put, sA, sZ, sS]
      refine wpAnyH_done (by kernel_rfl) ?_ _
      clear hHeld
      go_wp2_with fail
      go_ret
      exact ⟨v, rfl, HOV.out, HBel.out.trans (HB9.out.mono (by rw [HYS.out]; exact Nat.le_succ _))⟩
  · rw [if_pos rfl] at HT
    go_enter Try.func54, Try.ntmps54
    go_wp2_with fail
    rw [HY.out]
    apply cut_b4 (H := fun W A8 A18 A21 A24 c21 c24 => B4 Y W 6 y ps pd A8 A18 A21 A24 c21 c24)
    case h1 =>
      intro hc
      refine wp_region_held_drew (S := fun W => Below Y.heap.size Y W) (by kernel_rfl) ((Below.refl Y.heap.size Y).drew) (fun hHeld => ?_)
      obtain ⟨X0, hX0⟩ : ∃ X, Y.drew = X := ⟨_, rfl⟩
      rw [hX0] at hHeld ⊢
      clear hX0
      refine tk 0 7 (.int .u8 6) rfl hHeld ?_
      simp only [Act.put, sA, sZ, sS]
      refine tk 2 9 (.pointer (some ⟨w.heap.size, 0, none⟩)) rfl hHeld ?_
      simp only [Act.put, sA, sZ, sS]
      refine tk 3 10 (.pointer (some ⟨w.heap.size, 1, none⟩)) rfl hHeld ?_
      simp only [Act.put, sA, sZ, sS]
      refine tk 4 11 (.slice (some ⟨w.heap.size, 1, none⟩) 16 16) rfl hHeld ?_
      simp only [Act.put, sA, sZ, sS]
      refine tk 5 12 (.pointer (some ⟨w.heap.size, 17, none⟩)) rfl hHeld ?_
      simp only [Act.put, sA, sZ, sS]
      refine tk 6 13 (.pointer (some ⟨w.heap.size, 18, none⟩)) rfl hHeld ?_
      simp only [Act.put, sA, sZ, sS]
      refine tk 7 14 (.slice (some ⟨w.heap.size, 18, none⟩) 16 16) rfl hHeld ?_
      simp only [Act.put, sA, sZ, sS]
      refine tk 8 15 (.pointer (some ⟨w.heap.size, 34, none⟩)) rfl hHeld ?_
      simp only [Act.put, sA, sZ, sS]
      refine tkY 9 16 (.int .i64 (p : Int)) rfl (Or.inl ⟨by rfl, fun W hW => by have hc := D2.out W hW; go_simp⟩) hHeld ?_
      simp only [Act.put, sA, sZ, sS]
      refine tk 10 17 (.int .u8 (y.toNat : Int)) rfl hHeld ?_
      simp only [Act.put, sA, sZ, sS]
      refine tk 12 19 (.pointer (some ⟨w.heap.size, 35, none⟩)) rfl hHeld ?_
      simp only [Act.put, sA, sZ, sS]
      refine tkY 13 20 (.int .i64 (s : Int)) rfl (Or.inl ⟨by rfl, fun W hW => by have hc := D3.out W hW; go_simp⟩) hHeld ?_
      simp only [Act.put, sA, sZ, sS]
      refine tk 15 22 (.pointer (some ⟨w.heap.size, 36, none⟩)) rfl hHeld ?_
      simp only [Act.put, sA, sZ, sS]
      refine tkY 16 23 (.int .i64 (d : Int)) rfl (Or.inl ⟨by rfl, fun W hW => by have hc := D4.out W hW; go_simp⟩) hHeld ?_
      simp only [Act.put, sA, sZ, sS]
      refine wpAnyH_ready (rs := [1, 11, 14]) (by kernel_rfl) (by simp) (AllReadyH.cons (o := ⟨some 8, _, _, _, _, _⟩) rfl (fun K hK => ?_) (AllReadyH.cons (o := ⟨some 18, _, _, _, _, _⟩) rfl (fun K hK => ?_) (AllReadyH.cons (o := ⟨some 21, _, _, _, _, _⟩) rfl (fun K hK => ?_) AllReadyH.nil)))
      · go_simp
        have hb' : Below X0.heap.size X0 (X0.alloc (.cells #[.int .u8 6] 5)) := (Below.refl _ _).alloc (Nat.le_refl _) _
        have hr' : Rd (X0.alloc (.cells #[.int .u8 6] 5)) (X0.alloc (.cells #[.int .u8 6] 5)).heap.size (some ⟨X0.heap.size, 0, none⟩) 1 [6] := (Rd.one X0 (6)).more (by rw [World.size_alloc]; exact Nat.le_refl _)
        obtain ⟨X1, hX⟩ : ∃ X, X0.alloc (.cells #[.int .u8 6] 5) = X := ⟨_, rfl⟩
        rw [hX] at hb' hr' ⊢
        obtain ⟨A8, hA⟩ : ∃ A : Option Addr, some ⟨X0.heap.size, 0, none⟩ = A := ⟨_, rfl⟩
        rw [hA] at hr' ⊢
        clear hA hX
        have HR8 := Lib.hid hr'
        refine hK.out _ _ (hHeld.trans (hb'.mono hHeld.size)) (fun hHeld => ?_)
        clear hK K hr' hb'
        refine wpAnyH_ready (rs := [11, 14]) (by kernel_rfl) (by simp) (AllReadyH.cons (o := ⟨some 18, _, _, _, _, _⟩) rfl (fun K hK => ?_) (AllReadyH.cons (o := ⟨some 21, _, _, _, _, _⟩) rfl (fun K hK => ?_) AllReadyH.nil))
        · go_simp
          have hb' : Below X1.heap.size X1 (X1.alloc (.cells #[.int .u8 (y.toNat : Int)] 5)) := (Below.refl _ _).alloc (Nat.le_refl _) _
          have hr' : Rd (X1.alloc (.cells #[.int .u8 (y.toNat : Int)] 5)) (X1.alloc (.cells #[.int .u8 (y.toNat : Int)] 5)).heap.size (some ⟨X1.heap.size, 0, none⟩) 1 [y] := (Rd.one X1 (y)).more (by rw [World.size_alloc]; exact Nat.le_refl _)
          obtain ⟨X2, hX⟩ : ∃ X, X1.alloc (.cells #[.int .u8 (y.toNat : Int)] 5) = X := ⟨_, rfl⟩
          rw [hX] at hb' hr' ⊢
          obtain ⟨A18, hA⟩ : ∃ A : Option Addr, some ⟨X1.heap.size, 0, none⟩ = A := ⟨_, rfl⟩
          rw [hA] at hr' ⊢
          clear hA hX
          have HR8' := Lib.hid (HR8.out.next hb')
          clear HR8
          have HR8 := HR8'
          clear HR8'
          have HR18 := Lib.hid hr'
          refine hK.out _ _ (hHeld.trans (hb'.mono hHeld.size)) (fun hHeld => ?_)
          clear hK K hr' hb'
          refine wpAnyH_ready (rs := [14]) (by kernel_rfl) (by simp) (AllReadyH.cons (o := ⟨some 21, _, _, _, _, _⟩) rfl (fun K hK => ?_) AllReadyH.nil)
          go_simp
          refine (HP1.out X2).mono ?_
          rintro e X3 ⟨v, rfl, hov, hb'⟩
          obtain ⟨A21, m, c21, rfl, hm, hkk, hmm, hr'⟩ := hov.sl
          rw [HL1.out] at hm
          subst hm
          have HK21 := Lib.hid hkk
          have HM21 := Lib.hid hmm
          clear hov hkk hmm
          have HR8' := Lib.hid (HR8.out.next hb')
          clear HR8
          have HR8 := HR8'
          clear HR8'
          have HR18' := Lib.hid (HR18.out.next hb')
          clear HR18
          have HR18 := HR18'
          clear HR18'
          have HR21 := Lib.hid hr'
          refine hK.out _ _ (hHeld.trans (hb'.mono hHeld.size)) (fun hHeld => ?_)
          clear hK K hr' hb'
          refine wpAnyH_ready (rs := [17]) (by kernel_rfl) (by simp) (AllReadyH.cons (o := ⟨some 24, _, _, _, _, _⟩) rfl (fun K hK => ?_) AllReadyH.nil)
          go_simp
          refine (HP2.out X3).mono ?_
          rintro e X4 ⟨v, rfl, hov, hb'⟩
          obtain ⟨A24, m, c24, rfl, hm, hkk, hmm, hr'⟩ := hov.sl
          rw [HL2.out] at hm
          subst hm
          have HK24 := Lib.hid hkk
          have HM24 := Lib.hid hmm
          clear hov hkk hmm
          have HR8' := Lib.hid (HR8.out.next hb')
          clear HR8
          have HR8 := HR8'
          clear HR8'
          have HR18' := Lib.hid (HR18.out.next hb')
          clear HR18
          have HR18 := HR18'
          clear HR18'
          have HR21' := Lib.hid (HR21.out.next hb')
          clear HR21
          have HR21 := HR21'
          clear HR21'
          have HR24 := Lib.hid hr'
          refine hK.out _ _ (hHeld.trans (hb'.mono hHeld.size)) (fun hHeld => ?_)
          clear hK K hr' hb'
          exact hc X4 A8 A18 A21 A24 c21 c24 ⟨hHeld, HR8.out, HR18.out, HR21.out, HR24.out, HK21.out, HM21.out, HK24.out, HM24.out⟩
        · go_simp
          refine (HP1.out X1).mono ?_
          rintro e X2 ⟨v, rfl, hov, hb'⟩
          obtain ⟨A21, m, c21, rfl, hm, hkk, hmm, hr'⟩ := hov.sl
          rw [HL1.out] at hm
          subst hm
          have HK21 := Lib.hid hkk
          have HM21 := Lib.hid hmm
          clear hov hkk hmm
          have HR8' := Lib.hid (HR8.out.next hb')
          clear HR8
          have HR8 := HR8'
          clear HR8'
          have HR21 := Lib.hid hr'
          refine hK.out _ _ (hHeld.trans (hb'.mono hHeld.size)) (fun hHeld => ?_)
          clear hK K hr' hb'
          refine wpAnyH_ready (rs := [11, 17]) (by kernel_rfl) (by simp) (AllReadyH.cons (o := ⟨some 18, _, _, _, _, _⟩) rfl (fun K hK => ?_) (AllReadyH.cons (o := ⟨some 24, _, _, _, _, _⟩) rfl (fun K hK => ?_) AllReadyH.nil))
          · go_simp
            have hb' : Below X2.heap.size X2 (X2.alloc (.cells #[.int .u8 (y.toNat : Int)] 5)) := (Below.refl _ _).alloc (Nat.le_refl _) _
            have hr' : Rd (X2.alloc (.cells #[.int .u8 (y.toNat : Int)] 5)) (X2.alloc (.cells #[.int .u8 (y.toNat : Int)] 5)).heap.size (some ⟨X2.heap.size, 0, none⟩) 1 [y] := (Rd.one X2 (y)).more (by rw [World.size_alloc]; exact Nat.le_refl _)
            obtain ⟨X3, hX⟩ : ∃ X, X2.alloc (.cells #[.int .u8 (y.toNat : Int)] 5) = X := ⟨_, rfl⟩
            rw [hX] at hb' hr' ⊢
            obtain ⟨A18, hA⟩ : ∃ A : Option Addr, some ⟨X2.heap.size, 0, none⟩ = A := ⟨_, rfl⟩
            rw [hA] at hr' ⊢
            clear hA hX
            have HR8' := Lib.hid (HR8.out.next hb')
            clear HR8
            have HR8 := HR8'
            clear HR8'
            have HR21' := Lib.hid (HR21.out.next hb')
            clear HR21
            have HR21 := HR21'
            clear HR21'
            have HR18 := Lib.hid hr'
            refine hK.out _ _ (hHeld.trans (hb'.mono hHeld.size)) (fun hHeld => ?_)
            clear hK K hr' hb'
            refine wpAnyH_ready (rs := [17]) (by kernel_rfl) (by simp) (AllReadyH.cons (o := ⟨some 24, _, _, _, _, _⟩) rfl (fun K hK => ?_) AllReadyH.nil)
            go_simp
            refine (HP2.out X3).mono ?_
            rintro e X4 ⟨v, rfl, hov, hb'⟩
            obtain ⟨A24, m, c24, rfl, hm, hkk, hmm, hr'⟩ := hov.sl
            rw [HL2.out] at hm
            subst hm
            have HK24 := Lib.hid hkk
            have HM24 := Lib.hid hmm
            clear hov hkk hmm
            have HR8' := Lib.hid (HR8.out.next hb')
            clear HR8
            have HR8 := HR8'
            clear HR8'
            have HR21' := Lib.hid (HR21.out.next hb')
            clear HR21
            have HR21 := HR21'
            clear HR21'
            have HR18' := Lib.hid (HR18.out.next hb')
            clear HR18
            have HR18 := HR18'
            clear HR18'
            have HR24 := Lib.hid hr'
            refine hK.out _ _ (hHeld.trans (hb'.mono hHeld.size)) (fun hHeld => ?_)
            clear hK K hr' hb'
            exact hc X4 A8 A18 A21 A24 c21 c24 ⟨hHeld, HR8.out, HR18.out, HR21.out, HR24.out, HK21.out, HM21.out, HK24.out, HM24.out⟩
          · go_simp
            refine (HP2.out X2).mono ?_
            rintro e X3 ⟨v, rfl, hov, hb'⟩
            obtain ⟨A24, m, c24, rfl, hm, hkk, hmm, hr'⟩ := hov.sl
            rw [HL2.out] at hm
            subst hm
            have HK24 := Lib.hid hkk
            have HM24 := Lib.hid hmm
            clear hov hkk hmm
            have HR8' := Lib.hid (HR8.out.next hb')
            clear HR8
            have HR8 := HR8'
            clear HR8'
            have HR21' := Lib.hid (HR21.out.next hb')
            clear HR21
            have HR21 := HR21'
            clear HR21'
            have HR24 := Lib.hid hr'
            refine hK.out _ _ (hHeld.trans (hb'.mono hHeld.size)) (fun hHeld => ?_)
            clear hK K hr' hb'
            refine wpAnyH_ready (rs := [11]) (by kernel_rfl) (by simp) (AllReadyH.cons (o := ⟨some 18, _, _, _, _, _⟩) rfl (fun K hK => ?_) AllReadyH.nil)
            go_simp
            have hb' : Below X3.heap.size X3 (X3.alloc (.cells #[.int .u8 (y.toNat : Int)] 5)) := (Below.refl _ _).alloc (Nat.le_refl _) _
            have hr' : Rd (X3.alloc (.cells #[.int .u8 (y.toNat : Int)] 5)) (X3.alloc (.cells #[.int .u8 (y.toNat : Int)] 5)).heap.size (some ⟨X3.heap.size, 0, none⟩) 1 [y] := (Rd.one X3 (y)).more (by rw [World.size_alloc]; exact Nat.le_refl _)
            obtain ⟨X4, hX⟩ : ∃ X, X3.alloc (.cells #[.int .u8 (y.toNat : Int)] 5) = X := ⟨_, rfl⟩
            rw [hX] at hb' hr' ⊢
            obtain ⟨A18, hA⟩ : ∃ A : Option Addr, some ⟨X3.heap.size, 0, none⟩ = A := ⟨_, rfl⟩
            rw [hA] at hr' ⊢
            clear hA hX
            have HR8' := Lib.hid (HR8.out.next hb')
            clear HR8
            have HR8 := HR8'
            clear HR8'
            have HR21' := Lib.hid (HR21.out.next hb')
            clear HR21
            have HR21 := HR21'
            clear HR21'
            have HR24' := Lib.hid (HR24.out.next hb')
            clear HR24
            have HR24 := HR24'
            clear HR24'
            have HR18 := Lib.hid hr'
            refine hK.out _ _ (hHeld.trans (hb'.mono hHeld.size)) (fun hHeld => ?_)
            clear hK K hr' hb'
            exact hc X4 A8 A18 A21 A24 c21 c24 ⟨hHeld, HR8.out, HR18.out, HR21.out, HR24.out, HK21.out, HM21.out, HK24.out, HM24.out⟩
      · go_simp
        have hb' : Below X0.heap.size X0 (X0.alloc (.cells #[.int .u8 (y.toNat : Int)] 5)) := (Below.refl _ _).alloc (Nat.le_refl _) _
        have hr' : Rd (X0.alloc (.cells #[.int .u8 (y.toNat : Int)] 5)) (X0.alloc (.cells #[.int .u8 (y.toNat : Int)] 5)).heap.size (some ⟨X0.heap.size, 0, none⟩) 1 [y] := (Rd.one X0 (y)).more (by rw [World.size_alloc]; exact Nat.le_refl _)
        obtain ⟨X1, hX⟩ : ∃ X, X0.alloc (.cells #[.int .u8 (y.toNat : Int)] 5) = X := ⟨_, rfl⟩
        rw [hX] at hb' hr' ⊢
        obtain ⟨A18, hA⟩ : ∃ A : Option Addr, some ⟨X0.heap.size, 0, none⟩ = A := ⟨_, rfl⟩
        rw [hA] at hr' ⊢
        clear hA hX
        have HR18 := Lib.hid hr'
        refine hK.out _ _ (hHeld.trans (hb'.mono hHeld.size)) (fun hHeld => ?_)
        clear hK K hr' hb'
        refine wpAnyH_ready (rs := [1, 14]) (by kernel_rfl) (by simp) (AllReadyH.cons (o := ⟨some 8, _, _, _, _, _⟩) rfl (fun K hK => ?_) (AllReadyH.cons (o := ⟨some 21, _, _, _, _, _⟩) rfl (fun K hK => ?_) AllReadyH.nil))
        · go_simp
          have hb' : Below X1.heap.size X1 (X1.alloc (.cells #[.int .u8 6] 5)) := (Below.refl _ _).alloc (Nat.le_refl _) _
          have hr' : Rd (X1.alloc (.cells #[.int .u8 6] 5)) (X1.alloc (.cells #[.int .u8 6] 5)).heap.size (some ⟨X1.heap.size, 0, none⟩) 1 [6] := (Rd.one X1 (6)).more (by rw [World.size_alloc]; exact Nat.le_refl _)
          obtain ⟨X2, hX⟩ : ∃ X, X1.alloc (.cells #[.int .u8 6] 5) = X := ⟨_, rfl⟩
          rw [hX] at hb' hr' ⊢
          obtain ⟨A8, hA⟩ : ∃ A : Option Addr, some ⟨X1.heap.size, 0, none⟩ = A := ⟨_, rfl⟩
          rw [hA] at hr' ⊢
          clear hA hX
          have HR18' := Lib.hid (HR18.out.next hb')
          clear HR18
          have HR18 := HR18'
          clear HR18'
          have HR8 := Lib.hid hr'
          refine hK.out _ _ (hHeld.trans (hb'.mono hHeld.size)) (fun hHeld => ?_)
          clear hK K hr' hb'
          refine wpAnyH_ready (rs := [14]) (by kernel_rfl) (by simp) (AllReadyH.cons (o := ⟨some 21, _, _, _, _, _⟩) rfl (fun K hK => ?_) AllReadyH.nil)
          go_simp
          refine (HP1.out X2).mono ?_
          rintro e X3 ⟨v, rfl, hov, hb'⟩
          obtain ⟨A21, m, c21, rfl, hm, hkk, hmm, hr'⟩ := hov.sl
          rw [HL1.out] at hm
          subst hm
          have HK21 := Lib.hid hkk
          have HM21 := Lib.hid hmm
          clear hov hkk hmm
          have HR18' := Lib.hid (HR18.out.next hb')
          clear HR18
          have HR18 := HR18'
          clear HR18'
          have HR8' := Lib.hid (HR8.out.next hb')
          clear HR8
          have HR8 := HR8'
          clear HR8'
          have HR21 := Lib.hid hr'
          refine hK.out _ _ (hHeld.trans (hb'.mono hHeld.size)) (fun hHeld => ?_)
          clear hK K hr' hb'
          refine wpAnyH_ready (rs := [17]) (by kernel_rfl) (by simp) (AllReadyH.cons (o := ⟨some 24, _, _, _, _, _⟩) rfl (fun K hK => ?_) AllReadyH.nil)
          go_simp
          refine (HP2.out X3).mono ?_
          rintro e X4 ⟨v, rfl, hov, hb'⟩
          obtain ⟨A24, m, c24, rfl, hm, hkk, hmm, hr'⟩ := hov.sl
          rw [HL2.out] at hm
          subst hm
          have HK24 := Lib.hid hkk
          have HM24 := Lib.hid hmm
          clear hov hkk hmm
          have HR18' := Lib.hid (HR18.out.next hb')
          clear HR18
          have HR18 := HR18'
          clear HR18'
          have HR8' := Lib.hid (HR8.out.next hb')
          clear HR8
          have HR8 := HR8'
          clear HR8'
          have HR21' := Lib.hid (HR21.out.next hb')
          clear HR21
          have HR21 := HR21'
          clear HR21'
          have HR24 := Lib.hid hr'
          refine hK.out _ _ (hHeld.trans (hb'.mono hHeld.size)) (fun hHeld => ?_)
          clear hK K hr' hb'
          exact hc X4 A8 A18 A21 A24 c21 c24 ⟨hHeld, HR8.out, HR18.out, HR21.out, HR24.out, HK21.out, HM21.out, HK24.out, HM24.out⟩
        · go_simp
          refine (HP1.out X1).mono ?_
          rintro e X2 ⟨v, rfl, hov, hb'⟩
          obtain ⟨A21, m, c21, rfl, hm, hkk, hmm, hr'⟩ := hov.sl
          rw [HL1.out] at hm
          subst hm
          have HK21 := Lib.hid hkk
          have HM21 := Lib.hid hmm
          clear hov hkk hmm
          have HR18' := Lib.hid (HR18.out.next hb')
          clear HR18
          have HR18 := HR18'
          clear HR18'
          have HR21 := Lib.hid hr'
          refine hK.out _ _ (hHeld.trans (hb'.mono hHeld.size)) (fun hHeld => ?_)
          clear hK K hr' hb'
          refine wpAnyH_ready (rs := [1, 17]) (by kernel_rfl) (by simp) (AllReadyH.cons (o := ⟨some 8, _, _, _, _, _⟩) rfl (fun K hK => ?_) (AllReadyH.cons (o := ⟨some 24, _, _, _, _, _⟩) rfl (fun K hK => ?_) AllReadyH.nil))
          · go_simp
            have hb' : Below X2.heap.size X2 (X2.alloc (.cells #[.int .u8 6] 5)) := (Below.refl _ _).alloc (Nat.le_refl _) _
            have hr' : Rd (X2.alloc (.cells #[.int .u8 6] 5)) (X2.alloc (.cells #[.int .u8 6] 5)).heap.size (some ⟨X2.heap.size, 0, none⟩) 1 [6] := (Rd.one X2 (6)).more (by rw [World.size_alloc]; exact Nat.le_refl _)
            obtain ⟨X3, hX⟩ : ∃ X, X2.alloc (.cells #[.int .u8 6] 5) = X := ⟨_, rfl⟩
            rw [hX] at hb' hr' ⊢
            obtain ⟨A8, hA⟩ : ∃ A : Option Addr, some ⟨X2.heap.size, 0, none⟩ = A := ⟨_, rfl⟩
            rw [hA] at hr' ⊢
            clear hA hX
            have HR18' := Lib.hid (HR18.out.next hb')
            clear HR18
            have HR18 := HR18'
            clear HR18'
            have HR21' := Lib.hid (HR21.out.next hb')
            clear HR21
            have HR21 := HR21'
            clear HR21'
            have HR8 := Lib.hid hr'
            refine hK.out _ _ (hHeld.trans (hb'.mono hHeld.size)) (fun hHeld => ?_)
            clear hK K hr' hb'
            refine wpAnyH_ready (rs := [17]) (by kernel_rfl) (by simp) (AllReadyH.cons (o := ⟨some 24, _, _, _, _, _⟩) rfl (fun K hK => ?_) AllReadyH.nil)
            go_simp
            refine (HP2.out X3).mono ?_
            rintro e X4 ⟨v, rfl, hov, hb'⟩
            obtain ⟨A24, m, c24, rfl, hm, hkk, hmm, hr'⟩ := hov.sl
            rw [HL2.out] at hm
            subst hm
            have HK24 := Lib.hid hkk
            have HM24 := Lib.hid hmm
            clear hov hkk hmm
            have HR18' := Lib.hid (HR18.out.next hb')
            clear HR18
            have HR18 := HR18'
            clear HR18'
            have HR21' := Lib.hid (HR21.out.next hb')
            clear HR21
            have HR21 := HR21'
            clear HR21'
            have HR8' := Lib.hid (HR8.out.next hb')
            clear HR8
            have HR8 := HR8'
            clear HR8'
            have HR24 := Lib.hid hr'
            refine hK.out _ _ (hHeld.trans (hb'.mono hHeld.size)) (fun hHeld => ?_)
            clear hK K hr' hb'
            exact hc X4 A8 A18 A21 A24 c21 c24 ⟨hHeld, HR8.out, HR18.out, HR21.out, HR24.out, HK21.out, HM21.out, HK24.out, HM24.out⟩
          · go_simp
            refine (HP2.out X2).mono ?_
            rintro e X3 ⟨v, rfl, hov, hb'⟩
            obtain ⟨A24, m, c24, rfl, hm, hkk, hmm, hr'⟩ := hov.sl
            rw [HL2.out] at hm
            subst hm
            have HK24 := Lib.hid hkk
            have HM24 := Lib.hid hmm
            clear hov hkk hmm
            have HR18' := Lib.hid (HR18.out.next hb')
            clear HR18
            have HR18 := HR18'
            clear HR18'
            have HR21' := Lib.hid (HR21.out.next hb')
            clear HR21
            have HR21 := HR21'
            clear HR21'
            have HR24 := Lib.hid hr'
            refine hK.out _ _ (hHeld.trans (hb'.mono hHeld.size)) (fun hHeld => ?_)
            clear hK K hr' hb'
            refine wpAnyH_ready (rs := [1]) (by kernel_rfl) (by simp) (AllReadyH.cons (o := ⟨some 8, _, _, _, _, _⟩) rfl (fun K hK => ?_) AllReadyH.nil)
            go_simp
            have hb' : Below X3.heap.size X3 (X3.alloc (.cells #[.int .u8 6] 5)) := (Below.refl _ _).alloc (Nat.le_refl _) _
            have hr' : Rd (X3.alloc (.cells #[.int .u8 6] 5)) (X3.alloc (.cells #[.int .u8 6] 5)).heap.size (some ⟨X3.heap.size, 0, none⟩) 1 [6] := (Rd.one X3 (6)).more (by rw [World.size_alloc]; exact Nat.le_refl _)
            obtain ⟨X4, hX⟩ : ∃ X, X3.alloc (.cells #[.int .u8 6] 5) = X := ⟨_, rfl⟩
            rw [hX] at hb' hr' ⊢
            obtain ⟨A8, hA⟩ : ∃ A : Option Addr, some ⟨X3.heap.size, 0, none⟩ = A := ⟨_, rfl⟩
            rw [hA] at hr' ⊢
            clear hA hX
            have HR18' := Lib.hid (HR18.out.next hb')
            clear HR18
            have HR18 := HR18'
            clear HR18'
            have HR21' := Lib.hid (HR21.out.next hb')
            clear HR21
            have HR21 := HR21'
            clear HR21'
            have HR24' := Lib.hid (HR24.out.next hb')
            clear HR24
            have HR24 := HR24'
            clear HR24'
            have HR8 := Lib.hid hr'
            refine hK.out _ _ (hHeld.trans (hb'.mono hHeld.size)) (fun hHeld => ?_)
            clear hK K hr' hb'
            exact hc X4 A8 A18 A21 A24 c21 c24 ⟨hHeld, HR8.out, HR18.out, HR21.out, HR24.out, HK21.out, HM21.out, HK24.out, HM24.out⟩
      · go_simp
        refine (HP1.out X0).mono ?_
        rintro e X1 ⟨v, rfl, hov, hb'⟩
        obtain ⟨A21, m, c21, rfl, hm, hkk, hmm, hr'⟩ := hov.sl
        rw [HL1.out] at hm
        subst hm
        have HK21 := Lib.hid hkk
        have HM21 := Lib.hid hmm
        clear hov hkk hmm
        have HR21 := Lib.hid hr'
        refine hK.out _ _ (hHeld.trans (hb'.mono hHeld.size)) (fun hHeld => ?_)
        clear hK K hr' hb'
        refine wpAnyH_ready (rs := [1, 11, 17]) (by kernel_rfl) (by simp) (AllReadyH.cons (o := ⟨some 8, _, _, _, _, _⟩) rfl (fun K hK => ?_) (AllReadyH.cons (o := ⟨some 18, _, _, _, _, _⟩) rfl (fun K hK => ?_) (AllReadyH.cons (o := ⟨some 24, _, _, _, _, _⟩) rfl (fun K hK => ?_) AllReadyH.nil)))
        · go_simp
          have hb' : Below X1.heap.size X1 (X1.alloc (.cells #[.int .u8 6] 5)) := (Below.refl _ _).alloc (Nat.le_refl _) _
          have hr' : Rd (X1.alloc (.cells #[.int .u8 6] 5)) (X1.alloc (.cells #[.int .u8 6] 5)).heap.size (some ⟨X1.heap.size, 0, none⟩) 1 [6] := (Rd.one X1 (6)).more (by rw [World.size_alloc]; exact Nat.le_refl _)
          obtain ⟨X2, hX⟩ : ∃ X, X1.alloc (.cells #[.int .u8 6] 5) = X := ⟨_, rfl⟩
          rw [hX] at hb' hr' ⊢
          obtain ⟨A8, hA⟩ : ∃ A : Option Addr, some ⟨X1.heap.size, 0, none⟩ = A := ⟨_, rfl⟩
          rw [hA] at hr' ⊢
          clear hA hX
          have HR21' := Lib.hid (HR21.out.next hb')
          clear HR21
          have HR21 := HR21'
          clear HR21'
          have HR8 := Lib.hid hr'
          refine hK.out _ _ (hHeld.trans (hb'.mono hHeld.size)) (fun hHeld => ?_)
          clear hK K hr' hb'
          refine wpAnyH_ready (rs := [11, 17]) (by kernel_rfl) (by simp) (AllReadyH.cons (o := ⟨some 18, _, _, _, _, _⟩) rfl (fun K hK => ?_) (AllReadyH.cons (o := ⟨some 24, _, _, _, _, _⟩) rfl (fun K hK => ?_) AllReadyH.nil))
          · go_simp
            have hb' : Below X2.heap.size X2 (X2.alloc (.cells #[.int .u8 (y.toNat : Int)] 5)) := (Below.refl _ _).alloc (Nat.le_refl _) _
            have hr' : Rd (X2.alloc (.cells #[.int .u8 (y.toNat : Int)] 5)) (X2.alloc (.cells #[.int .u8 (y.toNat : Int)] 5)).heap.size (some ⟨X2.heap.size, 0, none⟩) 1 [y] := (Rd.one X2 (y)).more (by rw [World.size_alloc]; exact Nat.le_refl _)
            obtain ⟨X3, hX⟩ : ∃ X, X2.alloc (.cells #[.int .u8 (y.toNat : Int)] 5) = X := ⟨_, rfl⟩
            rw [hX] at hb' hr' ⊢
            obtain ⟨A18, hA⟩ : ∃ A : Option Addr, some ⟨X2.heap.size, 0, none⟩ = A := ⟨_, rfl⟩
            rw [hA] at hr' ⊢
            clear hA hX
            have HR21' := Lib.hid (HR21.out.next hb')
            clear HR21
            have HR21 := HR21'
            clear HR21'
            have HR8' := Lib.hid (HR8.out.next hb')
            clear HR8
            have HR8 := HR8'
            clear HR8'
            have HR18 := Lib.hid hr'
            refine hK.out _ _ (hHeld.trans (hb'.mono hHeld.size)) (fun hHeld => ?_)
            clear hK K hr' hb'
            refine wpAnyH_ready (rs := [17]) (by kernel_rfl) (by simp) (AllReadyH.cons (o := ⟨some 24, _, _, _, _, _⟩) rfl (fun K hK => ?_) AllReadyH.nil)
            go_simp
            refine (HP2.out X3).mono ?_
            rintro e X4 ⟨v, rfl, hov, hb'⟩
            obtain ⟨A24, m, c24, rfl, hm, hkk, hmm, hr'⟩ := hov.sl
            rw [HL2.out] at hm
            subst hm
            have HK24 := Lib.hid hkk
            have HM24 := Lib.hid hmm
            clear hov hkk hmm
            have HR21' := Lib.hid (HR21.out.next hb')
            clear HR21
            have HR21 := HR21'
            clear HR21'
            have HR8' := Lib.hid (HR8.out.next hb')
            clear HR8
            have HR8 := HR8'
            clear HR8'
            have HR18' := Lib.hid (HR18.out.next hb')
            clear HR18
            have HR18 := HR18'
            clear HR18'
            have HR24 := Lib.hid hr'
            refine hK.out _ _ (hHeld.trans (hb'.mono hHeld.size)) (fun hHeld => ?_)
            clear hK K hr' hb'
            exact hc X4 A8 A18 A21 A24 c21 c24 ⟨hHeld, HR8.out, HR18.out, HR21.out, HR24.out, HK21.out, HM21.out, HK24.out, HM24.out⟩
          · go_simp
            refine (HP2.out X2).mono ?_
            rintro e X3 ⟨v, rfl, hov, hb'⟩
            obtain ⟨A24, m, c24, rfl, hm, hkk, hmm, hr'⟩ := hov.sl
            rw [HL2.out] at hm
            subst hm
            have HK24 := Lib.hid hkk
            have HM24 := Lib.hid hmm
            clear hov hkk hmm
            have HR21' := Lib.hid (HR21.out.next hb')
            clear HR21
            have HR21 := HR21'
            clear HR21'
            have HR8' := Lib.hid (HR8.out.next hb')
            clear HR8
            have HR8 := HR8'
            clear HR8'
            have HR24 := Lib.hid hr'
            refine hK.out _ _ (hHeld.trans (hb'.mono hHeld.size)) (fun hHeld => ?_)
            clear hK K hr' hb'
            refine wpAnyH_ready (rs := [11]) (by kernel_rfl) (by simp) (AllReadyH.cons (o := ⟨some 18, _, _, _, _, _⟩) rfl (fun K hK => ?_) AllReadyH.nil)
            go_simp
            have hb' : Below X3.heap.size X3 (X3.alloc (.cells #[.int .u8 (y.toNat : Int)] 5)) := (Below.refl _ _).alloc (Nat.le_refl _) _
            have hr' : Rd (X3.alloc (.cells #[.int .u8 (y.toNat : Int)] 5)) (X3.alloc (.cells #[.int .u8 (y.toNat : Int)] 5)).heap.size (some ⟨X3.heap.size, 0, none⟩) 1 [y] := (Rd.one X3 (y)).more (by rw [World.size_alloc]; exact Nat.le_refl _)
            obtain ⟨X4, hX⟩ : ∃ X, X3.alloc (.cells #[.int .u8 (y.toNat : Int)] 5) = X := ⟨_, rfl⟩
            rw [hX] at hb' hr' ⊢
            obtain ⟨A18, hA⟩ : ∃ A : Option Addr, some ⟨X3.heap.size, 0, none⟩ = A := ⟨_, rfl⟩
            rw [hA] at hr' ⊢
            clear hA hX
            have HR21' := Lib.hid (HR21.out.next hb')
            clear HR21
            have HR21 := HR21'
            clear HR21'
            have HR8' := Lib.hid (HR8.out.next hb')
            clear HR8
            have HR8 := HR8'
            clear HR8'
            have HR24' := Lib.hid (HR24.out.next hb')
            clear HR24
            have HR24 := HR24'
            clear HR24'
            have HR18 := Lib.hid hr'
            refine hK.out _ _ (hHeld.trans (hb'.mono hHeld.size)) (fun hHeld => ?_)
            clear hK K hr' hb'
            exact hc X4 A8 A18 A21 A24 c21 c24 ⟨hHeld, HR8.out, HR18.out, HR21.out, HR24.out, HK21.out, HM21.out, HK24.out, HM24.out⟩
        · go_simp
          have hb' : Below X1.heap.size X1 (X1.alloc (.cells #[.int .u8 (y.toNat : Int)] 5)) := (Below.refl _ _).alloc (Nat.le_refl _) _
          have hr' : Rd (X1.alloc (.cells #[.int .u8 (y.toNat : Int)] 5)) (X1.alloc (.cells #[.int .u8 (y.toNat : Int)] 5)).heap.size (some ⟨X1.heap.size, 0, none⟩) 1 [y] := (Rd.one X1 (y)).more (by rw [World.size_alloc]; exact Nat.le_refl _)
          obtain ⟨X2, hX⟩ : ∃ X, X1.alloc (.cells #[.int .u8 (y.toNat : Int)] 5) = X := ⟨_, rfl⟩
          rw [hX] at hb' hr' ⊢
          obtain ⟨A18, hA⟩ : ∃ A : Option Addr, some ⟨X1.heap.size, 0, none⟩ = A := ⟨_, rfl⟩
          rw [hA] at hr' ⊢
          clear hA hX
          have HR21' := Lib.hid (HR21.out.next hb')
          clear HR21
          have HR21 := HR21'
          clear HR21'
          have HR18 := Lib.hid hr'
          refine hK.out _ _ (hHeld.trans (hb'.mono hHeld.size)) (fun hHeld => ?_)
          clear hK K hr' hb'
          refine wpAnyH_ready (rs := [1, 17]) (by kernel_rfl) (by simp) (AllReadyH.cons (o := ⟨some 8, _, _, _, _, _⟩) rfl (fun K hK => ?_) (AllReadyH.cons (o := ⟨some 24, _, _, _, _, _⟩) rfl (fun K hK => ?_) AllReadyH.nil))
          · go_simp
            have hb' : Below X2.heap.size X2 (X2.alloc (.cells #[.int .u8 6] 5)) := (Below.refl _ _).alloc (Nat.le_refl _) _
            have hr' : Rd (X2.alloc (.cells #[.int .u8 6] 5)) (X2.alloc (.cells #[.int .u8 6] 5)).heap.size (some ⟨X2.heap.size, 0, none⟩) 1 [6] := (Rd.one X2 (6)).more (by rw [World.size_alloc]; exact Nat.le_refl _)
            obtain ⟨X3, hX⟩ : ∃ X, X2.alloc (.cells #[.int .u8 6] 5) = X := ⟨_, rfl⟩
            rw [hX] at hb' hr' ⊢
            obtain ⟨A8, hA⟩ : ∃ A : Option Addr, some ⟨X2.heap.size, 0, none⟩ = A := ⟨_, rfl⟩
            rw [hA] at hr' ⊢
            clear hA hX
            have HR21' := Lib.hid (HR21.out.next hb')
            clear HR21
            have HR21 := HR21'
            clear HR21'
            have HR18' := Lib.hid (HR18.out.next hb')
            clear HR18
            have HR18 := HR18'
            clear HR18'
            have HR8 := Lib.hid hr'
            refine hK.out _ _ (hHeld.trans (hb'.mono hHeld.size)) (fun hHeld => ?_)
            clear hK K hr' hb'
            refine wpAnyH_ready (rs := [17]) (by kernel_rfl) (by simp) (AllReadyH.cons (o := ⟨some 24, _, _, _, _, _⟩) rfl (fun K hK => ?_) AllReadyH.nil)
            go_simp
            refine (HP2.out X3).mono ?_
            rintro e X4 ⟨v, rfl, hov, hb'⟩
            obtain ⟨A24, m, c24, rfl, hm, hkk, hmm, hr'⟩ := hov.sl
            rw [HL2.out] at hm
            subst hm
            have HK24 := Lib.hid hkk
            have HM24 := Lib.hid hmm
            clear hov hkk hmm
            have HR21' := Lib.hid (HR21.out.next hb')
            clear HR21
            have HR21 := HR21'
            clear HR21'
            have HR18' := Lib.hid (HR18.out.next hb')
            clear HR18
            have HR18 := HR18'
            clear HR18'
            have HR8' := Lib.hid (HR8.out.next hb')
            clear HR8
            have HR8 := HR8'
            clear HR8'
            have HR24 := Lib.hid hr'
            refine hK.out _ _ (hHeld.trans (hb'.mono hHeld.size)) (fun hHeld => ?_)
            clear hK K hr' hb'
            exact hc X4 A8 A18 A21 A24 c21 c24 ⟨hHeld, HR8.out, HR18.out, HR21.out, HR24.out, HK21.out, HM21.out, HK24.out, HM24.out⟩
          · go_simp
            refine (HP2.out X2).mono ?_
            rintro e X3 ⟨v, rfl, hov, hb'⟩
            obtain ⟨A24, m, c24, rfl, hm, hkk, hmm, hr'⟩ := hov.sl
            rw [HL2.out] at hm
            subst hm
            have HK24 := Lib.hid hkk
            have HM24 := Lib.hid hmm
            clear hov hkk hmm
            have HR21' := Lib.hid (HR21.out.next hb')
            clear HR21
            have HR21 := HR21'
            clear HR21'
            have HR18' := Lib.hid (HR18.out.next hb')
            clear HR18
            have HR18 := HR18'
            clear HR18'
            have HR24 := Lib.hid hr'
            refine hK.out _ _ (hHeld.trans (hb'.mono hHeld.size)) (fun hHeld => ?_)
            clear hK K hr' hb'
            refine wpAnyH_ready (rs := [1]) (by kernel_rfl) (by simp) (AllReadyH.cons (o := ⟨some 8, _, _, _, _, _⟩) rfl (fun K hK => ?_) AllReadyH.nil)
            go_simp
            have hb' : Below X3.heap.size X3 (X3.alloc (.cells #[.int .u8 6] 5)) := (Below.refl _ _).alloc (Nat.le_refl _) _
            have hr' : Rd (X3.alloc (.cells #[.int .u8 6] 5)) (X3.alloc (.cells #[.int .u8 6] 5)).heap.size (some ⟨X3.heap.size, 0, none⟩) 1 [6] := (Rd.one X3 (6)).more (by rw [World.size_alloc]; exact Nat.le_refl _)
            obtain ⟨X4, hX⟩ : ∃ X, X3.alloc (.cells #[.int .u8 6] 5) = X := ⟨_, rfl⟩
            rw [hX] at hb' hr' ⊢
            obtain ⟨A8, hA⟩ : ∃ A : Option Addr, some ⟨X3.heap.size, 0, none⟩ = A := ⟨_, rfl⟩
            rw [hA] at hr' ⊢
            clear hA hX
            have HR21' := Lib.hid (HR21.out.next hb')
            clear HR21
            have HR21 := HR21'
            clear HR21'
            have HR18' := Lib.hid (HR18.out.next hb')
            clear HR18
            have HR18 := HR18'
            clear HR18'
            have HR24' := Lib.hid (HR24.out.next hb')
            clear HR24
            have HR24 := HR24'
            clear HR24'
            have HR8 := Lib.hid hr'
            refine hK.out _ _ (hHeld.trans (hb'.mono hHeld.size)) (fun hHeld => ?_)
            clear hK K hr' hb'
            exact hc X4 A8 A18 A21 A24 c21 c24 ⟨hHeld, HR8.out, HR18.out, HR21.out, HR24.out, HK21.out, HM21.out, HK24.out, HM24.out⟩
        · go_simp
          refine (HP2.out X1).mono ?_
          rintro e X2 ⟨v, rfl, hov, hb'⟩
          obtain ⟨A24, m, c24, rfl, hm, hkk, hmm, hr'⟩ := hov.sl
          rw [HL2.out] at hm
          subst hm
          have HK24 := Lib.hid hkk
          have HM24 := Lib.hid hmm
          clear hov hkk hmm
          have HR21' := Lib.hid (HR21.out.next hb')
          clear HR21
          have HR21 := HR21'
          clear HR21'
          have HR24 := Lib.hid hr'
          refine hK.out _ _ (hHeld.trans (hb'.mono hHeld.size)) (fun hHeld => ?_)
          clear hK K hr' hb'
          refine wpAnyH_ready (rs := [1, 11]) (by kernel_rfl) (by simp) (AllReadyH.cons (o := ⟨some 8, _, _, _, _, _⟩) rfl (fun K hK => ?_) (AllReadyH.cons (o := ⟨some 18, _, _, _, _, _⟩) rfl (fun K hK => ?_) AllReadyH.nil))
          · go_simp
            have hb' : Below X2.heap.size X2 (X2.alloc (.cells #[.int .u8 6] 5)) := (Below.refl _ _).alloc (Nat.le_refl _) _
            have hr' : Rd (X2.alloc (.cells #[.int .u8 6] 5)) (X2.alloc (.cells #[.int .u8 6] 5)).heap.size (some ⟨X2.heap.size, 0, none⟩) 1 [6] := (Rd.one X2 (6)).more (by rw [World.size_alloc]; exact Nat.le_refl _)
            obtain ⟨X3, hX⟩ : ∃ X, X2.alloc (.cells #[.int .u8 6] 5) = X := ⟨_, rfl⟩
            rw [hX] at hb' hr' ⊢
            obtain ⟨A8, hA⟩ : ∃ A : Option Addr, some ⟨X2.heap.size, 0, none⟩ = A := ⟨_, rfl⟩
            rw [hA] at hr' ⊢
            clear hA hX
            have HR21' := Lib.hid (HR21.out.next hb')
            clear HR21
            have HR21 := HR21'
            clear HR21'
            have HR24' := Lib.hid (HR24.out.next hb')
            clear HR24
            have HR24 := HR24'
            clear HR24'
            have HR8 := Lib.hid hr'
            refine hK.out _ _ (hHeld.trans (hb'.mono hHeld.size)) (fun hHeld => ?_)
            clear hK K hr' hb'
            refine wpAnyH_ready (rs := [11]) (by kernel_rfl) (by simp) (AllReadyH.cons (o := ⟨some 18, _, _, _, _, _⟩) rfl (fun K hK => ?_) AllReadyH.nil)
            go_simp
            have hb' : Below X3.heap.size X3 (X3.alloc (.cells #[.int .u8 (y.toNat : Int)] 5)) := (Below.refl _ _).alloc (Nat.le_refl _) _
            have hr' : Rd (X3.alloc (.cells #[.int .u8 (y.toNat : Int)] 5)) (X3.alloc (.cells #[.int .u8 (y.toNat : Int)] 5)).heap.size (some ⟨X3.heap.size, 0, none⟩) 1 [y] := (Rd.one X3 (y)).more (by rw [World.size_alloc]; exact Nat.le_refl _)
            obtain ⟨X4, hX⟩ : ∃ X, X3.alloc (.cells #[.int .u8 (y.toNat : Int)] 5) = X := ⟨_, rfl⟩
            rw [hX] at hb' hr' ⊢
            obtain ⟨A18, hA⟩ : ∃ A : Option Addr, some ⟨X3.heap.size, 0, none⟩ = A := ⟨_, rfl⟩
            rw [hA] at hr' ⊢
            clear hA hX
            have HR21' := Lib.hid (HR21.out.next hb')
            clear HR21
            have HR21 := HR21'
            clear HR21'
            have HR24' := Lib.hid (HR24.out.next hb')
            clear HR24
            have HR24 := HR24'
            clear HR24'
            have HR8' := Lib.hid (HR8.out.next hb')
            clear HR8
            have HR8 := HR8'
            clear HR8'
            have HR18 := Lib.hid hr'
            refine hK.out _ _ (hHeld.trans (hb'.mono hHeld.size)) (fun hHeld => ?_)
            clear hK K hr' hb'
            exact hc X4 A8 A18 A21 A24 c21 c24 ⟨hHeld, HR8.out, HR18.out, HR21.out, HR24.out, HK21.out, HM21.out, HK24.out, HM24.out⟩
          · go_simp
            have hb' : Below X2.heap.size X2 (X2.alloc (.cells #[.int .u8 (y.toNat : Int)] 5)) := (Below.refl _ _).alloc (Nat.le_refl _) _
            have hr' : Rd (X2.alloc (.cells #[.int .u8 (y.toNat : Int)] 5)) (X2.alloc (.cells #[.int .u8 (y.toNat : Int)] 5)).heap.size (some ⟨X2.heap.size, 0, none⟩) 1 [y] := (Rd.one X2 (y)).more (by rw [World.size_alloc]; exact Nat.le_refl _)
            obtain ⟨X3, hX⟩ : ∃ X, X2.alloc (.cells #[.int .u8 (y.toNat : Int)] 5) = X := ⟨_, rfl⟩
            rw [hX] at hb' hr' ⊢
            obtain ⟨A18, hA⟩ : ∃ A : Option Addr, some ⟨X2.heap.size, 0, none⟩ = A := ⟨_, rfl⟩
            rw [hA] at hr' ⊢
            clear hA hX
            have HR21' := Lib.hid (HR21.out.next hb')
            clear HR21
            have HR21 := HR21'
            clear HR21'
            have HR24' := Lib.hid (HR24.out.next hb')
            clear HR24
            have HR24 := HR24'
            clear HR24'
            have HR18 := Lib.hid hr'
            refine hK.out _ _ (hHeld.trans (hb'.mono hHeld.size)) (fun hHeld => ?_)
            clear hK K hr' hb'
            refine wpAnyH_ready (rs := [1]) (by kernel_rfl) (by simp) (AllReadyH.cons (o := ⟨some 8, _, _, _, _, _⟩) rfl (fun K hK => ?_) AllReadyH.nil)
            go_simp
            have hb' : Below X3.heap.size X3 (X3.alloc (.cells #[.int .u8 6] 5)) := (Below.refl _ _).alloc (Nat.le_refl _) _
            have hr' : Rd (X3.alloc (.cells #[.int .u8 6] 5)) (X3.alloc (.cells #[.int .u8 6] 5)).heap.size (some ⟨X3.heap.size, 0, none⟩) 1 [6] := (Rd.one X3 (6)).more (by rw [World.size_alloc]; exact Nat.le_refl _)
            obtain ⟨X4, hX⟩ : ∃ X, X3.alloc (.cells #[.int .u8 6] 5) = X := ⟨_, rfl⟩
            rw [hX] at hb' hr' ⊢
            obtain ⟨A8, hA⟩ : ∃ A : Option Addr, some ⟨X3.heap.size, 0, none⟩ = A := ⟨_, rfl⟩
            rw [hA] at hr' ⊢
            clear hA hX
            have HR21' := Lib.hid (HR21.out.next hb')
            clear HR21
            have HR21 := HR21'
            clear HR21'
            have HR24' := Lib.hid (HR24.out.next hb')
            clear HR24
            have HR24 := HR24'
            clear HR24'
            have HR18' := Lib.hid (HR18.out.next hb')
            clear HR18
            have HR18 := HR18'
            clear HR18'
            have HR8 := Lib.hid hr'
            refine hK.out _ _ (hHeld.trans (hb'.mono hHeld.size)) (fun hHeld => ?_)
            clear hK K hr' hb'
            exact hc X4 A8 A18 A21 A24 c21 c24 ⟨hHeld, HR8.out, HR18.out, HR21.out, HR24.out, HK21.out, HM21.out, HK24.out, HM24.out⟩
    case h2 =>
      intro W A8 A18 A21 A24 c21 c24 hh
      have HH := Lib.hid hh
      have hHeld := hh.bel
      clear hh
      refine wpAnyH_ready (rs := [18]) (by kernel_rfl) (by simp) (AllReadyH.cons (o := ⟨some 25, _, _, _, _, _⟩) rfl (fun K hK => ?_) AllReadyH.nil)
      go_simp
      have HBW : Hid (Blk W 26 w.heap.size (tuL t)) := Lib.hid (Blk_10.below HB.out HG.out HH.out.bel)
      have HCC := Lib.hid (concat_six W HH.out.r8 (tu_srcR HBW.out HOK.out) (tu_dstR HBW.out HOK.out) HH.out.r18 HH.out.r21 HH.out.r24 HH.out.k21 HH.out.m21 HH.out.k24 HH.out.m24)
      rw [← HT.out] at HCC
      refine hK.out _ _ (hHeld.alloc hHeld.size _) (fun hHeld => ?_)
      clear hK K
      refine wpAnyH_ready (rs := [19]) (by kernel_rfl) (by simp) (AllReadyH.cons (o := ⟨some 26, _, _, _, _, _⟩) rfl (fun K hK => ?_) AllReadyH.nil)
      go_simp
      refine HCC.out.mono ?_
      rintro e W9 ⟨v, rfl, hov, hb9⟩
      have HB9 := Lib.hid (HH.out.bel.trans (hb9.mono HH.out.bel.size))
      have HOV := Lib.hid (hov.base_le (Nat.le_trans (by rw [HYS.out]; exact Nat.le_succ _) HH.out.bel.size))
      clear hov hb9
      refine hK.out _ _ HB9.out (fun hHeld => ?_)
      clear hK K
      refine tk 20 2 v rfl hHeld ?_
      simp only [Act.put, sA, sZ, sS]
      refine wpAnyH_done (by kernel_rfl) ?_ _
      clear hHeld
      go_wp2_with fail
      go_ret
      exact ⟨v, rfl, HOV.out, HBel.out.trans (HB9.out.mono (by rw [HYS.out]; exact Nat.le_succ _))⟩
end Go.Proofs.Ytfbiinipiklkaaa
namespace Go.Proofs.Ytfbiinipiklkaaa
set_option maxRecDepth 100000
open Go.RowKit Go.Lib

set_option maxHeartbeats 8000000 in
theorem phash_any (key : List UInt8) (hk : key.length = 16) {t : Tu} (ho : t.Ok) (hf : t.Fit) (w : World) : Calls Try.prog 70 #[keyC key, tuC t] w fun e w' => e = .returned (.int .u64 (hashW key (tuB t) : Nat)) ∧ Below w.heap.size w w' := by
  have HKL := Lib.hid hk
  have HOK := Lib.hid ho
  obtain ⟨C0, hC0⟩ : ∃ C, (key.map v8).toArray = C := ⟨_, rfl⟩
  obtain ⟨C1, hC1⟩ : ∃ C, (tuL t).toArray = C := ⟨_, rfl⟩
  obtain ⟨Y, hY⟩ : ∃ Y, (w.alloc (.cells C0 22)).alloc (.cells C1 26) = Y := ⟨_, rfl⟩
  have HK4 := Lib.hid (show Blk Y 22 w.heap.size (key.map v8) by rw [← hY, ← hC0]; exact Blk_10.alloc (Blk_10.new w _ _) _)
  have HT4 := Lib.hid (show Blk Y 26 (w.heap.size + 1) (tuL t) by
    rw [← hY, ← hC1]
    have := Blk_10.new (w.alloc (.cells C0 22)) 26 (tuL t)
    rwa [World.size_alloc] at this)
  have HB0 := Lib.hid (show Below w.heap.size w Y by rw [← hY]; exact ((Below.refl w.heap.size w).alloc (Nat.le_refl _) _).alloc (by simp) _)
  have HS0 := Lib.hid (show w.heap.size ≤ Y.heap.size by rw [← hY, World.size_alloc, World.size_alloc]; exact Nat.le_succ_of_le (Nat.le_succ _))
  have HY := Lib.hid hY
  have HBY := Lib.hid (fun W => pbytes_any ho hf W)
  have HL := Lib.hid (tuB_len ho)
  have HOF := Lib.hid (fun (A : Option Addr) (W : World) (l : List (List UInt8)) (hl : l.flatten = tuB t) (hI : LsAt W W.heap.size A 1 l) => (by
    have h := pof_any key hk A 1 1 l (by omega) (by rw [hl, HL.out]; omega) W W.heap.size hI (Nat.le_refl _)
    rwa [hl] at h : Calls Try.prog 84 #[keyC key, .slice A 1 1] W fun e w' => e = .returned (.int .u64 (hashW key (tuB t) : Nat)) ∧ Below W.heap.size W w'))
  obtain ⟨H, hH⟩ : ∃ H, hashW key (tuB t) = H := ⟨_, rfl⟩
  rw [hH] at HOF ⊢
  obtain ⟨K0, hK0⟩ : ∃ K, keyC key = K := ⟨_, rfl⟩
  obtain ⟨T0, hT0⟩ : ∃ K, tuC t = K := ⟨_, rfl⟩
  have HKC := Lib.hid hK0
  have HTC := Lib.hid hT0
  have hk0 : keyC key = .agg C0 := by unfold keyC; rw [hC0]
  have ht0 : tuC t = .agg C1 := by unfold tuC; rw [hC1]
  rw [hk0, ht0]
  clear hH hC0 hC1 hY hK0 hT0 hk0 ht0 hk ho hf
  go_enter Try.func70, Try.ntmps70
  go_wp2_with fail
  rw [HY.out]
  refine wp_region_held_drew (S := fun W => Below Y.heap.size Y W) (by kernel_rfl) ((Below.refl Y.heap.size Y).drew) (fun hHeld => ?_)
  obtain ⟨X0, hX0⟩ : ∃ X, Y.drew = X := ⟨_, rfl⟩
  rw [hX0] at hHeld ⊢
  clear hX0
  refine tkY 0 5 (keyC key) rfl (yields_key (by rfl) _ rfl w.heap.size rfl key HKL.out (fun W hW => Blk_10.below HK4.out (Blk_10.lt HK4.out) hW)) hHeld ?_
  simp only [Act.put, sA, sZ, sS]
  refine tkY 1 6 (tuC t) rfl (yields_tu (by rfl) _ rfl (w.heap.size + 1) rfl t HOK.out (fun W hW => Blk_10.below HT4.out (Blk_10.lt HT4.out) hW)) hHeld ?_
  simp only [Act.put, sA, sZ, sS]
  refine wpAnyH_ready (rs := [2]) (by kernel_rfl) (by simp) (AllReadyH.cons (o := ⟨some 7, _, _, _, _, _⟩) rfl (fun K hK => ?_) AllReadyH.nil)
  go_simp
  refine (HBY.out X0).mono ?_
  rintro e W1 ⟨v, rfl, hov, hb1⟩
  obtain ⟨A1, m1, c1, rfl, hm1, hc1, hx1, hr1⟩ := hov.sl
  have HR1 := Lib.hid hr1
  have HC1 := Lib.hid hc1
  have HX1 := Lib.hid hx1
  have HB1 := Lib.hid (hHeld.trans (hb1.mono hHeld.size))
  clear hov hb1 hr1 hc1 hx1 hm1
  refine hK.out _ _ HB1.out (fun hHeld => ?_)
  clear hK K
  refine wpAnyH_ready (rs := [3]) (by kernel_rfl) (by simp) (AllReadyH.cons (o := ⟨some 8, _, _, _, _, _⟩) rfl (fun K hK => ?_) AllReadyH.nil)
  go_simp
  have HLS := Lib.hid ((CellsAt.one HR1.out HC1.out HX1.out).laid (Nat.le_refl _) 1 rfl)
  have HB2 := Lib.hid (HB1.out.alloc HB1.out.size (.cells #[.slice A1 m1 c1] 72))
  have HOF2 := Lib.hid (HOF.out (some ⟨W1.heap.size, 0, none⟩) (W1.alloc (.cells #[.slice A1 m1 c1] 72)) [tuB t] (flat_one _) (by rw [World.size_alloc]; exact HLS.out))
  refine hK.out _ _ HB2.out (fun hHeld => ?_)
  clear hK K
  refine wpAnyH_ready (rs := [4]) (by kernel_rfl) (by simp) (AllReadyH.cons (o := ⟨some 9, _, _, _, _, _⟩) rfl (fun K hK => ?_) AllReadyH.nil)
  go_simp
  refine HOF2.out.mono ?_
  rintro e W3 ⟨rfl, hb3⟩
  have HB3 := Lib.hid (HB2.out.trans (hb3.mono HB2.out.size))
  clear hb3
  refine hK.out _ _ HB3.out (fun hHeld => ?_)
  clear hK K
  refine tk 5 4 (.int .u64 (H : Int)) rfl hHeld ?_
  simp only [Act.put, sA, sZ, sS]
  refine wpAnyH_done (by kernel_rfl) ?_ _
  clear hHeld
  go_wp2_with fail
  go_ret
  exact ⟨rfl, HB0.out.trans (HB3.out.mono HS0.out)⟩
end Go.Proofs.Ytfbiinipiklkaaa
