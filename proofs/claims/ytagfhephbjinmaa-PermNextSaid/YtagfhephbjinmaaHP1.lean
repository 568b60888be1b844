/-
  The program's round: bits.RotateLeft64 at each number of places, (*words).round on a block known whole.
-/
import Derived.Test.YtagfhephbjinmaaHROf
import Derived.Test.YtagfhephbjinmaaGBlk
import Derived.Test.YtagfhephbjinmaaTK
import Derived.Deep.DeepCutAuto
import Derived.Deep.RegionLaw
namespace Go.Proofs.Ytagfhephbjinmaa
set_option maxRecDepth 100000
open Go.RowKit Go.Lib

theorem and63_13 : bits .and .u64 13 63 = 13 := by decide
set_option maxHeartbeats 1000000 in
theorem rotl_13 (n : Nat) (hn : n < 18446744073709551616) (w : World) : Calls Try.prog 43 #[.int .u64 (n : Int), .int .i64 13] w fun e w' => e = .returned (.int .u64 (rotW n 13 : Nat)) ∧ w = w' := by
  have H := Lib.hid (rot_13 hn)
  have ha := and63_13
  clear hn
  go_enter Try.func43, Try.ntmps43
  go_wp2_with fail
  go_ret
  rw [H.out]
  exact ⟨rfl, rfl⟩
theorem and63_16 : bits .and .u64 16 63 = 16 := by decide
set_option maxHeartbeats 1000000 in
theorem rotl_16 (n : Nat) (hn : n < 18446744073709551616) (w : World) : Calls Try.prog 43 #[.int .u64 (n : Int), .int .i64 16] w fun e w' => e = .returned (.int .u64 (rotW n 16 : Nat)) ∧ w = w' := by
  have H := Lib.hid (rot_16 hn)
  have ha := and63_16
  clear hn
  go_enter Try.func43, Try.ntmps43
  go_wp2_with fail
  go_ret
  rw [H.out]
  exact ⟨rfl, rfl⟩
theorem and63_17 : bits .and .u64 17 63 = 17 := by decide
set_option maxHeartbeats 1000000 in
theorem rotl_17 (n : Nat) (hn : n < 18446744073709551616) (w : World) : Calls Try.prog 43 #[.int .u64 (n : Int), .int .i64 17] w fun e w' => e = .returned (.int .u64 (rotW n 17 : Nat)) ∧ w = w' := by
  have H := Lib.hid (rot_17 hn)
  have ha := and63_17
  clear hn
  go_enter Try.func43, Try.ntmps43
  go_wp2_with fail
  go_ret
  rw [H.out]
  exact ⟨rfl, rfl⟩
theorem and63_21 : bits .and .u64 21 63 = 21 := by decide
set_option maxHeartbeats 1000000 in
theorem rotl_21 (n : Nat) (hn : n < 18446744073709551616) (w : World) : Calls Try.prog 43 #[.int .u64 (n : Int), .int .i64 21] w fun e w' => e = .returned (.int .u64 (rotW n 21 : Nat)) ∧ w = w' := by
  have H := Lib.hid (rot_21 hn)
  have ha := and63_21
  clear hn
  go_enter Try.func43, Try.ntmps43
  go_wp2_with fail
  go_ret
  rw [H.out]
  exact ⟨rfl, rfl⟩
theorem and63_32 : bits .and .u64 32 63 = 32 := by decide
set_option maxHeartbeats 1000000 in
theorem rotl_32 (n : Nat) (hn : n < 18446744073709551616) (w : World) : Calls Try.prog 43 #[.int .u64 (n : Int), .int .i64 32] w fun e w' => e = .returned (.int .u64 (rotW n 32 : Nat)) ∧ w = w' := by
  have H := Lib.hid (rot_32 hn)
  have ha := and63_32
  clear hn
  go_enter Try.func43, Try.ntmps43
  go_wp2_with fail
  go_ret
  rw [H.out]
  exact ⟨rfl, rfl⟩
/-- A block of four words, grown from w0 there alone. -/
def WB (w0 : World) (g : Nat) (cs : List Value) (W : World) : Prop := Blk W 53 g cs ∧ w0.grownBy W (some g)
theorem WB.drew {w0 W : World} {g : Nat} {cs : List Value} (h : WB w0 g cs W) : WB w0 g cs W.drew := ⟨h.1, gb_drew h.2⟩
theorem WB.st {w0 W W' : World} {g : Nat} {cs ds : List Value} (h : WB w0 g cs W) (hb : Blk W' 53 g ds) (hg : W.grownBy W' (some g)) : WB w0 g ds W' := ⟨hb, gb_trans h.2 hg⟩
/-- Several orders that end alike. -/
theorem cut_h {goal G : Prop} (h1 : G → goal) (h2 : G) : goal := h1 h2
theorem size1_u64 : (Try.prog.info? 40).map (·.size) = some 1 := by kernel_rfl
set_option maxHeartbeats 8000000 in
theorem round_any {v : V4} (h : v.Ok) (g : Nat) (w : World) (hb : Blk w 53 g (v4L v)) : Calls Try.prog 41 #[.pointer (some ⟨g, 0, none⟩)] w fun e w' => (∃ u, e = .returned u) ∧ WB w g (v4L (rnd v)) w' := by
  obtain ⟨a, b, c, d⟩ := v
  obtain ⟨la, lb, lc, ld⟩ := h
  simp only at la lb lc ld
  unfold v4L at hb
  simp only at hb
  obtain ⟨V, hV⟩ : ∃ V, rnd ⟨a, b, c, d⟩ = V := ⟨_, rfl⟩
  have HV := Lib.hid hV
  rw [hV]
  unfold rnd at hV
  simp only at hV
  obtain ⟨a1, ea1⟩ : ∃ x, addW a b = x := ⟨_, rfl⟩
  have Fa1 := add64 a b
  have la1 := addW_lt a b
  rw [ea1] at Fa1 la1 hV
  clear ea1
  obtain ⟨r1, er1⟩ : ∃ x, rotW b 13 = x := ⟨_, rfl⟩
  have Fr1 := fun W => rotl_13 b lb W
  have lr1 := rotW_lt lb 13
  rw [er1] at Fr1 lr1 hV
  clear er1
  have Gr1 := Lib.hid Fr1
  clear Fr1
  obtain ⟨b1, eb1⟩ : ∃ x, r1 ^^^ a1 = x := ⟨_, rfl⟩
  have Fb1 := xor64 lr1 la1
  have lb1 := xorW_lt lr1 la1
  rw [eb1] at Fb1 lb1 hV
  clear eb1
  obtain ⟨a2, ea2⟩ : ∃ x, rotW a1 32 = x := ⟨_, rfl⟩
  have Fa2 := fun W => rotl_32 a1 la1 W
  have la2 := rotW_lt la1 32
  rw [ea2] at Fa2 la2 hV
  clear ea2
  have Ga2 := Lib.hid Fa2
  clear Fa2
  obtain ⟨c1, ec1⟩ : ∃ x, addW c d = x := ⟨_, rfl⟩
  have Fc1 := add64 c d
  have lc1 := addW_lt c d
  rw [ec1] at Fc1 lc1 hV
  clear ec1
  obtain ⟨r2, er2⟩ : ∃ x, rotW d 16 = x := ⟨_, rfl⟩
  have Fr2 := fun W => rotl_16 d ld W
  have lr2 := rotW_lt ld 16
  rw [er2] at Fr2 lr2 hV
  clear er2
  have Gr2 := Lib.hid Fr2
  clear Fr2
  obtain ⟨d1, ed1⟩ : ∃ x, r2 ^^^ c1 = x := ⟨_, rfl⟩
  have Fd1 := xor64 lr2 lc1
  have ld1 := xorW_lt lr2 lc1
  rw [ed1] at Fd1 ld1 hV
  clear ed1
  obtain ⟨a3, ea3⟩ : ∃ x, addW a2 d1 = x := ⟨_, rfl⟩
  have Fa3 := add64 a2 d1
  have la3 := addW_lt a2 d1
  rw [ea3] at Fa3 la3 hV
  clear ea3
  obtain ⟨r3, er3⟩ : ∃ x, rotW d1 21 = x := ⟨_, rfl⟩
  have Fr3 := fun W => rotl_21 d1 ld1 W
  have lr3 := rotW_lt ld1 21
  rw [er3] at Fr3 lr3 hV
  clear er3
  have Gr3 := Lib.hid Fr3
  clear Fr3
  obtain ⟨d2, ed2⟩ : ∃ x, r3 ^^^ a3 = x := ⟨_, rfl⟩
  have Fd2 := xor64 lr3 la3
  have ld2 := xorW_lt lr3 la3
  rw [ed2] at Fd2 ld2 hV
  clear ed2
  obtain ⟨c2, ec2⟩ : ∃ x, addW c1 b1 = x := ⟨_, rfl⟩
  have Fc2 := add64 c1 b1
  have lc2 := addW_lt c1 b1
  rw [ec2] at Fc2 lc2 hV
  clear ec2
  obtain ⟨r4, er4⟩ : ∃ x, rotW b1 17 = x := ⟨_, rfl⟩
  have Fr4 := fun W => rotl_17 b1 lb1 W
  have lr4 := rotW_lt lb1 17
  rw [er4] at Fr4 lr4 hV
  clear er4
  have Gr4 := Lib.hid Fr4
  clear Fr4
  obtain ⟨b2, eb2⟩ : ∃ x, r4 ^^^ c2 = x := ⟨_, rfl⟩
  have Fb2 := xor64 lr4 lc2
  have lb2 := xorW_lt lr4 lc2
  rw [eb2] at Fb2 lb2 hV
  clear eb2
  obtain ⟨c3, ec3⟩ : ∃ x, rotW c2 32 = x := ⟨_, rfl⟩
  have Fc3 := fun W => rotl_32 c2 lc2 W
  have lc3 := rotW_lt lc2 32
  rw [ec3] at Fc3 lc3 hV
  clear ec3
  have Gc3 := Lib.hid Fc3
  clear Fc3
  subst hV
  clear la1 lr1 lb1 la2 lc1 lr2 ld1 la3 lr3 ld2 lc2 lr4 lb2 lc3 la lb lc ld HV
  have HS : Hid (WB w g [.int .u64 (a : Int), .int .u64 (b : Int), .int .u64 (c : Int), .int .u64 (d : Int)] w) := Lib.hid ⟨hb, World.grownBy.refl w _⟩
  clear hb
  have HFa1 := Lib.hid Fa1
  clear Fa1
  have HFa3 := Lib.hid Fa3
  clear Fa3
  have HFb1 := Lib.hid Fb1
  clear Fb1
  have HFb2 := Lib.hid Fb2
  clear Fb2
  have HFc1 := Lib.hid Fc1
  clear Fc1
  have HFc2 := Lib.hid Fc2
  clear Fc2
  have HFd1 := Lib.hid Fd1
  clear Fd1
  have HFd2 := Lib.hid Fd2
  clear Fd2
  go_enter Try.func41, Try.ntmps41
  have k0 : w.cell? ⟨g, 0, none⟩ = some (.int .u64 (a : Int)) := Blk_10.cell HS.out.1 rfl
  have k1 : w.cell? ⟨g, 1, none⟩ = some (.int .u64 (b : Int)) := Blk_10.cell HS.out.1 rfl
  have k2 : w.cell? ⟨g, 2, none⟩ = some (.int .u64 (c : Int)) := Blk_10.cell HS.out.1 rfl
  have k3 : w.cell? ⟨g, 3, none⟩ = some (.int .u64 (d : Int)) := Blk_10.cell HS.out.1 rfl
  have Fa1 := HFa1.out
  have kf : w.frozen? ⟨g, 0, none⟩ = false := Blk_10.frozen HS.out.1 0
  go_wp2_with fail
  go_region
  have HS0 : Hid (WB w g [.int .u64 (a1 : Int), .int .u64 (b : Int), .int .u64 (c : Int), .int .u64 (d : Int)] (w.setCell ⟨g, 0, none⟩ (.int .u64 (a1 : Int))).drew) := Lib.hid (HS.out.st (Blk_10.set HS.out.1 0 _) (gb_setCell _ g 0 _)).drew
  generalize (w.setCell ⟨g, 0, none⟩ (.int .u64 (a1 : Int))).drew = W0 at HS0 ⊢
  clear kf
  clear k0 k1 k2 k3 HS Fa1
  have HS := HS0
  clear HS0
  have k0 : W0.cell? ⟨g, 0, none⟩ = some (.int .u64 (a1 : Int)) := Blk_10.cell HS.out.1 rfl
  have k1 : W0.cell? ⟨g, 1, none⟩ = some (.int .u64 (b : Int)) := Blk_10.cell HS.out.1 rfl
  have k2 : W0.cell? ⟨g, 2, none⟩ = some (.int .u64 (c : Int)) := Blk_10.cell HS.out.1 rfl
  have k3 : W0.cell? ⟨g, 3, none⟩ = some (.int .u64 (d : Int)) := Blk_10.cell HS.out.1 rfl
  have Fb1 := HFb1.out
  have kf : W0.frozen? ⟨g, 1, none⟩ = false := Blk_10.frozen HS.out.1 1
  go_wp2_with fail
  apply cut_h
  case h1 =>
    intro hc
    go_region_law (rw [if_pos (by rfl)]; go_simp; with_reducible refine (Gr1.out _).mono ?_; rintro e w' ⟨rfl, rfl⟩)
    all_goals exact hc
  have HS1 : Hid (WB w g [.int .u64 (a1 : Int), .int .u64 (b1 : Int), .int .u64 (c : Int), .int .u64 (d : Int)] (W0.setCell ⟨g, 1, none⟩ (.int .u64 (b1 : Int))).drew) := Lib.hid (HS.out.st (Blk_10.set HS.out.1 1 _) (gb_setCell _ g 1 _)).drew
  generalize (W0.setCell ⟨g, 1, none⟩ (.int .u64 (b1 : Int))).drew = W1 at HS1 ⊢
  clear kf
  clear k0 k1 k2 k3 HS Fb1
  have HS := HS1
  clear HS1
  have k0 : W1.cell? ⟨g, 0, none⟩ = some (.int .u64 (a1 : Int)) := Blk_10.cell HS.out.1 rfl
  have k1 : W1.cell? ⟨g, 1, none⟩ = some (.int .u64 (b1 : Int)) := Blk_10.cell HS.out.1 rfl
  have k2 : W1.cell? ⟨g, 2, none⟩ = some (.int .u64 (c : Int)) := Blk_10.cell HS.out.1 rfl
  have k3 : W1.cell? ⟨g, 3, none⟩ = some (.int .u64 (d : Int)) := Blk_10.cell HS.out.1 rfl
  go_wp2_with (first
    | (with_reducible refine (Ga2.out _).mono ?_; rintro e w' ⟨rfl, rfl⟩)
    | ((with_reducible show wpList _ _ _ (⟨none, .store 40 (.tmp 33) _, _, _, _, _⟩ :: _) _ _); refine wpList_storeB1 rfl 40 (.tmp 33) (.tmp 31) rfl g 0 (by rfl) (.int .u64 (a2 : Int)) (by rfl) 53 [.int .u64 (a1 : Int), .int .u64 (b1 : Int), .int .u64 (c : Int), .int .u64 (d : Int)] HS.out.1 (by simp) size1_u64 (by rfl) (by rfl) ?_; intro W2 hb2 hg2; have HS2 : Hid (WB w g [.int .u64 (a2 : Int), .int .u64 (b1 : Int), .int .u64 (c : Int), .int .u64 (d : Int)] W2) := Lib.hid (HS.out.st hb2 hg2); clear hb2 hg2))
  clear k0 k1 k2 k3 HS
  have HS := HS2
  clear HS2
  (try simp only [Act.put])
  have k0 : W2.cell? ⟨g, 0, none⟩ = some (.int .u64 (a2 : Int)) := Blk_10.cell HS.out.1 rfl
  have k1 : W2.cell? ⟨g, 1, none⟩ = some (.int .u64 (b1 : Int)) := Blk_10.cell HS.out.1 rfl
  have k2 : W2.cell? ⟨g, 2, none⟩ = some (.int .u64 (c : Int)) := Blk_10.cell HS.out.1 rfl
  have k3 : W2.cell? ⟨g, 3, none⟩ = some (.int .u64 (d : Int)) := Blk_10.cell HS.out.1 rfl
  have Fc1 := HFc1.out
  have kf : W2.frozen? ⟨g, 2, none⟩ = false := Blk_10.frozen HS.out.1 2
  go_region
  have HS3 : Hid (WB w g [.int .u64 (a2 : Int), .int .u64 (b1 : Int), .int .u64 (c1 : Int), .int .u64 (d : Int)] (W2.setCell ⟨g, 2, none⟩ (.int .u64 (c1 : Int))).drew) := Lib.hid (HS.out.st (Blk_10.set HS.out.1 2 _) (gb_setCell _ g 2 _)).drew
  generalize (W2.setCell ⟨g, 2, none⟩ (.int .u64 (c1 : Int))).drew = W3 at HS3 ⊢
  clear kf
  clear k0 k1 k2 k3 HS Fc1
  have HS := HS3
  clear HS3
  have k0 : W3.cell? ⟨g, 0, none⟩ = some (.int .u64 (a2 : Int)) := Blk_10.cell HS.out.1 rfl
  have k1 : W3.cell? ⟨g, 1, none⟩ = some (.int .u64 (b1 : Int)) := Blk_10.cell HS.out.1 rfl
  have k2 : W3.cell? ⟨g, 2, none⟩ = some (.int .u64 (c1 : Int)) := Blk_10.cell HS.out.1 rfl
  have k3 : W3.cell? ⟨g, 3, none⟩ = some (.int .u64 (d : Int)) := Blk_10.cell HS.out.1 rfl
  have Fd1 := HFd1.out
  have kf : W3.frozen? ⟨g, 3, none⟩ = false := Blk_10.frozen HS.out.1 3
  go_wp2_with fail
  apply cut_h
  case h1 =>
    intro hc
    go_region_law (rw [if_pos (by rfl)]; go_simp; with_reducible refine (Gr2.out _).mono ?_; rintro e w' ⟨rfl, rfl⟩)
    all_goals exact hc
  have HS4 : Hid (WB w g [.int .u64 (a2 : Int), .int .u64 (b1 : Int), .int .u64 (c1 : Int), .int .u64 (d1 : Int)] (W3.setCell ⟨g, 3, none⟩ (.int .u64 (d1 : Int))).drew) := Lib.hid (HS.out.st (Blk_10.set HS.out.1 3 _) (gb_setCell _ g 3 _)).drew
  generalize (W3.setCell ⟨g, 3, none⟩ (.int .u64 (d1 : Int))).drew = W4 at HS4 ⊢
  clear kf
  clear k0 k1 k2 k3 HS Fd1
  have HS := HS4
  clear HS4
  have k0 : W4.cell? ⟨g, 0, none⟩ = some (.int .u64 (a2 : Int)) := Blk_10.cell HS.out.1 rfl
  have k1 : W4.cell? ⟨g, 1, none⟩ = some (.int .u64 (b1 : Int)) := Blk_10.cell HS.out.1 rfl
  have k2 : W4.cell? ⟨g, 2, none⟩ = some (.int .u64 (c1 : Int)) := Blk_10.cell HS.out.1 rfl
  have k3 : W4.cell? ⟨g, 3, none⟩ = some (.int .u64 (d1 : Int)) := Blk_10.cell HS.out.1 rfl
  have Fa3 := HFa3.out
  have kf : W4.frozen? ⟨g, 0, none⟩ = false := Blk_10.frozen HS.out.1 0
  go_wp2_with fail
  go_region
  have HS5 : Hid (WB w g [.int .u64 (a3 : Int), .int .u64 (b1 : Int), .int .u64 (c1 : Int), .int .u64 (d1 : Int)] (W4.setCell ⟨g, 0, none⟩ (.int .u64 (a3 : Int))).drew) := Lib.hid (HS.out.st (Blk_10.set HS.out.1 0 _) (gb_setCell _ g 0 _)).drew
  generalize (W4.setCell ⟨g, 0, none⟩ (.int .u64 (a3 : Int))).drew = W5 at HS5 ⊢
  clear kf
  clear k0 k1 k2 k3 HS Fa3
  have HS := HS5
  clear HS5
  have k0 : W5.cell? ⟨g, 0, none⟩ = some (.int .u64 (a3 : Int)) := Blk_10.cell HS.out.1 rfl
  have k1 : W5.cell? ⟨g, 1, none⟩ = some (.int .u64 (b1 : Int)) := Blk_10.cell HS.out.1 rfl
  have k2 : W5.cell? ⟨g, 2, none⟩ = some (.int .u64 (c1 : Int)) := Blk_10.cell HS.out.1 rfl
  have k3 : W5.cell? ⟨g, 3, none⟩ = some (.int .u64 (d1 : Int)) := Blk_10.cell HS.out.1 rfl
  have Fd2 := HFd2.out
  have kf : W5.frozen? ⟨g, 3, none⟩ = false := Blk_10.frozen HS.out.1 3
  go_wp2_with fail
  apply cut_h
  case h1 =>
    intro hc
    go_region_law (rw [if_pos (by rfl)]; go_simp; with_reducible refine (Gr3.out _).mono ?_; rintro e w' ⟨rfl, rfl⟩)
    all_goals exact hc
  have HS6 : Hid (WB w g [.int .u64 (a3 : Int), .int .u64 (b1 : Int), .int .u64 (c1 : Int), .int .u64 (d2 : Int)] (W5.setCell ⟨g, 3, none⟩ (.int .u64 (d2 : Int))).drew) := Lib.hid (HS.out.st (Blk_10.set HS.out.1 3 _) (gb_setCell _ g 3 _)).drew
  generalize (W5.setCell ⟨g, 3, none⟩ (.int .u64 (d2 : Int))).drew = W6 at HS6 ⊢
  clear kf
  clear k0 k1 k2 k3 HS Fd2
  have HS := HS6
  clear HS6
  have k0 : W6.cell? ⟨g, 0, none⟩ = some (.int .u64 (a3 : Int)) := Blk_10.cell HS.out.1 rfl
  have k1 : W6.cell? ⟨g, 1, none⟩ = some (.int .u64 (b1 : Int)) := Blk_10.cell HS.out.1 rfl
  have k2 : W6.cell? ⟨g, 2, none⟩ = some (.int .u64 (c1 : Int)) := Blk_10.cell HS.out.1 rfl
  have k3 : W6.cell? ⟨g, 3, none⟩ = some (.int .u64 (d2 : Int)) := Blk_10.cell HS.out.1 rfl
  have Fc2 := HFc2.out
  have kf : W6.frozen? ⟨g, 2, none⟩ = false := Blk_10.frozen HS.out.1 2
  go_wp2_with fail
  go_region
  have HS7 : Hid (WB w g [.int .u64 (a3 : Int), .int .u64 (b1 : Int), .int .u64 (c2 : Int), .int .u64 (d2 : Int)] (W6.setCell ⟨g, 2, none⟩ (.int .u64 (c2 : Int))).drew) := Lib.hid (HS.out.st (Blk_10.set HS.out.1 2 _) (gb_setCell _ g 2 _)).drew
  generalize (W6.setCell ⟨g, 2, none⟩ (.int .u64 (c2 : Int))).drew = W7 at HS7 ⊢
  clear kf
  clear k0 k1 k2 k3 HS Fc2
  have HS := HS7
  clear HS7
  have k0 : W7.cell? ⟨g, 0, none⟩ = some (.int .u64 (a3 : Int)) := Blk_10.cell HS.out.1 rfl
  have k1 : W7.cell? ⟨g, 1, none⟩ = some (.int .u64 (b1 : Int)) := Blk_10.cell HS.out.1 rfl
  have k2 : W7.cell? ⟨g, 2, none⟩ = some (.int .u64 (c2 : Int)) := Blk_10.cell HS.out.1 rfl
  have k3 : W7.cell? ⟨g, 3, none⟩ = some (.int .u64 (d2 : Int)) := Blk_10.cell HS.out.1 rfl
  have Fb2 := HFb2.out
  have kf : W7.frozen? ⟨g, 1, none⟩ = false := Blk_10.frozen HS.out.1 1
  go_wp2_with fail
  apply cut_h
  case h1 =>
    intro hc
    go_region_law (rw [if_pos (by rfl)]; go_simp; with_reducible refine (Gr4.out _).mono ?_; rintro e w' ⟨rfl, rfl⟩)
    all_goals exact hc
  have HS8 : Hid (WB w g [.int .u64 (a3 : Int), .int .u64 (b2 : Int), .int .u64 (c2 : Int), .int .u64 (d2 : Int)] (W7.setCell ⟨g, 1, none⟩ (.int .u64 (b2 : Int))).drew) := Lib.hid (HS.out.st (Blk_10.set HS.out.1 1 _) (gb_setCell _ g 1 _)).drew
  generalize (W7.setCell ⟨g, 1, none⟩ (.int .u64 (b2 : Int))).drew = W8 at HS8 ⊢
  clear kf
  clear k0 k1 k2 k3 HS Fb2
  have HS := HS8
  clear HS8
  have k0 : W8.cell? ⟨g, 0, none⟩ = some (.int .u64 (a3 : Int)) := Blk_10.cell HS.out.1 rfl
  have k1 : W8.cell? ⟨g, 1, none⟩ = some (.int .u64 (b2 : Int)) := Blk_10.cell HS.out.1 rfl
  have k2 : W8.cell? ⟨g, 2, none⟩ = some (.int .u64 (c2 : Int)) := Blk_10.cell HS.out.1 rfl
  have k3 : W8.cell? ⟨g, 3, none⟩ = some (.int .u64 (d2 : Int)) := Blk_10.cell HS.out.1 rfl
  go_wp2_with (first
    | (with_reducible refine (Gc3.out _).mono ?_; rintro e w' ⟨rfl, rfl⟩)
    | ((with_reducible show wpList _ _ _ (⟨none, .store 40 (.tmp 113) _, _, _, _, _⟩ :: _) _ _); refine wpList_storeB1 rfl 40 (.tmp 113) (.tmp 111) rfl g 2 (by rfl) (.int .u64 (c3 : Int)) (by rfl) 53 [.int .u64 (a3 : Int), .int .u64 (b2 : Int), .int .u64 (c2 : Int), .int .u64 (d2 : Int)] HS.out.1 (by simp) size1_u64 (by rfl) (by rfl) ?_; intro W9 hb9 hg9; have HS9 : Hid (WB w g [.int .u64 (a3 : Int), .int .u64 (b2 : Int), .int .u64 (c3 : Int), .int .u64 (d2 : Int)] W9) := Lib.hid (HS.out.st hb9 hg9); clear hb9 hg9))
  clear k0 k1 k2 k3 HS
  have HS := HS9
  clear HS9
  go_end0
  exact ⟨⟨_, rfl⟩, HS.out⟩
end Go.Proofs.Ytagfhephbjinmaa
