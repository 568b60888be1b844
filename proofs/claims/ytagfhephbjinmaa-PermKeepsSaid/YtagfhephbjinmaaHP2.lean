/-
  The program's words: rounds, take, end, begin, last, and a port's bytes.
-/
import Derived.Test.YtagfhephbjinmaaHP1
namespace Go.Proofs.Ytagfhephbjinmaa
set_option maxRecDepth 100000
open Go.RowKit Go.Lib

theorem WB.refl {w : World} {g : Nat} {cs : List Value} (h : Blk w 53 g cs) : WB w g cs w := ⟨h, World.grownBy.refl w _⟩
theorem WB.b {w0 w : World} {g : Nat} {cs : List Value} (h : WB w0 g cs w) : Blk w 53 g cs := h.1
theorem WB.trans {w0 w1 w2 : World} {g : Nat} {cs ds : List Value} (h : WB w0 g cs w1) (k : WB w1 g ds w2) : WB w0 g ds w2 := ⟨k.1, gb_trans h.2 k.2⟩
set_option maxHeartbeats 2000000 in
theorem prounds_any {v : V4} (h : v.Ok) (n : Nat) (hn : n ≤ 100) (g : Nat) (w : World) (hb : Blk w 53 g (v4L v)) : Calls Try.prog 38 #[.pointer (some ⟨g, 0, none⟩), .int .i64 (n : Int)] w fun e w' => (∃ u, e = .returned u) ∧ WB w g (v4L (rnds n v)) w' := by
  have HV := Lib.hid h
  have HB := Lib.hid hb
  clear h hb
  go_enter Try.func38, Try.ntmps38
  go_wp2_with fail
  go_loopw [5] (fun i wr => ∃ k : Nat, k ≤ n ∧ i = .int .i64 (k : Int) ∧ WB w g (v4L (rnds k v)) wr)
    (fun i _ => n - (intOf i).toNat)
  case atStart => exact ⟨0, Nat.zero_le _, rfl, by rw [rnds_zero]; exact WB.refl HB.out⟩
  case round =>
    obtain ⟨k, hk, rfl, hw⟩ := hrel
    by_cases hlt : k < n
    · have h1 : (k : Int) < (n : Int) := by omega
      have HR := Lib.hid (round_any (rnds_ok k HV.out) g wr hw.1)
      have HW := Lib.hid hw
      clear hw
      go_wp2_with (with_reducible refine HR.out.mono ?_; rintro e w2 ⟨⟨u2, rfl⟩, hw2⟩)
      go_roundw
      case rel => exact ⟨k + 1, by omega, by go_num, by rw [rnds_succ]; exact HW.out.trans hw2⟩
      case measure => simp [intOf]; omega
    · obtain rfl : k = n := by omega
      go_wp2_with fail
      go_end0
      exact ⟨⟨_, rfl⟩, hw⟩
set_option maxHeartbeats 4000000 in
theorem ptake_any {v : V4} (h : v.Ok) (m : Nat) (hm : m < 18446744073709551616) (g : Nat) (w : World) (hb : Blk w 53 g (v4L v)) : Calls Try.prog 31 #[.pointer (some ⟨g, 0, none⟩), .int .u64 (m : Int)] w fun e w' => (∃ u, e = .returned u) ∧ WB w g (v4L (takeV v m)) w' := by
  have HO := Lib.hid (xorD_ok h hm)
  have HT : Hid (takeV v m = xorA (rnds 2 (xorD v m)) m) := Lib.hid rfl
  have HF := Lib.hid (fun (x : V4) (hx : x.Ok) => xor64 hx.a hm)
  have hO2 := rnds_ok 2 HO.out
  obtain ⟨a, b, c, d⟩ := v
  obtain ⟨x, hx⟩ : ∃ x, rnds 2 (xorD ⟨a, b, c, d⟩ m) = x := ⟨_, rfl⟩
  rw [hx] at hO2
  have F0 := xor64 h.d hm
  have F1 := xor64 hO2.a hm
  obtain ⟨d1, hd1⟩ : ∃ y, d ^^^ m = y := ⟨_, rfl⟩
  have hxd : xorD ⟨a, b, c, d⟩ m = ⟨a, b, c, d1⟩ := by rw [← hd1]; rfl
  rw [hxd] at hx HO HT
  rw [hx] at HT
  have hR0 := fun W hb => prounds_any HO.out 2 (by decide) g W hb
  rw [hx] at hR0
  have HS : Hid (WB w g [.int .u64 (a : Int), .int .u64 (b : Int), .int .u64 (c : Int), .int .u64 (d : Int)] w) := Lib.hid (WB.refl hb)
  obtain ⟨a2, b2, c2, d2⟩ := x
  obtain ⟨a3, ha3⟩ : ∃ y, a2 ^^^ m = y := ⟨_, rfl⟩
  simp only at F0 F1
  rw [hd1] at F0
  rw [ha3] at F1
  have HE : Hid (takeV ⟨a, b, c, d⟩ m = ⟨a3, b2, c2, d2⟩) := Lib.hid (by rw [HT.out, ← ha3]; rfl)
  have HR : Hid (∀ W, Blk W 53 g [.int .u64 (a : Int), .int .u64 (b : Int), .int .u64 (c : Int), .int .u64 (d1 : Int)] → Calls Try.prog 38 #[.pointer (some ⟨g, 0, none⟩), .int .i64 2] W fun e w' => (∃ u, e = .returned u) ∧ WB W g [.int .u64 (a2 : Int), .int .u64 (b2 : Int), .int .u64 (c2 : Int), .int .u64 (d2 : Int)] w') := Lib.hid hR0
  clear h hm hb HF hO2 HT hx hxd hd1 ha3 HO hR0
  have k0 : w.cell? ⟨g, 0, none⟩ = some (.int .u64 (a : Int)) := Blk_10.cell HS.out.1 rfl
  have k1 : w.cell? ⟨g, 1, none⟩ = some (.int .u64 (b : Int)) := Blk_10.cell HS.out.1 rfl
  have k2 : w.cell? ⟨g, 2, none⟩ = some (.int .u64 (c : Int)) := Blk_10.cell HS.out.1 rfl
  have k3 : w.cell? ⟨g, 3, none⟩ = some (.int .u64 (d : Int)) := Blk_10.cell HS.out.1 rfl
  go_enter Try.func31, Try.ntmps31
  go_wp2_with (first
    | ((with_reducible show wpList _ _ _ (⟨none, .store 40 (.tmp 11) _, _, _, _, _⟩ :: _) _ _); refine wpList_storeB1 rfl 40 (.tmp 11) (.tmp 9) rfl g 3 (by rfl) (.int .u64 (d1 : Int)) (by rfl) 53 [.int .u64 (a : Int), .int .u64 (b : Int), .int .u64 (c : Int), .int .u64 (d : Int)] HS.out.1 (by simp) size1_u64 (by rfl) (by rfl) ?_; intro W1 hb1 hg1; have HS1 : Hid (WB w g [.int .u64 (a : Int), .int .u64 (b : Int), .int .u64 (c : Int), .int .u64 (d1 : Int)] W1) := Lib.hid (HS.out.st hb1 hg1); clear hb1 hg1)
    | ((with_reducible refine (HR.out _ (WB.b HS1.out)).mono ?_); rintro e W2 ⟨⟨u2, rfl⟩, hw2⟩; have HS2 : Hid (WB w g [.int .u64 (a2 : Int), .int .u64 (b2 : Int), .int .u64 (c2 : Int), .int .u64 (d2 : Int)] W2) := Lib.hid (HS1.out.trans hw2); clear hw2; have k4 : W2.cell? ⟨g, 0, none⟩ = some (.int .u64 (a2 : Int)) := Blk_10.cell HS2.out.1 rfl)
    | ((with_reducible show wpList _ _ _ (⟨none, .store 40 (.tmp 21) _, _, _, _, _⟩ :: _) _ _); refine wpList_storeB1 rfl 40 (.tmp 21) (.tmp 19) rfl g 0 (by rfl) (.int .u64 (a3 : Int)) (by rfl) 53 [.int .u64 (a2 : Int), .int .u64 (b2 : Int), .int .u64 (c2 : Int), .int .u64 (d2 : Int)] HS2.out.1 (by simp) size1_u64 (by rfl) (by rfl) ?_; intro W3 hb3 hg3; have HS3 : Hid (WB w g [.int .u64 (a3 : Int), .int .u64 (b2 : Int), .int .u64 (c2 : Int), .int .u64 (d2 : Int)] W3) := Lib.hid (HS2.out.st hb3 hg3); clear hb3 hg3))
  go_end0
  refine ⟨⟨_, rfl⟩, ?_⟩
  rw [HE.out]
  exact HS3.out
set_option maxHeartbeats 4000000 in
theorem pend_any {v : V4} (h : v.Ok) (g : Nat) (w : World) (hb : Blk w 53 g (v4L v)) : Calls Try.prog 34 #[.pointer (some ⟨g, 0, none⟩)] w fun e w' => e = .returned (.int .u64 (finV v : Nat)) ∧ w.grownBy w' (some g) := by
  have HT : Hid (finV v = (rnds 4 (xorC v 255)).a ^^^ (rnds 4 (xorC v 255)).b ^^^ (rnds 4 (xorC v 255)).c ^^^ (rnds 4 (xorC v 255)).d) := Lib.hid rfl
  obtain ⟨q, hq⟩ : ∃ q, finV v = q := ⟨_, rfl⟩
  rw [hq]
  rw [hq] at HT
  clear hq
  have hO := xorC_ok h (m := 255) (by decide)
  have hO2 := rnds_ok 4 hO
  have F0 := xor64 h.c (b := 255) (by decide)
  obtain ⟨a, b, c, d⟩ := v
  simp only at F0
  obtain ⟨c1, hc1⟩ : ∃ y, c ^^^ 255 = y := ⟨_, rfl⟩
  have hxc : xorC ⟨a, b, c, d⟩ 255 = ⟨a, b, c1, d⟩ := by rw [← hc1]; rfl
  rw [hc1] at F0
  rw [hxc] at hO hO2 HT
  have HO := Lib.hid hO
  obtain ⟨x, hx⟩ : ∃ x, rnds 4 ⟨a, b, c1, d⟩ = x := ⟨_, rfl⟩
  have hR0 := fun W hb => prounds_any HO.out 4 (by decide) g W hb
  rw [hx] at HT hO2 hR0
  have HS : Hid (WB w g [.int .u64 (a : Int), .int .u64 (b : Int), .int .u64 (c : Int), .int .u64 (d : Int)] w) := Lib.hid (WB.refl hb)
  obtain ⟨a2, b2, c2, d2⟩ := x
  obtain ⟨l1, l2, l3, l4⟩ := hO2
  simp only at l1 l2 l3 l4 HT
  have F1 := xor64 l1 l2
  have m1 := xorW_lt l1 l2
  obtain ⟨y1, e1⟩ : ∃ y, a2 ^^^ b2 = y := ⟨_, rfl⟩
  rw [e1] at F1 m1 HT
  have F2 := xor64 m1 l3
  have m2 := xorW_lt m1 l3
  obtain ⟨y2, e2⟩ : ∃ y, y1 ^^^ c2 = y := ⟨_, rfl⟩
  rw [e2] at F2 m2 HT
  have F3 := xor64 m2 l4
  rw [← HT.out] at F3
  have F0' : bits .xor .u64 (c : Int) 255 = (c1 : Int) := F0
  have HR : Hid (∀ W, Blk W 53 g [.int .u64 (a : Int), .int .u64 (b : Int), .int .u64 (c1 : Int), .int .u64 (d : Int)] → Calls Try.prog 38 #[.pointer (some ⟨g, 0, none⟩), .int .i64 4] W fun e w' => (∃ u, e = .returned u) ∧ WB W g [.int .u64 (a2 : Int), .int .u64 (b2 : Int), .int .u64 (c2 : Int), .int .u64 (d2 : Int)] w') := Lib.hid hR0
  clear h hb hO hx hxc hc1 l1 l2 l3 l4 m1 m2 e1 e2 HT HO F0 hR0
  have k0 : w.cell? ⟨g, 0, none⟩ = some (.int .u64 (a : Int)) := Blk_10.cell HS.out.1 rfl
  have k1 : w.cell? ⟨g, 1, none⟩ = some (.int .u64 (b : Int)) := Blk_10.cell HS.out.1 rfl
  have k2 : w.cell? ⟨g, 2, none⟩ = some (.int .u64 (c : Int)) := Blk_10.cell HS.out.1 rfl
  have k3 : w.cell? ⟨g, 3, none⟩ = some (.int .u64 (d : Int)) := Blk_10.cell HS.out.1 rfl
  go_enter Try.func34, Try.ntmps34
  go_wp2_with (first
    | ((with_reducible show wpList _ _ _ (⟨none, .store 40 (.tmp 9) _, _, _, _, _⟩ :: _) _ _); refine wpList_storeB1 rfl 40 (.tmp 9) (.tmp 7) rfl g 2 (by rfl) (.int .u64 (c1 : Int)) (by rfl) 53 [.int .u64 (a : Int), .int .u64 (b : Int), .int .u64 (c : Int), .int .u64 (d : Int)] HS.out.1 (by simp) size1_u64 (by rfl) (by rfl) ?_; intro W1 hb1 hg1; have HS1 : Hid (WB w g [.int .u64 (a : Int), .int .u64 (b : Int), .int .u64 (c1 : Int), .int .u64 (d : Int)] W1) := Lib.hid (HS.out.st hb1 hg1); clear hb1 hg1)
    | ((with_reducible refine (HR.out _ (WB.b HS1.out)).mono ?_); rintro e W2 ⟨⟨u2, rfl⟩, hw2⟩; have HS2 : Hid (WB w g [.int .u64 (a2 : Int), .int .u64 (b2 : Int), .int .u64 (c2 : Int), .int .u64 (d2 : Int)] W2) := Lib.hid (HS1.out.trans hw2); clear hw2; have j0 : W2.cell? ⟨g, 0, none⟩ = some (.int .u64 (a2 : Int)) := Blk_10.cell HS2.out.1 rfl; have j1 : W2.cell? ⟨g, 1, none⟩ = some (.int .u64 (b2 : Int)) := Blk_10.cell HS2.out.1 rfl; have j2 : W2.cell? ⟨g, 2, none⟩ = some (.int .u64 (c2 : Int)) := Blk_10.cell HS2.out.1 rfl; have j3 : W2.cell? ⟨g, 3, none⟩ = some (.int .u64 (d2 : Int)) := Blk_10.cell HS2.out.1 rfl))
  go_region
  go_wp2_with fail
  go_ret
  exact ⟨rfl, gb_drew HS2.out.2⟩
end Go.Proofs.Ytagfhephbjinmaa
