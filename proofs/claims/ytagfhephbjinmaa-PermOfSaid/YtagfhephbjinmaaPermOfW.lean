/-
  PermOf: its walk, the program's contracts a premise.
-/
import Derived.Test.YtagfhephbjinmaaJAwake
namespace Go.Proofs.Ytagfhephbjinmaa
set_option maxRecDepth 100000
open Go.RowKit Go.Lib Go.ChangeShapes Go.WideShapes Go.ChangeAt

set_option maxHeartbeats 16000000 in
theorem permOf_walkW (S : PermC) (key : List UInt8) (hk : key.length = 16) (s : ByteArray) (_hs : s.size ≤ maxLen) (n : Nat) (hn : n < 65536) (w : World) :
    Calls Try.prog 5 #[keyC key, .string s, .int .u16 (n : Int)] w fun e w' => e = .returned (.bool true) ∧ Below w.heap.size w w' := by
  obtain ⟨C0, hC0⟩ : ∃ C, (key.map v8).toArray = C := ⟨_, rfl⟩
  obtain ⟨Y, hY⟩ : ∃ Y, w.alloc (.cells C0 28) = Y := ⟨_, rfl⟩
  have HK0 := Lib.hid (show Blk Y 28 w.heap.size (key.map v8) by rw [← hY, ← hC0]; exact Blk_10.new w _ _)
  have HB0 := Lib.hid (show Below w.heap.size w Y by rw [← hY]; exact (Below.refl w.heap.size w).alloc (Nat.le_refl _) _)
  have HY := Lib.hid hY
  have HKE : Hid (keyC key = .agg C0) := Lib.hid (by rw [← hC0]; rfl)
  rw [HKE.out]
  have HKL := Lib.hid hk
  clear hY hC0 hk
  go_enter Try.func5, Try.ntmps5
  go_wp2_with fail
  rw [HY.out]
  refine (awake_any S _).mono ?_
  rintro e w1 ⟨rfl, hb1⟩
  have HB1 := Lib.hid (HB0.out.trans (hb1.mono HB0.out.size))
  have HK1 := Lib.hid (Blk_10.below HK0.out (Blk_10.lt HK0.out) hb1)
  clear hb1
  by_cases hg : 300 < s.size
  · have hn' : (300 : Int) < (s.size : Int) := by omega
    have hnb : decide ((300 : Int) < (s.size : Int)) = true := decide_eq_true hn'
    clear hg
    go_wp2_with fail
    refine (awake_any S _).mono ?_
    rintro e w2 ⟨rfl, hb2⟩
    go_wp2_with fail
    go_ret
    exact ⟨rfl, HB1.out.trans (hb2.mono HB1.out.size)⟩
  · have hn' : ¬ (300 : Int) < (s.size : Int) := by omega
    have hnb : decide ((300 : Int) < (s.size : Int)) = false := decide_eq_false hn'
    have hs : s.size ≤ 1000 := by omega
    clear hg
    have hm0 : n % 300 < 300 := Nat.mod_lt _ (by decide)
    have em : (n : Int) % 300 = ((n % 300 : Nat) : Int) := by rw [Int.natCast_emod]; rfl
    obtain ⟨m, hm⟩ : ∃ m, n % 300 = m := ⟨_, rfl⟩
    rw [hm] at em hm0
    have P1 := Lib.hid (fun W => rnext_any (m : Int) (by omega) (by omega) W)
    obtain ⟨hsz, _, _⟩ := nextN_size (z := (m : Int)) (by omega)
    obtain ⟨p, hp⟩ : ∃ p, nextN (m : Int) = p := ⟨_, rfl⟩
    rw [hp] at P1 hsz
    have hp2 := hsz.two
    have hpm := hsz.most
    have HSZ := Lib.hid hsz
    have HS := Lib.hid hs
    clear hp hsz
    have PO : Hid (∀ W : World, Calls Try.prog 14 #[.agg (key.map v8).toArray, .string s, .int .i64 (p : Int)] W fun e w' => e = .returned (.tuple #[.int .i64 (offN key s.data.toList p : Nat), .int .i64 (skN key s.data.toList p : Nat)]) ∧ Below W.heap.size W w') := Lib.hid (fun W => S.of key HKL.out s HS.out p HSZ.out W)
    have PR : Hid (∀ W : World, Calls Try.prog 15 #[.agg (key.map v8).toArray, .string s, .int .i64 (p : Int)] W fun e w' => e = .returned (.tuple #[.int .i64 (offN key s.data.toList p : Nat), .int .i64 (skN key s.data.toList p : Nat)]) ∧ Below W.heap.size W w') := Lib.hid (fun W => jrof_any key HKL.out s HS.out p HSZ.out W)
    have PA := Lib.hid (fun W => S.all key HKL.out s HS.out p HSZ.out W)
    have PB := Lib.hid (fun W => jrall_any key HKL.out s HS.out p HSZ.out W)
    obtain ⟨a, ha⟩ : ∃ a, offN key s.data.toList p = a := ⟨_, rfl⟩
    obtain ⟨b, hb⟩ : ∃ b, skN key s.data.toList p = b := ⟨_, rfl⟩
    rw [ha, hb] at PO PR PA PB
    clear ha hb
    have HAL := Lib.hid (allZ_len a b p)
    obtain ⟨L, hL⟩ : ∃ L, allZ a b p = L := ⟨_, rfl⟩
    rw [hL] at PA PB HAL
    clear hL
    have q1 : ((a : Int) == (a : Int)) = true := by simp
    have q2 : ((b : Int) == (b : Int)) = true := by simp
    have q3 : (a == a) = true := by simp
    have q4 : (b == b) = true := by simp
    go_wp2_with (first
      | (with_reducible refine (P1.out w1).mono ?_; rintro e w' ⟨rfl, rfl⟩)
      | ((with_reducible show wpList _ _ _ (⟨some 25, _, _, _, _, _⟩ :: _) _ _); refine wpList_loadM (op := ⟨some 25, _, _, _, _, _⟩) 28 _ rfl (by rfl) w.heap.size 0 (by rfl) (key.map v8) (Blk_10.range HK1.out) _ Try.underlying28 rfl (keyp_size HKL.out) ?_)
      | (with_reducible refine (PO.out w1).mono ?_; rintro e w2 ⟨rfl, hb⟩; have HB2 := Lib.hid (HB1.out.trans (hb.mono HB1.out.size)); have HK2 := Lib.hid (Blk_10.below HK1.out (Blk_10.lt HK1.out) hb); clear hb)
      | ((with_reducible show wpList _ _ _ (⟨some 32, _, _, _, _, _⟩ :: _) _ _); refine wpList_loadM (op := ⟨some 32, _, _, _, _, _⟩) 28 _ rfl (by rfl) w.heap.size 0 (by rfl) (key.map v8) (Blk_10.range HK2.out) _ Try.underlying28 rfl (keyp_size HKL.out) ?_)
      | (with_reducible refine (PR.out w2).mono ?_; rintro e w3 ⟨rfl, hb⟩; have HB3 := Lib.hid (HB2.out.trans (hb.mono HB2.out.size)); have HK3 := Lib.hid (Blk_10.below HK2.out (Blk_10.lt HK2.out) hb); clear hb))
    refine wp_region_held_drew (S := fun W => Below w3.heap.size w3 W) (by kernel_rfl) ((Below.refl _ _).drew) (fun hHeld => ?_)
    obtain ⟨X, hX⟩ : ∃ X, w3.drew = X := ⟨_, rfl⟩
    rw [hX] at hHeld ⊢
    clear hX
    refine tk 0 38 (.int .i64 (a : Int)) rfl hHeld ?_
    simp only [Act.put, sA, sZ, sS]
    refine tk 1 39 (.int .i64 (a : Int)) rfl hHeld ?_
    simp only [Act.put, sA, sZ, sS]
    refine tk 2 40 (.bool true) rfl hHeld ?_
    simp only [Act.put, sA, sZ, sS]
    refine tk 3 41 (.bool true) rfl hHeld ?_
    simp only [Act.put, sA, sZ, sS]
    refine tk 4 42 (.int .i64 (b : Int)) rfl hHeld ?_
    simp only [Act.put, sA, sZ, sS]
    refine tk 5 43 (.int .i64 (b : Int)) rfl hHeld ?_
    simp only [Act.put, sA, sZ, sS]
    refine tk 6 44 (.bool true) rfl hHeld ?_
    simp only [Act.put, sA, sZ, sS]
    refine tk 7 45 (.bool true) rfl hHeld ?_
    simp only [Act.put, sA, sZ, sS]
    refine tk 8 46 (.bool true) rfl hHeld ?_
    simp only [Act.put, sA, sZ, sS]
    refine tkY 9 47 (keyC key) rfl (yields_keyp (by rfl) _ rfl w.heap.size rfl key HKL.out (fun W hW => Blk_10.below HK3.out (Blk_10.lt HK3.out) hW)) hHeld ?_
    simp only [Act.put, sA, sZ, sS]
    refine tk 10 48 (.string s) rfl hHeld ?_
    simp only [Act.put, sA, sZ, sS]
    refine tk 11 49 (.int .i64 (p : Int)) rfl hHeld ?_
    simp only [Act.put, sA, sZ, sS]
    refine tkY 13 51 (keyC key) rfl (yields_keyp (by rfl) _ rfl w.heap.size rfl key HKL.out (fun W hW => Blk_10.below HK3.out (Blk_10.lt HK3.out) hW)) hHeld ?_
    simp only [Act.put, sA, sZ, sS]
    refine tk 14 52 (.string s) rfl hHeld ?_
    simp only [Act.put, sA, sZ, sS]
    refine tk 15 53 (.int .i64 (p : Int)) rfl hHeld ?_
    simp only [Act.put, sA, sZ, sS]
    refine wpAnyH_ready (rs := [12]) (by kernel_rfl) (by simp) (AllReadyH.cons (o := ⟨some 50, _, _, _, _, _⟩) rfl (fun K hK => ?_) AllReadyH.nil)
    go_simp
    refine (PA.out _).mono ?_
    rintro e Z1 ⟨v, rfl, hown, hb⟩
    have HZ1 := Lib.hid (hHeld.trans (hb.mono hHeld.size))
    obtain ⟨A4, m4, c4, rfl, hm4, _, _, hr, _⟩ := hown.sl
    rw [HAL.out] at hm4
    subst hm4
    have HR4 := Lib.hid hr
    refine hK.out _ _ (HZ1.out) (fun hHeld => ?_)
    clear hK K hb hown hr
    refine wpAnyH_ready (rs := [16]) (by kernel_rfl) (by simp) (AllReadyH.cons (o := ⟨some 54, _, _, _, _, _⟩) rfl (fun K hK => ?_) AllReadyH.nil)
    go_simp
    refine (PB.out _).mono ?_
    rintro e Z2 ⟨v, rfl, hown, hb⟩
    have HZ2 := Lib.hid (hHeld.trans (hb.mono hHeld.size))
    obtain ⟨A5, m5, c5, rfl, hm5, _, _, hr, _⟩ := hown.sl
    rw [HAL.out] at hm5
    subst hm5
    have HR5 := Lib.hid hr
    have HR6 := Lib.hid (HR4.out.below hb)
    refine hK.out _ _ (HZ2.out) (fun hHeld => ?_)
    clear hK K hb hown hr HZ1
    refine wpAnyH_ready (rs := [17]) (by kernel_rfl) (by simp) (AllReadyH.cons (o := ⟨some 55, _, _, _, _, _⟩) rfl (fun K hK => ?_) AllReadyH.nil)
    go_simp
    refine (jrsame_any c4 c5 (by omega) Z2 HR6.out HR5.out).mono ?_
    rintro e Z3 ⟨rfl, hb⟩
    have HZ3 := Lib.hid (hHeld.trans (hb.mono hHeld.size))
    refine hK.out _ _ (HZ3.out) (fun hHeld => ?_)
    clear hK K hb HZ2
    refine tk 18 56 (.bool true) rfl hHeld ?_
    simp only [Act.put, sA, sZ, sS]
    refine tk 19 6 (.bool true) rfl hHeld ?_
    simp only [Act.put, sA, sZ, sS]
    refine wpAnyH_done (by kernel_rfl) ?_ _
    go_wp2_with fail
    go_ret
    exact ⟨rfl, HB3.out.trans (hHeld.mono HB3.out.size)⟩
end Go.Proofs.Ytagfhephbjinmaa
