/-
  PermKeeps: its walk, the program's contracts a premise.
-/
import Derived.Test.YtagfhephbjinmaaJAwake
namespace Go.Proofs.Ytagfhephbjinmaa
set_option maxRecDepth 100000
open Go.RowKit Go.Lib Go.ChangeShapes Go.WideShapes Go.ChangeAt

theorem size_int : (Try.prog.info? 3).map (·.size) = some 1 := by kernel_rfl
set_option maxHeartbeats 16000000 in
theorem permKeeps_walkW (S : PermC) (key : List UInt8) (hk : key.length = 16) (s : ByteArray) (_hs : s.size ≤ maxLen) (n : Nat) (hn : n < 256) (w : World) :
    Calls Try.prog 8 #[keyC key, .string s, .int .u8 (n : Int)] w fun e w' => e = .returned (.bool true) ∧ Below w.heap.size w w' := by
  obtain ⟨C0, hC0⟩ : ∃ C, (key.map v8).toArray = C := ⟨_, rfl⟩
  obtain ⟨Y, hY⟩ : ∃ Y, w.alloc (.cells C0 28) = Y := ⟨_, rfl⟩
  have HK0 := Lib.hid (show Blk Y 28 w.heap.size (key.map v8) by rw [← hY, ← hC0]; exact Blk_10.new w _ _)
  have HB0 := Lib.hid (show Below w.heap.size w Y by rw [← hY]; exact (Below.refl w.heap.size w).alloc (Nat.le_refl _) _)
  have HY := Lib.hid hY
  have HKE : Hid (keyC key = .agg C0) := Lib.hid (by rw [← hC0]; rfl)
  rw [HKE.out]
  have HKL := Lib.hid hk
  clear hY hC0 hk
  go_enter Try.func8, Try.ntmps8
  go_wp2_with fail
  rw [HY.out]
  refine (awake_any S _).mono ?_
  rintro e w1 ⟨rfl, hb1⟩
  have HB1 := Lib.hid (HB0.out.trans (hb1.mono HB0.out.size))
  have HK1 := Lib.hid (Blk_10.below HK0.out (Blk_10.lt HK0.out) hb1)
  clear hb1
  by_cases hg : 300 < s.size
  · have hn' : (300 : Int) < (s.size : Int) := by omega
    have hnb : decide ((300 : Int) < (s.size : Int)) = true := decide_eq_true hn'
    clear hg
    go_wp2_with fail
    refine (awake_any S _).mono ?_
    rintro e w2 ⟨rfl, hb2⟩
    go_wp2_with fail
    go_ret
    exact ⟨rfl, HB1.out.trans (hb2.mono HB1.out.size)⟩
  · have hn' : ¬ (300 : Int) < (s.size : Int) := by omega
    have hnb : decide ((300 : Int) < (s.size : Int)) = false := decide_eq_false hn'
    have hs : s.size ≤ 1000 := by omega
    clear hg
    have hm0 : n < 256 := hn
    obtain ⟨m, hm⟩ : ∃ m, n = m := ⟨_, rfl⟩
    subst hm
    have P1 := Lib.hid (fun W => rnext_any (n : Int) (by omega) (by omega) W)
    obtain ⟨hsz, _, _⟩ := nextN_size (z := (n : Int)) (by omega)
    obtain ⟨p, hp⟩ : ∃ p, nextN (n : Int) = p := ⟨_, rfl⟩
    rw [hp] at P1 hsz
    have hp2 := hsz.two
    have hpm := hsz.most
    have HSZ := Lib.hid hsz
    have HS := Lib.hid hs
    clear hp hsz
    have PA0 : Hid (∀ W : World, Calls Try.prog 17 #[.agg (key.map v8).toArray, .string s, .int .i64 (p : Int)] W fun e W' => ∃ v, e = .returned v ∧ OwnG eZ W' W.heap.size v (allZ (offN key s.data.toList p) (skN key s.data.toList p) p) ∧ Below W.heap.size W W') := Lib.hid (fun W => S.all key HKL.out s HS.out p HSZ.out W)
    have PA := Lib.hid (fun W => S.all key HKL.out s HS.out p HSZ.out W)
    have PB := Lib.hid (fun W => jrall_any key HKL.out s HS.out p HSZ.out W)
    have HAL := Lib.hid (allZ_len (offN key s.data.toList p) (skN key s.data.toList p) p)
    obtain ⟨L, hL⟩ : ∃ L, allZ (offN key s.data.toList p) (skN key s.data.toList p) p = L := ⟨_, rfl⟩
    rw [hL] at PA0 PA PB HAL
    clear hL
    go_wp2_with (first
      | (with_reducible refine (P1.out w1).mono ?_; rintro e w' ⟨rfl, rfl⟩)
      | ((with_reducible show wpList _ _ _ (⟨some 21, _, _, _, _, _⟩ :: _) _ _); refine wpList_loadM (op := ⟨some 21, _, _, _, _, _⟩) 28 _ rfl (by rfl) w.heap.size 0 (by rfl) (key.map v8) (Blk_10.range HK1.out) _ Try.underlying28 rfl (keyp_size HKL.out) ?_)
      | (with_reducible refine (PA0.out w1).mono ?_; rintro e w2 ⟨v2, rfl, hown, hb⟩; have HB2 := Lib.hid hb; have HO2 := Lib.hid hown; have HL0 : Hid (0 < L.length) := Lib.hid (by rw [HAL.out]; omega); obtain ⟨g2, c2, rfl, _, _, hg2, _⟩ := HO2.out.form HL0.out; clear hb hown))
    have HG2 := Lib.hid hg2
    rw [HAL.out]
    have HO3 : Hid (OwnG eZ w2 w1.heap.size (.slice (some ⟨g2, 0, none⟩) p c2) L) := Lib.hid (by have := HO2.out; rw [HAL.out] at this; exact this)
    clear HO2 hg2
    go_loopw [9] (fun i wr => ∃ (k : Nat) (xs : List Int), k ≤ p ∧ i = .int .i64 (k : Int) ∧ xs.length = p ∧ OwnG eZ wr w1.heap.size (.slice (some ⟨g2, 0, none⟩) p c2) xs ∧ Below w1.heap.size w1 wr)
      (fun i _ => p - (intOf i).toNat)
    case atStart => exact ⟨0, L, Nat.zero_le _, rfl, HAL.out, HO3.out, HB2.out⟩
    case round =>
      clear HO3 HB2
      obtain ⟨k, xs, hk, rfl, hxl, hown, hbel⟩ := hrel
      by_cases hlt : k < p
      · have h1 : (k : Int) < (p : Int) := by omega
        have h0 : (0 : Int) ≤ (k : Int) := by omega
        obtain ⟨x, hx⟩ : ∃ x, xs[k]? = some x := ⟨_, List.getElem?_eq_getElem (by rw [hxl]; exact hlt)⟩
        have HX := Lib.hid hx
        have HO := Lib.hid hown
        have HBE := Lib.hid hbel
        have HXL : Hid ((xs.set k (-1)).length = p) := Lib.hid (by rw [List.length_set, hxl])
        have HKQ : Hid (k = k * eZ.k + 0) := Lib.hid (by show k = k * 1 + 0; omega)
        clear hx hown hbel hxl hk
        go_wp2_with ((with_reducible show wpList _ _ _ (⟨none, .store 3 (.tmp 33) _, _, _, _, _⟩ :: _) _ _); refine wpList_storeG eZ rfl 3 (.tmp 33) _ rfl g2 k 0 k HKQ.out (by rfl) (.int .i64 (-1)) (by rfl) xs p c2 w1.heap.size HO.out x (-1) HX.out (by decide) rfl size_int rfl rfl ?_; intro w6 ho6 hg6; have HO6 := Lib.hid ho6; have HB6 := Lib.hid (below_gb HBE.out hg6 HG2.out HBE.out.size); clear ho6 hg6)
        refine ⟨⟨k + 1, _, by omega, by go_num, HXL.out, HO6.out, HB6.out⟩, ?_⟩
        simp [intOf]
        omega
      · obtain rfl : k = p := by omega
        have h1 : ¬ (k : Int) < (k : Int) := by omega
        have HB9 := Lib.hid (HB1.out.trans (hbel.mono HB1.out.size))
        have HK9 := Lib.hid (Blk_10.below HK1.out (Blk_10.lt HK1.out) hbel)
        clear hown hbel hxl hlt hk
        go_wp2_with fail
        refine wp_region_held_drew (S := fun W => Below wr.heap.size wr W) (by kernel_rfl) ((Below.refl _ _).drew) (fun hHeld => ?_)
        obtain ⟨X, hX⟩ : ∃ X, wr.drew = X := ⟨_, rfl⟩
        rw [hX] at hHeld ⊢
        clear hX
        refine tkY 0 34 (keyC key) rfl (yields_keyp (by rfl) _ rfl w.heap.size rfl key HKL.out (fun W hW => Blk_10.below HK9.out (Blk_10.lt HK9.out) hW)) hHeld ?_
        simp only [Act.put, sA, sZ, sS]
        refine tk 1 35 (.string s) rfl hHeld ?_
        simp only [Act.put, sA, sZ, sS]
        refine tk 2 36 (.int .i64 (k : Int)) rfl hHeld ?_
        simp only [Act.put, sA, sZ, sS]
        refine tkY 4 38 (keyC key) rfl (yields_keyp (by rfl) _ rfl w.heap.size rfl key HKL.out (fun W hW => Blk_10.below HK9.out (Blk_10.lt HK9.out) hW)) hHeld ?_
        simp only [Act.put, sA, sZ, sS]
        refine tk 5 39 (.string s) rfl hHeld ?_
        simp only [Act.put, sA, sZ, sS]
        refine tk 6 40 (.int .i64 (k : Int)) rfl hHeld ?_
        simp only [Act.put, sA, sZ, sS]
        refine wpAnyH_ready (rs := [3]) (by kernel_rfl) (by simp) (AllReadyH.cons (o := ⟨some 37, _, _, _, _, _⟩) rfl (fun K hK => ?_) AllReadyH.nil)
        go_simp
        refine (PA.out _).mono ?_
        rintro e Z1 ⟨v, rfl, hown, hb⟩
        have HZ1 := Lib.hid (hHeld.trans (hb.mono hHeld.size))
        obtain ⟨A4, m4, c4, rfl, hm4, _, _, hr, _⟩ := hown.sl
        rw [HAL.out] at hm4
        subst hm4
        have HR4 := Lib.hid hr
        refine hK.out _ _ (HZ1.out) (fun hHeld => ?_)
        clear hK K hb hown hr
        refine wpAnyH_ready (rs := [7]) (by kernel_rfl) (by simp) (AllReadyH.cons (o := ⟨some 41, _, _, _, _, _⟩) rfl (fun K hK => ?_) AllReadyH.nil)
        go_simp
        refine (PB.out _).mono ?_
        rintro e Z2 ⟨v, rfl, hown, hb⟩
        have HZ2 := Lib.hid (hHeld.trans (hb.mono hHeld.size))
        obtain ⟨A5, m5, c5, rfl, hm5, _, _, hr, _⟩ := hown.sl
        rw [HAL.out] at hm5
        subst hm5
        have HR5 := Lib.hid hr
        have HR6 := Lib.hid (HR4.out.below hb)
        refine hK.out _ _ (HZ2.out) (fun hHeld => ?_)
        clear hK K hb hown hr HZ1
        refine wpAnyH_ready (rs := [8]) (by kernel_rfl) (by simp) (AllReadyH.cons (o := ⟨some 42, _, _, _, _, _⟩) rfl (fun K hK => ?_) AllReadyH.nil)
        go_simp
        refine (jrsame_any c4 c5 (by omega) Z2 HR6.out HR5.out).mono ?_
        rintro e Z3 ⟨rfl, hb⟩
        have HZ3 := Lib.hid (hHeld.trans (hb.mono hHeld.size))
        refine hK.out _ _ (HZ3.out) (fun hHeld => ?_)
        clear hK K hb HZ2
        refine tk 9 6 (.bool true) rfl hHeld ?_
        simp only [Act.put, sA, sZ, sS]
        refine wpAnyH_done (by kernel_rfl) ?_ _
        go_wp2_with fail
        go_ret
        exact ⟨rfl, HB9.out.trans (hHeld.mono HB9.out.size)⟩
end Go.Proofs.Ytagfhephbjinmaa
