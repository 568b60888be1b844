/-
  SipKeeps: its walk, the program's contracts a premise.
-/
import Derived.Test.YthfeamkomhiemaaHAwake
namespace Go.Proofs.Ythfeamkomhiemaa
set_option maxRecDepth 100000
open Go.RowKit Go.Lib Go.ChangeShapes Go.WideShapes Go.ChangeAt

theorem xor8h (x y : UInt8) : bits .xor .u8 (x.toNat : Int) (y.toNat : Int) = ((x ^^^ y).toNat : Int) := by
  rw [u8_xor_nat _ _ (UInt8.toNat_lt x) (UInt8.toNat_lt y), UInt8.toNat_xor]
set_option maxHeartbeats 16000000 in
theorem sipKeeps_walkW (S : SipC) (key : List UInt8) (hk : key.length = 16) (A : Option Addr) (len cap : Nat) (bs : List UInt8) (hca : len ≤ cap) (hma : cap ≤ maxLen) (t : Tu) (ho : t.Ok) (w : World) (hI : Rd w w.heap.size A len bs) :
    Calls Try.prog 7 #[keyC key, .slice A len cap, tuC t] w fun e w' => e = .returned (.bool true) ∧ Below w.heap.size w w' := by
  have HIL := Lib.hid hI.len
  obtain ⟨C0, hC0⟩ : ∃ C, (key.map v8).toArray = C := ⟨_, rfl⟩
  obtain ⟨C1, hC1⟩ : ∃ C, (tuL t).toArray = C := ⟨_, rfl⟩
  obtain ⟨Y, hY⟩ : ∃ Y, (w.alloc (.cells C0 22)).alloc (.cells C1 34) = Y := ⟨_, rfl⟩
  have HK0 := Lib.hid (show Blk Y 22 w.heap.size (key.map v8) by rw [← hY, ← hC0]; exact Blk_10.alloc (Blk_10.new w _ _) _)
  have HT0 := Lib.hid (show Blk Y 34 (w.heap.size + 1) (tuL t) by
    rw [← hY, ← hC1]
    have := Blk_10.new (w.alloc (.cells C0 22)) 34 (tuL t)
    rwa [World.size_alloc] at this)
  have HB0 := Lib.hid (show Below w.heap.size w Y by rw [← hY]; exact ((Below.refl w.heap.size w).alloc (Nat.le_refl _) _).alloc (by simp) _)
  have HY := Lib.hid hY
  have HKE : Hid (keyC key = .agg C0) := Lib.hid (by rw [← hC0]; rfl)
  have HTE : Hid (tuC t = .agg C1) := Lib.hid (by rw [← hC1]; rfl)
  rw [HKE.out, HTE.out]
  have HKL := Lib.hid hk
  have HOK := Lib.hid ho
  clear hY hC0 hC1 hk ho
  have HI := Lib.hid hI
  have HCA := Lib.hid hca
  have HMA := Lib.hid hma
  clear hI hca hma
  obtain ⟨hv, hhv⟩ : ∃ h, hashW key bs = h := ⟨_, rfl⟩
  have HHV := Lib.hid hhv
  clear hhv
  go_enter Try.func7, Try.ntmps7
  have HF := Lib.hid (fun W => rfit_any HOK.out W)
  go_wp2_with fail
  rw [HY.out]
  refine (awake_any S _).mono ?_
  rintro e w1 ⟨rfl, hb1⟩
  have HB1 := Lib.hid (HB0.out.trans (hb1.mono HB0.out.size))
  have HK1 := Lib.hid (Blk_10.below HK0.out (Blk_10.lt HK0.out) hb1)
  have HT1 := Lib.hid (Blk_10.below HT0.out (Blk_10.lt HT0.out) hb1)
  clear hb1
  by_cases hn : 1000 < len
  · have hn' : (1000 : Int) < (len : Int) := by omega
    have hnb : decide ((1000 : Int) < (len : Int)) = true := decide_eq_true hn'
    clear hn
    go_wp2_with fail
    refine (awake_any S _).mono ?_
    rintro e w2 ⟨rfl, hb2⟩
    go_wp2_with fail
    go_ret
    exact ⟨rfl, HB1.out.trans (hb2.mono HB1.out.size)⟩
  · have hn' : ¬ (1000 : Int) < (len : Int) := by omega
    have hnb : decide ((1000 : Int) < (len : Int)) = false := decide_eq_false hn'
    have HN1 := Lib.hid (show len ≤ 1000 by omega)
    clear hn
    cases hfit : fitT t
    · rw [hfit] at HF
      clear hfit
      go_wp2_with (first
        | ((with_reducible show wpList _ _ _ (⟨some 19, _, _, _, _, _⟩ :: _) _ _); refine wpList_loadTu (op := ⟨some 19, _, _, _, _, _⟩) _ rfl (by rfl) (w.heap.size + 1) 0 (by rfl) t HOK.out (Blk_10.range HT1.out) ?_)
        | (with_reducible refine (HF.out w1).mono ?_; rintro e w2 ⟨rfl, hb2⟩; have HB2 := Lib.hid (HB1.out.trans (hb2.mono HB1.out.size)); clear hb2))
      refine (awake_any S _).mono ?_
      rintro e w3 ⟨rfl, hb3⟩
      go_wp2_with fail
      go_ret
      exact ⟨rfl, HB2.out.trans (hb3.mono HB2.out.size)⟩
    · rw [hfit] at HF
      have HFI := Lib.hid (fitT_yes hfit)
      clear hfit
      have HSB := Lib.hid (fun W => S.bytes t HOK.out HFI.out W)
      have HRB := Lib.hid (fun W => rby_any HOK.out HFI.out W)
      have HTL := Lib.hid (tuB_len HOK.out)
      obtain ⟨TB, hTB⟩ : ∃ x, tuB t = x := ⟨_, rfl⟩
      rw [hTB] at HSB HRB HTL
      clear hTB
      have HSO : Hid (∀ (A : Option Addr) (W : World) (_ : LsAt W W.heap.size A 1 [bs]), Calls Try.prog 9 #[keyC key, .slice A 1 1] W fun e w' => e = .returned (.int .u64 (hv : Nat)) ∧ Below W.heap.size W w') := Lib.hid (fun A W hI => by
        have := S.of key HKL.out A 1 1 [bs] (by decide) (by rw [flat_one, HIL.out]; have := HN1.out; omega) W W.heap.size hI (Nat.le_refl _)
        rw [flat_one, HHV.out] at this
        exact this)
      have HLN : Hid (([] : List UInt8).length + len ≤ 2000000000) := Lib.hid (by simp; have := HN1.out; omega)
      go_wp2_with (first
        | ((with_reducible show wpList _ _ _ (⟨some 19, _, _, _, _, _⟩ :: _) _ _); refine wpList_loadTu (op := ⟨some 19, _, _, _, _, _⟩) _ rfl (by rfl) (w.heap.size + 1) 0 (by rfl) t HOK.out (Blk_10.range HT1.out) ?_)
        | (with_reducible refine (HF.out w1).mono ?_; rintro e w2 ⟨rfl, hb2⟩; have HB2 := Lib.hid (HB1.out.trans (hb2.mono HB1.out.size)); have HK2 := Lib.hid (Blk_10.below HK1.out (Blk_10.lt HK1.out) hb2); have HT2 := Lib.hid (Blk_10.below HT1.out (Blk_10.lt HT1.out) hb2); have HE2 := Lib.hid (empty8 (base := w2.heap.size) w2 (Nat.le_refl _)); clear hb2)
        | (at_builtin; refine wpList_append8 (o := ⟨some 26, _, _, _, _, _⟩) rfl _ _ rfl w2.heap.size _ [] (by rfl) HE2.out _ _ _ _ bs (by rfl) (((HI.out.below HB2.out).more HB2.out.size).alloc (Nat.le_refl _) _) HLN.out (by simp) ?_; intro v7 w3 ho7 hg7 _; have HG3 := Lib.hid (((Below.refl w2.heap.size w2).alloc (Nat.le_refl _) (.cells #[] 5)).grown hg7 (by simp) HE2.out.lt); have HO7 : Hid (Own8 w3 w2.heap.size v7 bs) := Lib.hid ho7; obtain ⟨A7, c7, rfl, h71, h72, h73⟩ := HO7.out.formN HIL.out; have HR7 := Lib.hid h73; have HC7 := Lib.hid h71; have HM7 := Lib.hid h72; have HB3 := Lib.hid (HB2.out.trans (HG3.out.mono HB2.out.size)); have HK3 := Lib.hid (Blk_10.below HK2.out (Blk_10.lt HK2.out) HG3.out); have HT3 := Lib.hid (Blk_10.below HT2.out (Blk_10.lt HT2.out) HG3.out); clear ho7 hg7 h71 h72 h73)
        | ((with_reducible show wpList _ _ _ (⟨some 27, _, _, _, _, _⟩ :: _) _ _); refine wpList_loadM (op := ⟨some 27, _, _, _, _, _⟩) 22 _ rfl (by rfl) w.heap.size 0 (by rfl) (key.map v8) (Blk_10.range HK3.out) _ Try.underlying22 rfl (key_size HKL.out) ?_))
      have HL4 := Lib.hid (LsAt.one (w := w3) (B := w3.heap.size) (n := len) (c := c7) HR7.out (Nat.le_refl _) HC7.out HM7.out)
      obtain ⟨X4, hX⟩ : ∃ X, w3.alloc (.cells #[.slice A7 len c7] 23) = X := ⟨_, rfl⟩
      have hs := World.size_alloc w3 (.cells #[.slice A7 len c7] 23)
      have HX4 := Lib.hid ((Below.refl w3.heap.size w3).alloc (Nat.le_refl _) (.cells #[.slice A7 len c7] 23))
      rw [hX] at HX4 HL4 hs ⊢
      rw [← hs] at HL4
      clear hs hX
      refine (HSO.out _ X4 HL4.out).mono ?_
      rintro e w5 ⟨rfl, hb⟩
      have HB45 := Lib.hid (HX4.out.trans (hb.mono HX4.out.size))
      have HB5 := Lib.hid (HB3.out.trans (HB45.out.mono HB3.out.size))
      have HK5 := Lib.hid (Blk_10.below HK3.out (Blk_10.lt HK3.out) HB45.out)
      have HT5 := Lib.hid (Blk_10.below HT3.out (Blk_10.lt HT3.out) HB45.out)
      have HR75 := Lib.hid ((HR7.out.below HB45.out).more HB45.out.size)
      clear hb HX4 HL4
      go_wp2_with (first
        | ((with_reducible show wpList _ _ _ (⟨some 31, _, _, _, _, _⟩ :: _) _ _); refine wpList_loadTu (op := ⟨some 31, _, _, _, _, _⟩) _ rfl (by rfl) (w.heap.size + 1) 0 (by rfl) t HOK.out (Blk_10.range HT5.out) ?_))
      refine (HSB.out w5).mono ?_
      rintro e w6 ⟨v6, rfl, ho6, hb6⟩
      have HB6 := Lib.hid hb6
      obtain ⟨A9, c9, rfl, _, _, hr6, hg6⟩ := own_rdG ho6 HTL.out
      obtain ⟨g9, rfl, hg61⟩ := hg6 (by decide)
      have HO6 := Lib.hid ho6
      clear hb6 ho6 hr6 hg6
      go_wp2_with fail
      go_loopw [10] (fun i wr => ∃ (k : Nat) (zs : List UInt8), k ≤ 38 ∧ i = .int .i64 (k : Int) ∧ zs.length = 38 ∧ Own8 wr w5.heap.size (.slice (some ⟨g9, 0, none⟩) 38 c9) zs ∧ Below w5.heap.size w5 wr)
        (fun i _ => 38 - (intOf i).toNat)
      case atStart => exact ⟨0, TB, Nat.zero_le _, rfl, HTL.out, HO6.out, HB6.out⟩
      case round =>
        clear HO6 HB6
        obtain ⟨k, zs, hk, rfl, hz, hown, hbel⟩ := hrel
        by_cases hlt : k < 38
        · have h1 : (k : Int) < 38 := by omega
          have h0 : (0 : Int) ≤ (k : Int) := by omega
          obtain ⟨z, hz0⟩ : ∃ z, zs[k]? = some z := ⟨_, List.getElem?_eq_getElem (by rw [hz]; exact hlt)⟩
          have c0 := (show World.ownsRow wr w5.heap.size 5 1 (.slice (some ⟨g9, 0, none⟩) zs.length c9) zs.length (zs.map v8) by have := hown; unfold Own8 at this; rw [hz] at this ⊢; exact this).cellAt k (by rw [hz]; omega)
          have hst := (show World.ownsRow wr w5.heap.size 5 1 (.slice (some ⟨g9, 0, none⟩) zs.length c9) zs.length (zs.map v8) by have := hown; unfold Own8 at this; rw [hz] at this ⊢; exact this).stored k (v8 (z ^^^ 255))
          have f0 := (show World.ownsRow wr w5.heap.size 5 1 (.slice (some ⟨g9, 0, none⟩) zs.length c9) zs.length (zs.map v8) by have := hown; unfold Own8 at this; rw [hz] at this ⊢; exact this).frozenAt k
          rw [List.getElem?_map, hz0] at c0
          have X : bits .xor .u8 (z.toNat : Int) 255 = ((z ^^^ 255).toNat : Int) := xor8h z 255
          have HST : Hid (Own8 (wr.setCell ⟨g9, k, none⟩ (.int .u8 ((z ^^^ 255).toNat : Int))) w5.heap.size (.slice (some ⟨g9, 0, none⟩) 38 c9) (zs.set k (z ^^^ 255))) := Lib.hid (by
            have h1 := hst.1
            rw [hz] at h1
            unfold Own8
            rw [List.length_set, List.map_set, hz]
            exact h1)
          have HBE := Lib.hid (hbel.setCell (p := ⟨g9, k, none⟩) (show w5.heap.size ≤ g9 from hg61) (.int .u8 ((z ^^^ 255).toNat : Int)))
          simp only [Option.map_some, v8] at c0
          have HZL : Hid ((zs.set k (z ^^^ 255)).length = 38) := Lib.hid (by rw [List.length_set, hz])
          obtain ⟨y, hy⟩ : ∃ y, z ^^^ 255 = y := ⟨_, rfl⟩
          rw [hy] at X HST HBE HZL
          clear hst hy hz0 hz hown hbel hk
          go_wp2_with fail
          go_roundw
          case rel => exact ⟨k + 1, _, by omega, by go_num, HZL.out, HST.out, HBE.out⟩
          case measure => simp [intOf]; omega
        · obtain rfl : k = 38 := by omega
          have h1 : ¬ ((38 : Nat) : Int) < 38 := by omega
          have HL := Lib.hid hbel
          have HB9 := Lib.hid (HB5.out.trans (hbel.mono HB5.out.size))
          have HK9 := Lib.hid (Blk_10.below HK5.out (Blk_10.lt HK5.out) hbel)
          have HT9 := Lib.hid (Blk_10.below HT5.out (Blk_10.lt HT5.out) hbel)
          have HR9 := Lib.hid ((HR75.out.below hbel).more hbel.size)
          have HI9 := Lib.hid ((HI.out.below HB9.out).more HB9.out.size)
          clear hown hbel hz hlt hk
          go_wp2_with fail
          refine wp_region_held_drew (S := fun W => Below wr.heap.size wr W) (by kernel_rfl) ((Below.refl _ _).drew) (fun hHeld => ?_)
          obtain ⟨X, hX⟩ : ∃ X, wr.drew = X := ⟨_, rfl⟩
          rw [hX] at hHeld ⊢
          clear hX
          refine tk 0 47 (.slice A7 len c7) rfl hHeld ?_
          simp only [Act.put, sA, sZ, sS]
          refine tk 1 48 (.slice A len cap) rfl hHeld ?_
          simp only [Act.put, sA, sZ, sS]
          refine wpAnyH_ready (rs := [2]) (by kernel_rfl) (by simp) (AllReadyH.cons (o := ⟨some 49, _, _, _, _, _⟩) rfl (fun K hK => ?_) AllReadyH.nil)
          go_simp
          refine (same_any X c7 cap (HR9.out.below hHeld) (HI9.out.below hHeld)).mono ?_
          rintro e W ⟨rfl, rfl⟩
          refine hK.out _ _ (hHeld) (fun hHeld => ?_)
          clear hK K 
          refine tk 3 50 (.bool true) rfl hHeld ?_
          simp only [Act.put, sA, sZ, sS]
          refine tkY 4 51 (keyC key) rfl (yields_key (by rfl) _ rfl w.heap.size rfl key HKL.out (fun W hW => Blk_10.below HK9.out (Blk_10.lt HK9.out) hW)) hHeld ?_
          simp only [Act.put, sA, sZ, sS]
          refine tk 5 52 (.slice A7 len c7) rfl hHeld ?_
          simp only [Act.put, sA, sZ, sS]
          refine tk 8 55 (.int .u64 (hv : Int)) rfl hHeld ?_
          simp only [Act.put, sA, sZ, sS]
          refine wpAnyH_ready (rs := [6]) (by kernel_rfl) (by simp) (AllReadyH.cons (o := ⟨some 53, _, _, _, _, _⟩) rfl (fun K hK => ?_) AllReadyH.nil)
          go_simp
          have HX1 := Lib.hid (hHeld.alloc hHeld.size (.cells #[.slice A7 len c7] 23))
          have HL1 := Lib.hid (LsAt.one (w := X) (B := X.heap.size) (n := len) (c := c7) ((HR9.out.below hHeld).more hHeld.size) (Nat.le_refl _) HC7.out HM7.out)
          obtain ⟨Y1, hY⟩ : ∃ Y, X.alloc (.cells #[.slice A7 len c7] 23) = Y := ⟨_, rfl⟩
          have hs := World.size_alloc X (.cells #[.slice A7 len c7] 23)
          rw [hY] at HX1 HL1 hs ⊢
          rw [← hs] at HL1
          clear hY hs
          generalize X.heap.size = g1 at HL1 ⊢
          refine hK.out _ _ (HX1.out) (fun hHeld => ?_)
          clear hK K 
          refine wpAnyH_ready (rs := [7]) (by kernel_rfl) (by simp) (AllReadyH.cons (o := ⟨some 54, _, _, _, _, _⟩) rfl (fun K hK => ?_) AllReadyH.nil)
          go_simp
          refine (HSO.out _ Y1 HL1.out).mono ?_
          rintro e Z1 ⟨rfl, hb⟩
          have HZ1 := Lib.hid (hHeld.trans (hb.mono hHeld.size))
          refine hK.out _ _ (HZ1.out) (fun hHeld => ?_)
          clear hK K hb HL1 HX1
          refine tk 9 56 (.bool true) rfl hHeld ?_
          simp only [Act.put, sA, sZ, sS]
          refine tk 10 57 (.bool true) rfl hHeld ?_
          simp only [Act.put, sA, sZ, sS]
          refine tk 11 58 (.bool true) rfl hHeld ?_
          simp only [Act.put, sA, sZ, sS]
          refine tkY 12 59 (tuC t) rfl (yields_tu (by rfl) _ rfl (w.heap.size + 1) rfl t HOK.out (fun W hW => Blk_10.below HT9.out (Blk_10.lt HT9.out) hW)) hHeld ?_
          simp only [Act.put, sA, sZ, sS]
          refine tkY 14 61 (tuC t) rfl (yields_tu (by rfl) _ rfl (w.heap.size + 1) rfl t HOK.out (fun W hW => Blk_10.below HT9.out (Blk_10.lt HT9.out) hW)) hHeld ?_
          simp only [Act.put, sA, sZ, sS]
          refine wpAnyH_ready (rs := [13]) (by kernel_rfl) (by simp) (AllReadyH.cons (o := ⟨some 60, _, _, _, _, _⟩) rfl (fun K hK => ?_) AllReadyH.nil)
          go_simp
          refine (HSB.out _).mono ?_
          rintro e Z2 ⟨v, rfl, hown, hb⟩
          have HZ2 := Lib.hid (hHeld.trans (hb.mono hHeld.size))
          obtain ⟨A4, c4, rfl, _, _, hr⟩ := hown.formN HTL.out
          have HR4 := Lib.hid hr
          refine hK.out _ _ (HZ2.out) (fun hHeld => ?_)
          clear hK K hb hown hr HZ1
          refine wpAnyH_ready (rs := [15]) (by kernel_rfl) (by simp) (AllReadyH.cons (o := ⟨some 62, _, _, _, _, _⟩) rfl (fun K hK => ?_) AllReadyH.nil)
          go_simp
          refine (HRB.out _).mono ?_
          rintro e Z3 ⟨v, rfl, hown, hb⟩
          have HZ3 := Lib.hid (hHeld.trans (hb.mono hHeld.size))
          obtain ⟨A5, c5, rfl, _, _, hr⟩ := hown.formN HTL.out
          have HR5 := Lib.hid hr
          have HR6 := Lib.hid (HR4.out.below hb)
          refine hK.out _ _ (HZ3.out) (fun hHeld => ?_)
          clear hK K hb hown hr HZ2
          refine wpAnyH_ready (rs := [16]) (by kernel_rfl) (by simp) (AllReadyH.cons (o := ⟨some 63, _, _, _, _, _⟩) rfl (fun K hK => ?_) AllReadyH.nil)
          go_simp
          refine (same_any Z3 c4 c5 HR6.out HR5.out).mono ?_
          rintro e W ⟨rfl, rfl⟩
          refine hK.out _ _ (hHeld) (fun hHeld => ?_)
          clear hK K 
          refine tk 17 64 (.bool true) rfl hHeld ?_
          simp only [Act.put, sA, sZ, sS]
          refine tk 18 6 (.bool true) rfl hHeld ?_
          simp only [Act.put, sA, sZ, sS]
          refine wpAnyH_done (by kernel_rfl) ?_ _
          go_wp2_with fail
          go_ret
          exact ⟨rfl, HB9.out.trans (hHeld.mono HB9.out.size)⟩
end Go.Proofs.Ythfeamkomhiemaa
