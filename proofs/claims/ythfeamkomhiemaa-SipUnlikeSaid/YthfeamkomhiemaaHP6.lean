/-
  The program's Bytes of a tuple.
-/
import Derived.Test.YthfeamkomhiemaaHP4
import Derived.Test.YthfeamkomhiemaaHRBy
namespace Go.Proofs.Ythfeamkomhiemaa
set_option maxRecDepth 100000
open Go.RowKit Go.Lib

theorem Rd.next {w w' : World} {A : Option Addr} {n : Nat} {xs : List UInt8} (h : Rd w w.heap.size A n xs) (hb : Below w.heap.size w w') : Rd w' w'.heap.size A n xs := (h.below hb).more hb.size
/-- What the region's four makers have laid. -/
structure B4 (Y W : World) (x y : UInt8) (ps pd : List UInt8) (A8 A18 A21 A24 : Option Addr) (c21 c24 : Nat) : Prop where
  bel : Below Y.heap.size Y W
  r8 : Rd W W.heap.size A8 1 [x]
  r18 : Rd W W.heap.size A18 1 [y]
  r21 : Rd W W.heap.size A21 2 ps
  r24 : Rd W W.heap.size A24 2 pd
  k21 : 2 ≤ c21
  m21 : c21 ≤ maxLen
  k24 : 2 ≤ c24
  m24 : c24 ≤ maxLen
theorem cut_b4 {goal : Prop} {H M : World → Option Addr → Option Addr → Option Addr → Option Addr → Nat → Nat → Prop} (h1 : (∀ W a b c d e f, H W a b c d e f → M W a b c d e f) → goal) (h2 : ∀ W a b c d e f, H W a b c d e f → M W a b c d e f) : goal := h1 h2
theorem tu_srcR {w : World} {g : Nat} {t : Tu} (h : Blk w 34 g (tuL t)) (ho : t.Ok) : Rd w w.heap.size (some ⟨g, 1, none⟩) 16 t.s.b :=
  ⟨ho.s, fun _ => ⟨g, 1, rfl, Blk_10.lt h, fun _ _ hx => tu_srcB h hx⟩⟩
theorem tu_dstR {w : World} {g : Nat} {t : Tu} (h : Blk w 34 g (tuL t)) (ho : t.Ok) : Rd w w.heap.size (some ⟨g, 18, none⟩) 16 t.d.b :=
  ⟨ho.d, fun _ => ⟨g, 18, rfl, Blk_10.lt h, fun _ _ hx => tu_dstB h ho hx⟩⟩
set_option maxHeartbeats 2000000 in
/-- slices.Concat of six texts, their slices just laid in a row of new memory. -/
theorem concat_six (W : World) {A1 A2 A3 A4 A5 A6 : Option Addr} {c5 c6 : Nat} {x1 x2 x3 x4 x5 x6 : List UInt8} (h1 : Rd W W.heap.size A1 1 x1) (h2 : Rd W W.heap.size A2 16 x2) (h3 : Rd W W.heap.size A3 16 x3) (h4 : Rd W W.heap.size A4 1 x4) (h5 : Rd W W.heap.size A5 2 x5) (h6 : Rd W W.heap.size A6 2 x6)
    (k5 : 2 ≤ c5) (m5 : c5 ≤ maxLen) (k6 : 2 ≤ c6) (m6 : c6 ≤ maxLen) :
    Calls Try.prog 16 #[.slice (some ⟨W.heap.size, 0, none⟩) 6 6] (W.alloc (.cells #[.slice A1 1 1, .slice A2 16 16, .slice A3 16 16, .slice A4 1 1, .slice A5 2 c5, .slice A6 2 c6] 23)) fun e W' => ∃ v, e = .returned v ∧ Own8 W' W.heap.size v (x1 ++ (x2 ++ (x3 ++ (x4 ++ (x5 ++ x6))))) ∧ Below W.heap.size W W' := by
  have hl := ((((((CellsAt.nil_ W W.heap.size).cons h6 k6 m6).cons h5 k5 m5).cons h4 (Nat.le_refl _) (small_max (by omega))).cons h3 (Nat.le_refl _) (small_max (by omega))).cons h2 (Nat.le_refl _) (small_max (by omega))).cons h1 (Nat.le_refl _) (small_max (by omega))
  have hl := hl.laid (Nat.le_refl _) 6 rfl
  have hf : ([x1, x2, x3, x4, x5, x6] : List (List UInt8)).flatten = x1 ++ (x2 ++ (x3 ++ (x4 ++ (x5 ++ x6)))) := by simp
  have h := concat_all (some ⟨W.heap.size, 0, none⟩) 6 6 [x1, x2, x3, x4, x5, x6] (by omega) (by rw [hf, List.length_append, List.length_append, List.length_append, List.length_append, List.length_append, h1.len, h2.len, h3.len, h4.len, h5.len, h6.len]; omega) _ hl (by rw [World.size_alloc]; exact Nat.le_refl _)
  rw [hf] at h
  have hb0 : Below W.heap.size W (W.alloc (.cells #[.slice A1 1 1, .slice A2 16 16, .slice A3 16 16, .slice A4 1 1, .slice A5 2 c5, .slice A6 2 c6] 23)) := (Below.refl W.heap.size W).alloc (Nat.le_refl _) _
  refine h.mono ?_
  rintro e W' ⟨v, he, hv, hb⟩
  exact ⟨v, he, hv.base_le hb0.size, hb0.trans (hb.mono hb0.size)⟩
set_option maxHeartbeats 16000000 in
theorem pbytes_any {t : Tu} (ho : t.Ok) (hf : t.Fit) (w : World) : Calls Try.prog 12 #[tuC t] w fun e W' => ∃ v, e = .returned v ∧ Own8 W' w.heap.size v (tuB t) ∧ Below w.heap.size w W' := by
  obtain ⟨Y, hY, hb, hbel, hys⟩ := box_tu1 w t
  have d0 := tu_six hb
  obtain ⟨d2, d3, d4⟩ := tu_num hb ho
  obtain ⟨p, hp⟩ := Int.eq_ofNat_of_zero_le hf.pr.1
  obtain ⟨s, hs⟩ := Int.eq_ofNat_of_zero_le hf.sp.1
  obtain ⟨d, hd⟩ := Int.eq_ofNat_of_zero_le hf.dp.1
  have lp : p < 256 := by have := hf.pr.2; omega
  have ls : s < 65536 := by have := hf.sp.2; omega
  have ld : d < 65536 := by have := hf.dp.2; omega
  rw [hp] at d2
  rw [hs] at d3
  rw [hd] at d4
  obtain ⟨y, hy⟩ : ∃ y, UInt8.ofNat p = y := ⟨_, rfl⟩
  have hwp : IntKind.u8.wrap (p : Int) = (y.toNat : Int) := by
    rw [← hy, ← byte_val lp, IntKind.wrap_u8]
    omega
  have HT : Hid (tuB t = [(if t.s.six then 6 else 4)] ++ (t.s.b ++ (t.d.b ++ ([y] ++ (bePW s ++ bePW d))))) := Lib.hid (by
    unfold tuB
    rw [hp, hs, hd, Int.toNat_natCast, hy]
    rfl)
  obtain ⟨R, hR⟩ : ∃ R, tuB t = R := ⟨_, rfl⟩
  rw [hR]
  rw [hR] at HT
  have HP1 := Lib.hid (fun W => pport_any s ls W)
  have HP2 := Lib.hid (fun W => pport_any d ld W)
  have HB := Lib.hid hb
  have HOK := Lib.hid ho
  have HG := Lib.hid (Blk_10.lt hb)
  obtain ⟨ps, hps⟩ : ∃ l, bePW (s : Int) = l := ⟨_, rfl⟩
  obtain ⟨pd, hpd⟩ : ∃ l, bePW (d : Int) = l := ⟨_, rfl⟩
  have hl1 : ps.length = 2 := by rw [← hps]; rfl
  have hl2 : pd.length = 2 := by rw [← hpd]; rfl
  rw [hps] at HP1 HT
  rw [hpd] at HP2 HT
  have HL1 := Lib.hid hl1
  have HL2 := Lib.hid hl2
  have D2 : Hid (∀ W, Below Y.heap.size Y W → W.cell? ⟨w.heap.size, 34, none⟩ = some (.int .i64 (p : Int))) := Lib.hid (fun W hW => (hW.cell (p := ⟨w.heap.size, 34, none⟩) HG.out).trans d2)
  have D3 : Hid (∀ W, Below Y.heap.size Y W → W.cell? ⟨w.heap.size, 35, none⟩ = some (.int .i64 (s : Int))) := Lib.hid (fun W hW => (hW.cell (p := ⟨w.heap.size, 35, none⟩) HG.out).trans d3)
  have D4 : Hid (∀ W, Below Y.heap.size Y W → W.cell? ⟨w.heap.size, 36, none⟩ = some (.int .i64 (d : Int))) := Lib.hid (fun W hW => (hW.cell (p := ⟨w.heap.size, 36, none⟩) HG.out).trans d4)
  obtain ⟨C, hC⟩ : ∃ C, (tuL t).toArray = C := ⟨_, rfl⟩
  unfold tuC
  rw [hC] at hY ⊢
  have HY := Lib.hid hY
  have HBel := Lib.hid hbel
  have HYS := Lib.hid hys
  obtain ⟨a, ha⟩ : ∃ a, t.s.six = a := ⟨_, rfl⟩
  rw [ha] at d0 HT
  rw [← hY] at d0
  clear ha hps hpd hl1 hl2 hR hp hs hd hy hb ho hf hY hC hbel hys d2 d3 d4 lp ls ld
  cases a
  · rw [if_neg (by decide)] at HT
    go_enter Try.func12, Try.ntmps12
    go_wp2_with fail
    rw [HY.out]
    apply cut_b4 (H := fun W A8 A18 A21 A24 c21 c24 => B4 Y W 4 y ps pd A8 A18 A21 A24 c21 c24)
    case h1 =>
      intro hc
      refine wp_region_held_drew (S := fun W => Below Y.heap.size Y W) (by kernel_rfl) ((Below.refl Y.heap.size Y).drew) (fun hHeld => ?_)
      obtain ⟨X0, hX0⟩ : ∃ X, Y.drew = X := ⟨_, rfl⟩
      rw [hX0] at hHeld ⊢
      clear hX0
      refine tk 0 7 (.int .u8 4) rfl hHeld ?_
      simp only [Act.put, sA, sZ, sS]
      refine tk 2 9 (.pointer (some ⟨w.heap.size, 0, none⟩)) rfl hHeld ?_
      simp only [Act.put, sA, sZ, sS]
      refine tk 3 10 (.pointer (some ⟨w.heap.size, 1, none⟩)) rfl hHeld ?_
      simp only [Act.put, sA, sZ, sS]
      refine tk 4 11 (.slice (some ⟨w.heap.size, 1, none⟩) 16 16) rfl hHeld ?_
      simp only [Act.put, sA, sZ, sS]
      refine tk 5 12 (.pointer (some ⟨w.heap.size, 17, none⟩)) rfl hHeld ?_
      simp only [Act.put, sA, sZ, sS]
      refine tk 6 13 (.pointer (some ⟨w.heap.size, 18, none⟩)) rfl hHeld ?_
      simp only [Act.put, sA, sZ, sS]
      refine tk 7 14 (.slice (some ⟨w.heap.size, 18, none⟩) 16 16) rfl hHeld ?_
      simp only [Act.put, sA, sZ, sS]
      refine tk 8 15 (.pointer (some ⟨w.heap.size, 34, none⟩)) rfl hHeld ?_
      simp only [Act.put, sA, sZ, sS]
      refine tkY 9 16 (.int .i64 (p : Int)) rfl (Or.inl ⟨by rfl, fun W hW => by have hc := D2.out W hW; go_simp⟩) hHeld ?_
      simp only [Act.put, sA, sZ, sS]
      refine tk 10 17 (.int .u8 (y.toNat : Int)) rfl hHeld ?_
      simp only [Act.put, sA, sZ, sS]
      refine tk 12 19 (.pointer (some ⟨w.heap.size, 35, none⟩)) rfl hHeld ?_
      simp only [Act.put, sA, sZ, sS]
      refine tkY 13 20 (.int .i64 (s : Int)) rfl (Or.inl ⟨by rfl, fun W hW => by have hc := D3.out W hW; go_simp⟩) hHeld ?_
      simp only [Act.put, sA, sZ, sS]
      refine tk 15 22 (.pointer (some ⟨w.heap.size, 36, none⟩)) rfl hHeld ?_
      simp only [Act.put, sA, sZ, sS]
      refine tkY 16 23 (.int .i64 (d : Int)) rfl (Or.inl ⟨by rfl, fun W hW => by have hc := D4.out W hW; go_simp⟩) hHeld ?_
      simp only [Act.put, sA, sZ, sS]
      refine wpAnyH_ready (rs := [1, 11, 14]) (by kernel_rfl) (by simp) (AllReadyH.cons (o := ⟨some 8, _, _, _, _, _⟩) rfl (fun K hK => ?_) (AllReadyH.cons (o := ⟨some 18, _, _, _, _, _⟩) rfl (fun K hK => ?_) (AllReadyH.cons (o := ⟨some 21, _, _, _, _, _⟩) rfl (fun K hK => ?_) AllReadyH.nil)))
      · go_simp
        have hb' : Below X0.heap.size X0 (X0.alloc (.cells #[.int .u8 4] 5)) := (Below.refl _ _).alloc (Nat.le_refl _) _
        have hr' : Rd (X0.alloc (.cells #[.int .u8 4] 5)) (X0.alloc (.cells #[.int .u8 4] 5)).heap.size (some ⟨X0.heap.size, 0, none⟩) 1 [4] := (Rd.one X0 (4)).more (by rw [World.size_alloc]; exact Nat.le_refl _)
        obtain ⟨X1, hX⟩ : ∃ X, X0.alloc (.cells #[.int .u8 4] 5) = X := ⟨_, rfl⟩
        rw [hX] at hb' hr' ⊢
        obtain ⟨A8, hA⟩ : ∃ A : Option Addr, some ⟨X0.heap.size, 0, none⟩ = A := ⟨_, rfl⟩
        rw [hA] at hr' ⊢
        clear hA hX
        have HR8 := Lib.hid hr'
        refine hK.out _ _ (hHeld.trans (hb'.mono hHeld.size)) (fun hHeld => ?_)
        clear hK K hr' hb'
        refine wpAnyH_ready (rs := [11, 14]) (by kernel_rfl) (by simp) (AllReadyH.cons (o := ⟨some 18, _, _, _, _, _⟩) rfl (fun K hK => ?_) (AllReadyH.cons (o := ⟨some 21, _, _, _, _, _⟩) rfl (fun K hK => ?_) AllReadyH.nil))
        · go_simp
          have hb' : Below X1.heap.size X1 (X1.alloc (.cells #[.int .u8 (y.toNat : Int)] 5)) := (Below.refl _ _).alloc (Nat.le_refl _) _
          have hr' : Rd (X1.alloc (.cells #[.int .u8 (y.toNat : Int)] 5)) (X1.alloc (.cells #[.int .u8 (y.toNat : Int)] 5)).heap.size (some ⟨X1.heap.size, 0, none⟩) 1 [y] := (Rd.one X1 (y)).more (by rw [World.size_alloc]; exact Nat.le_refl _)
          obtain ⟨X2, hX⟩ : ∃ X, X1.alloc (.cells #[.int .u8 (y.toNat : Int)] 5) = X := ⟨_, rfl⟩
          rw [hX] at hb' hr' ⊢
          obtain ⟨A18, hA⟩ : ∃ A : Option Addr, some ⟨X1.heap.size, 0, none⟩ = A := ⟨_, rfl⟩
          rw [hA] at hr' ⊢
          clear hA hX
          have HR8' := Lib.hid (HR8.out.next hb')
          clear HR8
          have HR8 := HR8'
          clear HR8'
          have HR18 := Lib.hid hr'
          refine hK.out _ _ (hHeld.trans (hb'.mono hHeld.size)) (fun hHeld => ?_)
          clear hK K hr' hb'
          refine wpAnyH_ready (rs := [14]) (by kernel_rfl) (by simp) (AllReadyH.cons (o := ⟨some 21, _, _, _, _, _⟩) rfl (fun K hK => ?_) AllReadyH.nil)
          go_simp
          refine (HP1.out X2).mono ?_
          rintro e X3 ⟨v, rfl, hov, hb'⟩
          obtain ⟨A21, m, c21, rfl, hm, hkk, hmm, hr'⟩ := hov.sl
          rw [HL1.out] at hm
          subst hm
          have HK21 := Lib.hid hkk
          have HM21 := Lib.hid hmm
          clear hov hkk hmm
          have HR8' := Lib.hid (HR8.out.next hb')
          clear HR8
          have HR8 := HR8'
          clear HR8'
          have HR18' := Lib.hid (HR18.out.next hb')
          clear HR18
          have HR18 := HR18'
          clear HR18'
          have HR21 := Lib.hid hr'
          refine hK.out _ _ (hHeld.trans (hb'.mono hHeld.size)) (fun hHeld => ?_)
          clear hK K hr' hb'
          refine wpAnyH_ready (rs := [17]) (by kernel_rfl) (by simp) (AllReadyH.cons (o := ⟨some 24, _, _, _, _, _⟩) rfl (fun K hK => ?_) AllReadyH.nil)
          go_simp
          refine (HP2.out X3).mono ?_
          rintro e X4 ⟨v, rfl, hov, hb'⟩
          obtain ⟨A24, m, c24, rfl, hm, hkk, hmm, hr'⟩ := hov.sl
          rw [HL2.out] at hm
          subst hm
          have HK24 := Lib.hid hkk
          have HM24 := Lib.hid hmm
          clear hov hkk hmm
          have HR8' := Lib.hid (HR8.out.next hb')
          clear HR8
          have HR8 := HR8'
          clear HR8'
          have HR18' := Lib.hid (HR18.out.next hb')
          clear HR18
          have HR18 := HR18'
          clear HR18'
          have HR21' := Lib.hid (HR21.out.next hb')
          clear HR21
          have HR21 := HR21'
          clear HR21'
          have HR24 := Lib.hid hr'
          refine hK.out _ _ (hHeld.trans (hb'.mono hHeld.size)) (fun hHeld => ?_)
          clear hK K hr' hb'
          exact hc X4 A8 A18 A21 A24 c21 c24 ⟨hHeld, HR8.out, HR18.out, HR21.out, HR24.out, HK21.out, HM21.out, HK24.out, HM24.out⟩
        · go_simp
          refine (HP1.out X1).mono ?_
          rintro e X2 ⟨v, rfl, hov, hb'⟩
          obtain ⟨A21, m, c21, rfl, hm, hkk, hmm, hr'⟩ := hov.sl
          rw [HL1.out] at hm
          subst hm
          have HK21 := Lib.hid hkk
          have HM21 := Lib.hid hmm
          clear hov hkk hmm
          have HR8' := Lib.hid (HR8.out.next hb')
          clear HR8
          have HR8 := HR8'
          clear HR8'
          have HR21 := Lib.hid hr'
          refine hK.out _ _ (hHeld.trans (hb'.mono hHeld.size)) (fun hHeld => ?_)
          clear hK K hr' hb'
          refine wpAnyH_ready (rs := [11, 17]) (by kernel_rfl) (by simp) (AllReadyH.cons (o := ⟨some 18, _, _, _, _, _⟩) rfl (fun K hK => ?_) (AllReadyH.cons (o := ⟨some 24, _, _, _, _, _⟩) rfl (fun K hK => ?_) AllReadyH.nil))
          · go_simp
            have hb' : Below X2.heap.size X2 (X2.alloc (.cells #[.int .u8 (y.toNat : Int)] 5)) := (Below.refl _ _).alloc (Nat.le_refl _) _
            have hr' : Rd (X2.alloc (.cells #[.int .u8 (y.toNat : Int)] 5)) (X2.alloc (.cells #[.int .u8 (y.toNat : Int)] 5)).heap.size (some ⟨X2.heap.size, 0, none⟩) 1 [y] := (Rd.one X2 (y)).more (by rw [World.size_alloc]; exact Nat.le_refl _)
            obtain ⟨X3, hX⟩ : ∃ X, X2.alloc (.cells #[.int .u8 (y.toNat : Int)] 5) = X := ⟨_, rfl⟩
            rw [hX] at hb' hr' ⊢
            obtain ⟨A18, hA⟩ : ∃ A : Option Addr, some ⟨X2.heap.size, 0, none⟩ = A := ⟨_, rfl⟩
            rw [hA] at hr' ⊢
            clear hA hX
            have HR8' := Lib.hid (HR8.out.next hb')
            clear HR8
            have HR8 := HR8'
            clear HR8'
            have HR21' := Lib.hid (HR21.out.next hb')
            clear HR21
            have HR21 := HR21'
            clear HR21'
            have HR18 := Lib.hid hr'
            refine hK.out _ _ (hHeld.trans (hb'.mono hHeld.size)) (fun hHeld => ?_)
            clear hK K hr' hb'
            refine wpAnyH_ready (rs := [17]) (by kernel_rfl) (by simp) (AllReadyH.cons (o := ⟨some 24, _, _, _, _, _⟩) rfl (fun K hK => ?_) AllReadyH.nil)
            go_simp
            refine (HP2.out X3).mono ?_
            rintro e X4 ⟨v, rfl, hov, hb'⟩
            obtain ⟨A24, m, c24, rfl, hm, hkk, hmm, hr'⟩ := hov.sl
            rw [HL2.out] at hm
            subst hm
            have HK24 := Lib.hid hkk
            have HM24 := Lib.hid hmm
            clear hov hkk hmm
            have HR8' := Lib.hid (HR8.out.next hb')
            clear HR8
            have HR8 := HR8'
            clear HR8'
            have HR21' := Lib.hid (HR21.out.next hb')
            clear HR21
            have HR21 := HR21'
            clear HR21'
            have HR18' := Lib.hid (HR18.out.next hb')
            clear HR18
            have HR18 := HR18'
            clear HR18'
            have HR24 := Lib.hid hr'
            refine hK.out _ _ (hHeld.trans (hb'.mono hHeld.size)) (fun hHeld => ?_)
            clear hK K hr' hb'
            exact hc X4 A8 A18 A21 A24 c21 c24 ⟨hHeld, HR8.out, HR18.out, HR21.out, HR24.out, HK21.out, HM21.out, HK24.out, HM24.out⟩
          · go_simp
            refine (HP2.out X2).mono ?_
            rintro e X3 ⟨v, rfl, hov, hb'⟩
            obtain ⟨A24, m, c24, rfl, hm, hkk, hmm, hr'⟩ := hov.sl
            rw [HL2.out] at hm
            subst hm
            have HK24 := Lib.hid hkk
            have HM24 := Lib.hid hmm
            clear hov hkk hmm
            have HR8' := Lib.hid (HR8.out.next hb')
            clear HR8
            have HR8 := HR8'
            clear HR8'
            have HR21' := Lib.hid (HR21.out.next hb')
            clear HR21
            have HR21 := HR21'
            clear HR21'
            have HR24 := Lib.hid hr'
            refine hK.out _ _ (hHeld.trans (hb'.mono hHeld.size)) (fun hHeld => ?_)
            clear hK K hr' hb'
            refine wpAnyH_ready (rs := [11]) (by kernel_rfl) (by simp) (AllReadyH.cons (o := ⟨some 18, _, _, _, _, _⟩) rfl (fun K hK => ?_) AllReadyH.nil)
            go_simp
            have hb' : Below X3.heap.size X3 (X3.alloc (.cells #[.int .u8 (y.toNat : Int)] 5)) := (Below.refl _ _).alloc (Nat.le_refl _) _
            have hr' : Rd (X3.alloc (.cells #[.int .u8 (y.toNat : Int)] 5)) (X3.alloc (.cells #[.int .u8 (y.toNat : Int)] 5)).heap.size (some ⟨X3.heap.size, 0, none⟩) 1 [y] := (Rd.one X3 (y)).more (by rw [World.size_alloc]; exact Nat.le_refl _)
            obtain ⟨X4, hX⟩ : ∃ X, X3.alloc (.cells #[.int .u8 (y.toNat : Int)] 5) = X := ⟨_, rfl⟩
            rw [hX] at hb' hr' ⊢
            obtain ⟨A18, hA⟩ : ∃ A : Option Addr, some ⟨X3.heap.size, 0, none⟩ = A := ⟨_, rfl⟩
            rw [hA] at hr' ⊢
            clear hA hX
            have HR8' := Lib.hid (HR8.out.next hb')
            clear HR8
            have HR8 := HR8'
            clear HR8'
            have HR21' := Lib.hid (HR21.out.next hb')
            clear HR21
            have HR21 := HR21'
            clear HR21'
            have HR24' := Lib.hid (HR24.out.next hb')
            clear HR24
            have HR24 := HR24'
            clear HR24'
            have HR18 := Lib.hid hr'
            refine hK.out _ _ (hHeld.trans (hb'.mono hHeld.size)) (fun hHeld => ?_)
            clear hK K hr' hb'
            exact hc X4 A8 A18 A21 A24 c21 c24 ⟨hHeld, HR8.out, HR18.out, HR21.out, HR24.out, HK21.out, HM21.out, HK24.out, HM24.out⟩
      · go_simp
        have hb' : Below X0.heap.size X0 (X0.alloc (.cells #[.int .u8 (y.toNat : Int)] 5)) := (Below.refl _ _).alloc (Nat.le_refl _) _
        have hr' : Rd (X0.alloc (.cells #[.int .u8 (y.toNat : Int)] 5)) (X0.alloc (.cells #[.int .u8 (y.toNat : Int)] 5)).heap.size (some ⟨X0.heap.size, 0, none⟩) 1 [y] := (Rd.one X0 (y)).more (by rw [World.size_alloc]; exact Nat.le_refl _)
        obtain ⟨X1, hX⟩ : ∃ X, X0.alloc (.cells #[.int .u8 (y.toNat : Int)] 5) = X := ⟨_, rfl⟩
        rw [hX] at hb' hr' ⊢
        obtain ⟨A18, hA⟩ : ∃ A : Option Addr, some ⟨X0.heap.size, 0, none⟩ = A := ⟨_, rfl⟩
        rw [hA] at hr' ⊢
        clear hA hX
        have HR18 := Lib.hid hr'
        refine hK.out _ _ (hHeld.trans (hb'.mono hHeld.size)) (fun hHeld => ?_)
        clear hK K hr' hb'
        refine wpAnyH_ready (rs := [1, 14]) (by kernel_rfl) (by simp) (AllReadyH.cons (o := ⟨some 8, _, _, _, _, _⟩) rfl (fun K hK => ?_) (AllReadyH.cons (o := ⟨some 21, _, _, _, _, _⟩) rfl (fun K hK => ?_) AllReadyH.nil))
        · go_simp
          have hb' : Below X1.heap.size X1 (X1.alloc (.cells #[.int .u8 4] 5)) := (Below.refl _ _).alloc (Nat.le_refl _) _
          have hr' : Rd (X1.alloc (.cells #[.int .u8 4] 5)) (X1.alloc (.cells #[.int .u8 4] 5)).heap.size (some ⟨X1.heap.size, 0, none⟩) 1 [4] := (Rd.one X1 (4)).more (by rw [World.size_alloc]; exact Nat.le_refl _)
          obtain ⟨X2, hX⟩ : ∃ X, X1.alloc (.cells #[.int .u8 4] 5) = X := ⟨_, rfl⟩
          rw [hX] at hb' hr' ⊢
          obtain ⟨A8, hA⟩ : ∃ A : Option Addr, some ⟨X1.heap.size, 0, none⟩ = A := ⟨_, rfl⟩
          rw [hA] at hr' ⊢
          clear hA hX
          have HR18' := Lib.hid (HR18.out.next hb')
          clear HR18
          have HR18 := HR18'
          clear HR18'
          have HR8 := Lib.hid hr'
          refine hK.out _ _ (hHeld.trans (hb'.mono hHeld.size)) (fun hHeld => ?_)
          clear hK K hr' hb'
          refine wpAnyH_ready (rs := [14]) (by kernel_rfl) (by simp) (AllReadyH.cons (o := ⟨some 21, _, _, _, _, _⟩) rfl (fun K hK => ?_) AllReadyH.nil)
          go_simp
          refine (HP1.out X2).mono ?_
          rintro e X3 ⟨v, rfl, hov, hb'⟩
          obtain ⟨A21, m, c21, rfl, hm, hkk, hmm, hr'⟩ := hov.sl
          rw [HL1.out] at hm
          subst hm
          have HK21 := Lib.hid hkk
          have HM21 := Lib.hid hmm
          clear hov hkk hmm
          have HR18' := Lib.hid (HR18.out.next hb')
          clear HR18
          have HR18 := HR18'
          clear HR18'
          have HR8' := Lib.hid (HR8.out.next hb')
          clear HR8
          have HR8 := HR8'
          clear HR8'
          have HR21 := Lib.hid hr'
          refine hK.out _ _ (hHeld.trans (hb'.mono hHeld.size)) (fun hHeld => ?_)
          clear hK K hr' hb'
          refine wpAnyH_ready (rs := [17]) (by kernel_rfl) (by simp) (AllReadyH.cons (o := ⟨some 24, _, _, _, _, _⟩) rfl (fun K hK => ?_) AllReadyH.nil)
          go_simp
          refine (HP2.out X3).mono ?_
          rintro e X4 ⟨v, rfl, hov, hb'⟩
          obtain ⟨A24, m, c24, rfl, hm, hkk, hmm, hr'⟩ := hov.sl
          rw [HL2.out] at hm
          subst hm
          have HK24 := Lib.hid hkk
          have HM24 := Lib.hid hmm
          clear hov hkk hmm
          have HR18' := Lib.hid (HR18.out.next hb')
          clear HR18
          have HR18 := HR18'
          clear HR18'
          have HR8' := Lib.hid (HR8.out.next hb')
          clear HR8
          have HR8 := HR8'
          clear HR8'
          have HR21' := Lib.hid (HR21.out.next hb')
          clear HR21
          have HR21 := HR21'
          clear HR21'
          have HR24 := Lib.hid hr'
          refine hK.out _ _ (hHeld.trans (hb'.mono hHeld.size)) (fun hHeld => ?_)
          clear hK K hr' hb'
          exact hc X4 A8 A18 A21 A24 c21 c24 ⟨hHeld, HR8.out, HR18.out, HR21.out, HR24.out, HK21.out, HM21.out, HK24.out, HM24.out⟩
        · go_simp
          refine (HP1.out X1).mono ?_
          rintro e X2 ⟨v, rfl, hov, hb'⟩
          obtain ⟨A21, m, c21, rfl, hm, hkk, hmm, hr'⟩ := hov.sl
          rw [HL1.out] at hm
          subst hm
          have HK21 := Lib.hid hkk
          have HM21 := Lib.hid hmm
          clear hov hkk hmm
          have HR18' := Lib.hid (HR18.out.next hb')
          clear HR18
          have HR18 := HR18'
          clear HR18'
          have HR21 := Lib.hid hr'
          refine hK.out _ _ (hHeld.trans (hb'.mono hHeld.size)) (fun hHeld => ?_)
          clear hK K hr' hb'
          refine wpAnyH_ready (rs := [1, 17]) (by kernel_rfl) (by simp) (AllReadyH.cons (o := ⟨some 8, _, _, _, _, _⟩) rfl (fun K hK => ?_) (AllReadyH.cons (o := ⟨some 24, _, _, _, _, _⟩) rfl (fun K hK => ?_) AllReadyH.nil))
          · go_simp
            have hb' : Below X2.heap.size X2 (X2.alloc (.cells #[.int .u8 4] 5)) := (Below.refl _ _).alloc (Nat.le_refl _) _
            have hr' : Rd (X2.alloc (.cells #[.int .u8 4] 5)) (X2.alloc (.cells #[.int .u8 4] 5)).heap.size (some ⟨X2.heap.size, 0, none⟩) 1 [4] := (Rd.one X2 (4)).more (by rw [World.size_alloc]; exact Nat.le_refl _)
            obtain ⟨X3, hX⟩ : ∃ X, X2.alloc (.cells #[.int .u8 4] 5) = X := ⟨_, rfl⟩
            rw [hX] at hb' hr' ⊢
            obtain ⟨A8, hA⟩ : ∃ A : Option Addr, some ⟨X2.heap.size, 0, none⟩ = A := ⟨_, rfl⟩
            rw [hA] at hr' ⊢
            clear hA hX
            have HR18' := Lib.hid (HR18.out.next hb')
            clear HR18
            have HR18 := HR18'
            clear HR18'
            have HR21' := Lib.hid (HR21.out.next hb')
            clear HR21
            have HR21 := HR21'
            clear HR21'
            have HR8 := Lib.hid hr'
            refine hK.out _ _ (hHeld.trans (hb'.mono hHeld.size)) (fun hHeld => ?_)
            clear hK K hr' hb'
            refine wpAnyH_ready (rs := [17]) (by kernel_rfl) (by simp) (AllReadyH.cons (o := ⟨some 24, _, _, _, _, _⟩) rfl (fun K hK => ?_) AllReadyH.nil)
            go_simp
            refine (HP2.out X3).mono ?_
            rintro e X4 ⟨v, rfl, hov, hb'⟩
            obtain ⟨A24, m, c24, rfl, hm, hkk, hmm, hr'⟩ := hov.sl
            rw [HL2.out] at hm
            subst hm
            have HK24 := Lib.hid hkk
            have HM24 := Lib.hid hmm
            clear hov hkk hmm
            have HR18' := Lib.hid (HR18.out.next hb')
            clear HR18
            have HR18 := HR18'
            clear HR18'
            have HR21' := Lib.hid (HR21.out.next hb')
            clear HR21
            have HR21 := HR21'
            clear HR21'
            have HR8' := Lib.hid (HR8.out.next hb')
            clear HR8
            have HR8 := HR8'
            clear HR8'
            have HR24 := Lib.hid hr'
            refine hK.out _ _ (hHeld.trans (hb'.mono hHeld.size)) (fun hHeld => ?_)
            clear hK K hr' hb'
            exact hc X4 A8 A18 A21 A24 c21 c24 ⟨hHeld, HR8.out, HR18.out, HR21.out, HR24.out, HK21.out, HM21.out, HK24.out, HM24.out⟩
          · go_simp
            refine (HP2.out X2).mono ?_
            rintro e X3 ⟨v, rfl, hov, hb'⟩
            obtain ⟨A24, m, c24, rfl, hm, hkk, hmm, hr'⟩ := hov.sl
            rw [HL2.out] at hm
            subst hm
            have HK24 := Lib.hid hkk
            have HM24 := Lib.hid hmm
            clear hov hkk hmm
            have HR18' := Lib.hid (HR18.out.next hb')
            clear HR18
            have HR18 := HR18'
            clear HR18'
            have HR21' := Lib.hid (HR21.out.next hb')
            clear HR21
            have HR21 := HR21'
            clear HR21'
            have HR24 := Lib.hid hr'
            refine hK.out _ _ (hHeld.trans (hb'.mono hHeld.size)) (fun hHeld => ?_)
            clear hK K hr' hb'
            refine wpAnyH_ready (rs := [1]) (by kernel_rfl) (by simp) (AllReadyH.cons (o := ⟨some 8, _, _, _, _, _⟩) rfl (fun K hK => ?_) AllReadyH.nil)
            go_simp
            have hb' : Below X3.heap.size X3 (X3.alloc (.cells #[.int .u8 4] 5)) := (Below.refl _ _).alloc (Nat.le_refl _) _
            have hr' : Rd (X3.alloc (.cells #[.int .u8 4] 5)) (X3.alloc (.cells #[.int .u8 4] 5)).heap.size (some ⟨X3.heap.size, 0, none⟩) 1 [4] := (Rd.one X3 (4)).more (by rw [World.size_alloc]; exact Nat.le_refl _)
            obtain ⟨X4, hX⟩ : ∃ X, X3.alloc (.cells #[.int .u8 4] 5) = X := ⟨_, rfl⟩
            rw [hX] at hb' hr' ⊢
            obtain ⟨A8, hA⟩ : ∃ A : Option Addr, some ⟨X3.heap.size, 0, none⟩ = A := ⟨_, rfl⟩
            rw [hA] at hr' ⊢
            clear hA hX
            have HR18' := Lib.hid (HR18.out.next hb')
            clear HR18
            have HR18 := HR18'
            clear HR18'
            have HR21' := Lib.hid (HR21.out.next hb')
            clear HR21
            have HR21 := HR21'
            clear HR21'
            have HR24' := Lib.hid (HR24.out.next hb')
            clear HR24
            have HR24 := HR24'
            clear HR24'
            have HR8 := Lib.hid hr'
            refine hK.out _ _ (hHeld.trans (hb'.mono hHeld.size)) (fun hHeld => ?_)
            clear hK K hr' hb'
            exact hc X4 A8 A18 A21 A24 c21 c24 ⟨hHeld, HR8.out, HR18.out, HR21.out, HR24.out, HK21.out, HM21.out, HK24.out, HM24.out⟩
      · go_simp
        refine (HP1.out X0).mono ?_
        rintro e X1 ⟨v, rfl, hov, hb'⟩
        obtain ⟨A21, m, c21, rfl, hm, hkk, hmm, hr'⟩ := hov.sl
        rw [HL1.out] at hm
        subst hm
        have HK21 := Lib.hid hkk
        have HM21 := Lib.hid hmm
        clear hov hkk hmm
        have HR21 := Lib.hid hr'
        refine hK.out _ _ (hHeld.trans (hb'.mono hHeld.size)) (fun hHeld => ?_)
        clear hK K hr' hb'
        refine wpAnyH_ready (rs := [1, 11, 17]) (by kernel_rfl) (by simp) (AllReadyH.cons (o := ⟨some 8, _, _, _, _, _⟩) rfl (fun K hK => ?_) (AllReadyH.cons (o := ⟨some 18, _, _, _, _, _⟩) rfl (fun K hK => ?_) (AllReadyH.cons (o := ⟨some 24, _, _, _, _, _⟩) rfl (fun K hK => ?_) AllReadyH.nil)))
        · go_simp
          have hb' : Below X1.heap.size X1 (X1.alloc (.cells #[.int .u8 4] 5)) := (Below.refl _ _).alloc (Nat.le_refl _) _
          have hr' : Rd (X1.alloc (.cells #[.int .u8 4] 5)) (X1.alloc (.cells #[.int .u8 4] 5)).heap.size (some ⟨X1.heap.size, 0, none⟩) 1 [4] := (Rd.one X1 (4)).more (by rw [World.size_alloc]; exact Nat.le_refl _)
          obtain ⟨X2, hX⟩ : ∃ X, X1.alloc (.cells #[.int .u8 4] 5) = X := ⟨_, rfl⟩
          rw [hX] at hb' hr' ⊢
          obtain ⟨A8, hA⟩ : ∃ A : Option Addr, some ⟨X1.heap.size, 0, none⟩ = A := ⟨_, rfl⟩
          rw [hA] at hr' ⊢
          clear hA hX
          have HR21' := Lib.hid (HR21.out.next hb')
          clear HR21
          have HR21 := HR21'
          clear HR21'
          have HR8 := Lib.hid hr'
          refine hK.out _ _ (hHeld.trans (hb'.mono hHeld.size)) (fun hHeld => ?_)
          clear hK K hr' hb'
          refine wpAnyH_ready (rs := [11, 17]) (by kernel_rfl) (by simp) (AllReadyH.cons (o := ⟨some 18, _, _, _, _, _⟩) rfl (fun K hK => ?_) (AllReadyH.cons (o := ⟨some 24, _, _, _, _, _⟩) rfl (fun K hK => ?_) AllReadyH.nil))
          · go_simp
            have hb' : Below X2.heap.size X2 (X2.alloc (.cells #[.int .u8 (y.toNat : Int)] 5)) := (Below.refl _ _).alloc (Nat.le_refl _) _
            have hr' : Rd (X2.alloc (.cells #[.int .u8 (y.toNat : Int)] 5)) (X2.alloc (.cells #[.int .u8 (y.toNat : Int)] 5)).heap.size (some ⟨X2.heap.size, 0, none⟩) 1 [y] := (Rd.one X2 (y)).more (by rw [World.size_alloc]; exact Nat.le_refl _)
            obtain ⟨X3, hX⟩ : ∃ X, X2.alloc (.cells #[.int .u8 (y.toNat : Int)] 5) = X := ⟨_, rfl⟩
            rw [hX] at hb' hr' ⊢
            obtain ⟨A18, hA⟩ : ∃ A : Option Addr, some ⟨X2.heap.size, 0, none⟩ = A := ⟨_, rfl⟩
            rw [hA] at hr' ⊢
            clear hA hX
            have HR21' := Lib.hid (HR21.out.next hb')
            clear HR21
            have HR21 := HR21'
            clear HR21'
            have HR8' := Lib.hid (HR8.out.next hb')
            clear HR8
            have HR8 := HR8'
            clear HR8'
            have HR18 := Lib.hid hr'
            refine hK.out _ _ (hHeld.trans (hb'.mono hHeld.size)) (fun hHeld => ?_)
            clear hK K hr' hb'
            refine wpAnyH_ready (rs := [17]) (by kernel_rfl) (by simp) (AllReadyH.cons (o := ⟨some 24, _, _, _, _, _⟩) rfl (fun K hK => ?_) AllReadyH.nil)
            go_simp
            refine (HP2.out X3).mono ?_
            rintro e X4 ⟨v, rfl, hov, hb'⟩
            obtain ⟨A24, m, c24, rfl, hm, hkk, hmm, hr'⟩ := hov.sl
            rw [HL2.out] at hm
            subst hm
            have HK24 := Lib.hid hkk
            have HM24 := Lib.hid hmm
            clear hov hkk hmm
            have HR21' := Lib.hid (HR21.out.next hb')
            clear HR21
            have HR21 := HR21'
            clear HR21'
            have HR8' := Lib.hid (HR8.out.next hb')
            clear HR8
            have HR8 := HR8'
            clear HR8'
            have HR18' := Lib.hid (HR18.out.next hb')
            clear HR18
            have HR18 := HR18'
            clear HR18'
            have HR24 := Lib.hid hr'
            refine hK.out _ _ (hHeld.trans (hb'.mono hHeld.size)) (fun hHeld => ?_)
            clear hK K hr' hb'
            exact hc X4 A8 A18 A21 A24 c21 c24 ⟨hHeld, HR8.out, HR18.out, HR21.out, HR24.out, HK21.out, HM21.out, HK24.out, HM24.out⟩
          · go_simp
            refine (HP2.out X2).mono ?_
            rintro e X3 ⟨v, rfl, hov, hb'⟩
            obtain ⟨A24, m, c24, rfl, hm, hkk, hmm, hr'⟩ := hov.sl
            rw [HL2.out] at hm
            subst hm
            have HK24 := Lib.hid hkk
            have HM24 := Lib.hid hmm
            clear hov hkk hmm
            have HR21' := Lib.hid (HR21.out.next hb')
            clear HR21
            have HR21 := HR21'
            clear HR21'
            have HR8' := Lib.hid (HR8.out.next hb')
            clear HR8
            have HR8 := HR8'
            clear HR8'
            have HR24 := Lib.hid hr'
            refine hK.out _ _ (hHeld.trans (hb'.mono hHeld.size)) (fun hHeld => ?_)
            clear hK K hr' hb'
            refine wpAnyH_ready (rs := [11]) (by kernel_rfl) (by simp) (AllReadyH.cons (o := ⟨some 18, _, _, _, _, _⟩) rfl (fun K hK => ?_) AllReadyH.nil)
            go_simp
            have hb' : Below X3.heap.size X3 (X3.alloc (.cells #[.int .u8 (y.toNat : Int)] 5)) := (Below.refl _ _).alloc (Nat.le_refl _) _
            have hr' : Rd (X3.alloc (.cells #[.int .u8 (y.toNat : Int)] 5)) (X3.alloc (.cells #[.int .u8 (y.toNat : Int)] 5)).heap.size (some ⟨X3.heap.size, 0, none⟩) 1 [y] := (Rd.one X3 (y)).more (by rw [World.size_alloc]; exact Nat.le_refl _)
            obtain ⟨X4, hX⟩ : ∃ X, X3.alloc (.cells #[.int .u8 (y.toNat : Int)] 5) = X := ⟨_, rfl⟩
            rw [hX] at hb' hr' ⊢
            obtain ⟨A18, hA⟩ : ∃ A : Option Addr, some ⟨X3.heap.size, 0, none⟩ = A := ⟨_, rfl⟩
            rw [hA] at hr' ⊢
            clear hA hX
            have HR21' := Lib.hid (HR21.out.next hb')
            clear HR21
            have HR21 := HR21'
            clear HR21'
            have HR8' := Lib.hid (HR8.out.next hb')
            clear HR8
            have HR8 := HR8'
            clear HR8'
            have HR24' := Lib.hid (HR24.out.next hb')
            clear HR24
            have HR24 := HR24'
            clear HR24'
            have HR18 := Lib.hid hr'
            refine hK.out _ _ (hHeld.trans (hb'.mono hHeld.size)) (fun hHeld => ?_)
            clear hK K hr' hb'
            exact hc X4 A8 A18 A21 A24 c21 c24 ⟨hHeld, HR8.out, HR18.out, HR21.out, HR24.out, HK21.out, HM21.out, HK24.out, HM24.out⟩
        · go_simp
          have hb' : Below X1.heap.size X1 (X1.alloc (.cells #[.int .u8 (y.toNat : Int)] 5)) := (Below.refl _ _).alloc (Nat.le_refl _) _
          have hr' : Rd (X1.alloc (.cells #[.int .u8 (y.toNat : Int)] 5)) (X1.alloc (.cells #[.int .u8 (y.toNat : Int)] 5)).heap.size (some ⟨X1.heap.size, 0, none⟩) 1 [y] := (Rd.one X1 (y)).more (by rw [World.size_alloc]; exact Nat.le_refl _)
          obtain ⟨X2, hX⟩ : ∃ X, X1.alloc (.cells #[.int .u8 (y.toNat : Int)] 5) = X := ⟨_, rfl⟩
          rw [hX] at hb' hr' ⊢
          obtain ⟨A18, hA⟩ : ∃ A : Option Addr, some ⟨X1.heap.size, 0, none⟩ = A := ⟨_, rfl⟩
          rw [hA] at hr' ⊢
          clear hA hX
          have HR21' := Lib.hid (HR21.out.next hb')
          clear HR21
          have HR21 := HR21'
          clear HR21'
          have HR18 := Lib.hid hr'
          refine hK.out _ _ (hHeld.trans (hb'.mono hHeld.size)) (fun hHeld => ?_)
          clear hK K hr' hb'
          refine wpAnyH_ready (rs := [1, 17]) (by kernel_rfl) (by simp) (AllReadyH.cons (o := ⟨some 8, _, _, _, _, _⟩) rfl (fun K hK => ?_) (AllReadyH.cons (o := ⟨some 24, _, _, _, _, _⟩) rfl (fun K hK => ?_) AllReadyH.nil))
          · go_simp
            have hb' : Below X2.heap.size X2 (X2.alloc (.cells #[.int .u8 4] 5)) := (Below.refl _ _).alloc (Nat.le_refl _) _
            have hr' : Rd (X2.alloc (.cells #[.int .u8 4] 5)) (X2.alloc (.cells #[.int .u8 4] 5)).heap.size (some ⟨X2.heap.size, 0, none⟩) 1 [4] := (Rd.one X2 (4)).more (by rw [World.size_alloc]; exact Nat.le_refl _)
            obtain ⟨X3, hX⟩ : ∃ X, X2.alloc (.cells #[.int .u8 4] 5) = X := ⟨_, rfl⟩
            rw [hX] at hb' hr' ⊢
            obtain ⟨A8, hA⟩ : ∃ A : Option Addr, some ⟨X2.heap.size, 0, none⟩ = A := ⟨_, rfl⟩
            rw [hA] at hr' ⊢
            clear hA hX
            have HR21' := Lib.hid (HR21.out.next hb')
            clear HR21
            have HR21 := HR21'
            clear HR21'
            have HR18' := Lib.hid (HR18.out.next hb')
            clear HR18
            have HR18 := HR18'
            clear HR18'
            have HR8 := Lib.hid hr'
            refine hK.out _ _ (hHeld.trans (hb'.mono hHeld.size)) (fun hHeld => ?_)
            clear hK K hr' hb'
            refine wpAnyH_ready (rs := [17]) (by kernel_rfl) (by simp) (AllReadyH.cons (o := ⟨some 24, _, _, _, _, _⟩) rfl (fun K hK => ?_) AllReadyH.nil)
            go_simp
            refine (HP2.out X3).mono ?_
            rintro e X4 ⟨v, rfl, hov, hb'⟩
            obtain ⟨A24, m, c24, rfl, hm, hkk, hmm, hr'⟩ := hov.sl
            rw [HL2.out] at hm
            subst hm
            have HK24 := Lib.hid hkk
            have HM24 := Lib.hid hmm
            clear hov hkk hmm
            have HR21' := Lib.hid (HR21.out.next hb')
            clear HR21
            have HR21 := HR21'
            clear HR21'
            have HR18' := Lib.hid (HR18.out.next hb')
            clear HR18
            have HR18 := HR18'
            clear HR18'
            have HR8' := Lib.hid (HR8.out.next hb')
            clear HR8
            have HR8 := HR8'
            clear HR8'
            have HR24 := Lib.hid hr'
            refine hK.out _ _ (hHeld.trans (hb'.mono hHeld.size)) (fun hHeld => ?_)
            clear hK K hr' hb'
            exact hc X4 A8 A18 A21 A24 c21 c24 ⟨hHeld, HR8.out, HR18.out, HR21.out, HR24.out, HK21.out, HM21.out, HK24.out, HM24.out⟩
          · go_simp
            refine (HP2.out X2).mono ?_
            rintro e X3 ⟨v, rfl, hov, hb'⟩
            obtain ⟨A24, m, c24, rfl, hm, hkk, hmm, hr'⟩ := hov.sl
            rw [HL2.out] at hm
            subst hm
            have HK24 := Lib.hid hkk
            have HM24 := Lib.hid hmm
            clear hov hkk hmm
            have HR21' := Lib.hid (HR21.out.next hb')
            clear HR21
            have HR21 := HR21'
            clear HR21'
            have HR18' := Lib.hid (HR18.out.next hb')
            clear HR18
            have HR18 := HR18'
            clear HR18'
            have HR24 := Lib.hid hr'
            refine hK.out _ _ (hHeld.trans (hb'.mono hHeld.size)) (fun hHeld => ?_)
            clear hK K hr' hb'
            refine wpAnyH_ready (rs := [1]) (by kernel_rfl) (by simp) (AllReadyH.cons (o := ⟨some 8, _, _, _, _, _⟩) rfl (fun K hK => ?_) AllReadyH.nil)
            go_simp
            have hb' : Below X3.heap.size X3 (X3.alloc (.cells #[.int .u8 4] 5)) := (Below.refl _ _).alloc (Nat.le_refl _) _
            have hr' : Rd (X3.alloc (.cells #[.int .u8 4] 5)) (X3.alloc (.cells #[.int .u8 4] 5)).heap.size (some ⟨X3.heap.size, 0, none⟩) 1 [4] := (Rd.one X3 (4)).more (by rw [World.size_alloc]; exact Nat.le_refl _)
            obtain ⟨X4, hX⟩ : ∃ X, X3.alloc (.cells #[.int .u8 4] 5) = X := ⟨_, rfl⟩
            rw [hX] at hb' hr' ⊢
            obtain ⟨A8, hA⟩ : ∃ A : Option Addr, some ⟨X3.heap.size, 0, none⟩ = A := ⟨_, rfl⟩
            rw [hA] at hr' ⊢
            clear hA hX
            have HR21' := Lib.hid (HR21.out.next hb')
            clear HR21
            have HR21 := HR21'
            clear HR21'
            have HR18' := Lib.hid (HR18.out.next hb')
            clear HR18
            have HR18 := HR18'
            clear HR18'
            have HR24' := Lib.hid (HR24.out.next hb')
            clear HR24
            have HR24 := HR24'
            clear HR24'
            have HR8 := Lib.hid hr'
            refine hK.out _ _ (hHeld.trans (hb'.mono hHeld.size)) (fun hHeld => ?_)
            clear hK K hr' hb'
            exact hc X4 A8 A18 A21 A24 c21 c24 ⟨hHeld, HR8.out, HR18.out, HR21.out, HR24.out, HK21.out, HM21.out, HK24.out, HM24.out⟩
        · go_simp
          refine (HP2.out X1).mono ?_
          rintro e X2 ⟨v, rfl, hov, hb'⟩
          obtain ⟨A24, m, c24, rfl, hm, hkk, hmm, hr'⟩ := hov.sl
          rw [HL2.out] at hm
          subst hm
          have HK24 := Lib.hid hkk
          have HM24 := Lib.hid hmm
          clear hov hkk hmm
          have HR21' := Lib.hid (HR21.out.next hb')
          clear HR21
          have HR21 := HR21'
          clear HR21'
          have HR24 := Lib.hid hr'
          refine hK.out _ _ (hHeld.trans (hb'.mono hHeld.size)) (fun hHeld => ?_)
          clear hK K hr' hb'
          refine wpAnyH_ready (rs := [1, 11]) (by kernel_rfl) (by simp) (AllReadyH.cons (o := ⟨some 8, _, _, _, _, _⟩) rfl (fun K hK => ?_) (AllReadyH.cons (o := ⟨some 18, _, _, _, _, _⟩) rfl (fun K hK => ?_) AllReadyH.nil))
          · go_simp
            have hb' : Below X2.heap.size X2 (X2.alloc (.cells #[.int .u8 4] 5)) := (Below.refl _ _).alloc (Nat.le_refl _) _
            have hr' : Rd (X2.alloc (.cells #[.int .u8 4] 5)) (X2.alloc (.cells #[.int .u8 4] 5)).heap.size (some ⟨X2.heap.size, 0, none⟩) 1 [4] := (Rd.one X2 (4)).more (by rw [World.size_alloc]; exact Nat.le_refl _)
            obtain ⟨X3, hX⟩ : ∃ X, X2.alloc (.cells #[.int .u8 4] 5) = X := ⟨_, rfl⟩
            rw [hX] at hb' hr' ⊢
            obtain ⟨A8, hA⟩ : ∃ A : Option Addr, some ⟨X2.heap.size, 0, none⟩ = A := ⟨_, rfl⟩
            rw [hA] at hr' ⊢
            clear hA hX
            have HR21' := Lib.hid (HR21.out.next hb')
            clear HR21
            have HR21 := HR21'
            clear HR21'
            have HR24' := Lib.hid (HR24.out.next hb')
            clear HR24
            have HR24 := HR24'
            clear HR24'
            have HR8 := Lib.hid hr'
            refine hK.out _ _ (hHeld.trans (hb'.mono hHeld.size)) (fun hHeld => ?_)
            clear hK K hr' hb'
            refine wpAnyH_ready (rs := [11]) (by kernel_rfl) (by simp) (AllReadyH.cons (o := ⟨some 18, _, _, _, _, _⟩) rfl (fun K hK => ?_) AllReadyH.nil)
            go_simp
            have hb' : Below X3.heap.size X3 (X3.alloc (.cells #[.int .u8 (y.toNat : Int)] 5)) := (Below.refl _ _).alloc (Nat.le_refl _) _
            have hr' : Rd (X3.alloc (.cells #[.int .u8 (y.toNat : Int)] 5)) (X3.alloc (.cells #[.int .u8 (y.toNat : Int)] 5)).heap.size (some ⟨X3.heap.size, 0, none⟩) 1 [y] := (Rd.one X3 (y)).more (by rw [World.size_alloc]; exact Nat.le_refl _)
            obtain ⟨X4, hX⟩ : ∃ X, X3.alloc (.cells #[.int .u8 (y.toNat : Int)] 5) = X := ⟨_, rfl⟩
            rw [hX] at hb' hr' ⊢
            obtain ⟨A18, hA⟩ : ∃ A : Option Addr, some ⟨X3.heap.size, 0, none⟩ = A := ⟨_, rfl⟩
            rw [hA] at hr' ⊢
            clear hA hX
            have HR21' := Lib.hid (HR21.out.next hb')
            clear HR21
            have HR21 := HR21'
            clear HR21'
            have HR24' := Lib.hid (HR24.out.next hb')
            clear HR24
            have HR24 := HR24'
            clear HR24'
            have HR8' := Lib.hid (HR8.out.next hb')
            clear HR8
            have HR8 := HR8'
            clear HR8'
            have HR18 := Lib.hid hr'
            refine hK.out _ _ (hHeld.trans (hb'.mono hHeld.size)) (fun hHeld => ?_)
            clear hK K hr' hb'
            exact hc X4 A8 A18 A21 A24 c21 c24 ⟨hHeld, HR8.out, HR18.out, HR21.out, HR24.out, HK21.out, HM21.out, HK24.out, HM24.out⟩
          · go_simp
            have hb' : Below X2.heap.size X2 (X2.alloc (.cells #[.int .u8 (y.toNat : Int)] 5)) := (Below.refl _ _).alloc (Nat.le_refl _) _
            have hr' : Rd (X2.alloc (.cells #[.int .u8 (y.toNat : Int)] 5)) (X2.alloc (.cells #[.int .u8 (y.toNat : Int)] 5)).heap.size (some ⟨X2.heap.size, 0, none⟩) 1 [y] := (Rd.one X2 (y)).more (by rw [World.size_alloc]; exact Nat.le_refl _)
            obtain ⟨X3, hX⟩ : ∃ X, X2.alloc (.cells #[.int .u8 (y.toNat : Int)] 5) = X := ⟨_, rfl⟩
            rw [hX] at hb' hr' ⊢
            obtain ⟨A18, hA⟩ : ∃ A : Option Addr, some ⟨X2.heap.size, 0, none⟩ = A := ⟨_, rfl⟩
            rw [hA] at hr' ⊢
            clear hA hX
            have HR21' := Lib.hid (HR21.out.next hb')
            clear HR21
            have HR21 := HR21'
            clear HR21'
            have HR24' := Lib.hid (HR24.out.next hb')
            clear HR24
            have HR24 := HR24'
            clear HR24'
            have HR18 := Lib.hid hr'
            refine hK.out _ _ (hHeld.trans (hb'.mono hHeld.size)) (fun hHeld => ?_)
            clear hK K hr' hb'
            refine wpAnyH_ready (rs := [1]) (by kernel_rfl) (by simp) (AllReadyH.cons (o := ⟨some 8, _, _, _, _, _⟩) rfl (fun K hK => ?_) AllReadyH.nil)
            go_simp
            have hb' : Below X3.heap.size X3 (X3.alloc (.cells #[.int .u8 4] 5)) := (Below.refl _ _).alloc (Nat.le_refl _) _
            have hr' : Rd (X3.alloc (.cells #[.int .u8 4] 5)) (X3.alloc (.cells #[.int .u8 4] 5)).heap.size (some ⟨X3.heap.size, 0, none⟩) 1 [4] := (Rd.one X3 (4)).more (by rw [World.size_alloc]; exact Nat.le_refl _)
            obtain ⟨X4, hX⟩ : ∃ X, X3.alloc (.cells #[.int .u8 4] 5) = X := ⟨_, rfl⟩
            rw [hX] at hb' hr' ⊢
            obtain ⟨A8, hA⟩ : ∃ A : Option Addr, some ⟨X3.heap.size, 0, none⟩ = A := ⟨_, rfl⟩
            rw [hA] at hr' ⊢
            clear hA hX
            have HR21' := Lib.hid (HR21.out.next hb')
            clear HR21
            have HR21 := HR21'
            clear HR21'
            have HR24' := Lib.hid (HR24.out.next hb')
            clear HR24
            have HR24 := HR24'
            clear HR24'
            have HR18' := Lib.hid (HR18.out.next hb')
            clear HR18
            have HR18 := HR18'
            clear HR18'
            have HR8 := Lib.hid hr'
            refine hK.out _ _ (hHeld.trans (hb'.mono hHeld.size)) (fun hHeld => ?_)
            clear hK K hr' hb'
            exact hc X4 A8 A18 A21 A24 c21 c24 ⟨hHeld, HR8.out, HR18.out, HR21.out, HR24.out, HK21.out, HM21.out, HK24.out, HM24.out⟩
    case h2 =>
      intro W A8 A18 A21 A24 c21 c24 hh
      have HH := Lib.hid hh
      have hHeld := hh.bel
      clear hh
      refine wpAnyH_ready (rs := [18]) (by kernel_rfl) (by simp) (AllReadyH.cons (o := ⟨some 25, _, _, _, _, _⟩) rfl (fun K hK => ?_) AllReadyH.nil)
      go_simp
      have HBW : Hid (Blk W 34 w.heap.size (tuL t)) := Lib.hid (Blk_10.below HB.out HG.out HH.out.bel)
      have HCC := Lib.hid (concat_six W HH.out.r8 (tu_srcR HBW.out HOK.out) (tu_dstR HBW.out HOK.out) HH.out.r18 HH.out.r21 HH.out.r24 HH.out.k21 HH.out.m21 HH.out.k24 HH.out.m24)
      rw [← HT.out] at HCC
      refine hK.out _ _ (hHeld.alloc hHeld.size _) (fun hHeld => ?_)
      clear hK K
      refine wpAnyH_ready (rs := [19]) (by kernel_rfl) (by simp) (AllReadyH.cons (o := ⟨some 26, _, _, _, _, _⟩) rfl (fun K hK => ?_) AllReadyH.nil)
      go_simp
      refine HCC.out.mono ?_
      rintro e W9 ⟨v, rfl, hov, hb9⟩
      have HB9 := Lib.hid (HH.out.bel.trans (hb9.mono HH.out.bel.size))
      have HOV := Lib.hid (hov.base_le (Nat.le_trans (by rw [HYS.out]; exact Nat.le_succ _) HH.out.bel.size))
      clear hov hb9
      refine hK.out _ _ HB9.out (fun hHeld => ?_)
      clear hK K
      refine tk 20 2 v rfl hHeld ?_
      simp only [Act.put, sA, sZ, sS]
      refine wpAnyH_done (by kernel_rfl) ?_ _
      clear hHeld
      go_wp2_with fail
      go_ret
      exact ⟨v, rfl, HOV.out, HBel.out.trans (HB9.out.mono (by rw [HYS.out]; exact Nat.le_succ _))⟩
  · rw [if_pos rfl] at HT
    go_enter Try.func12, Try.ntmps12
    go_wp2_with fail
    rw [HY.out]
    apply cut_b4 (H := fun W A8 A18 A21 A24 c21 c24 => B4 Y W 6 y ps pd A8 A18 A21 A24 c21 c24)
    case h1 =>
      intro hc
      refine wp_region_held_drew (S := fun W => Below Y.heap.size Y W) (by kernel_rfl) ((Below.refl Y.heap.size Y).drew) (fun hHeld => ?_)
      obtain ⟨X0, hX0⟩ : ∃ X, Y.drew = X := ⟨_, rfl⟩
      rw [hX0] at hHeld ⊢
      clear hX0
      refine tk 0 7 (.int .u8 6) rfl hHeld ?_
      simp only [Act.put, sA, sZ, sS]
      refine tk 2 9 (.pointer (some ⟨w.heap.size, 0, none⟩)) rfl hHeld ?_
      simp only [Act.put, sA, sZ, sS]
      refine tk 3 10 (.pointer (some ⟨w.heap.size, 1, none⟩)) rfl hHeld ?_
      simp only [Act.put, sA, sZ, sS]
      refine tk 4 11 (.slice (some ⟨w.heap.size, 1, none⟩) 16 16) rfl hHeld ?_
      simp only [Act.put, sA, sZ, sS]
      refine tk 5 12 (.pointer (some ⟨w.heap.size, 17, none⟩)) rfl hHeld ?_
      simp only [Act.put, sA, sZ, sS]
      refine tk 6 13 (.pointer (some ⟨w.heap.size, 18, none⟩)) rfl hHeld ?_
      simp only [Act.put, sA, sZ, sS]
      refine tk 7 14 (.slice (some ⟨w.heap.size, 18, none⟩) 16 16) rfl hHeld ?_
      simp only [Act.put, sA, sZ, sS]
      refine tk 8 15 (.pointer (some ⟨w.heap.size, 34, none⟩)) rfl hHeld ?_
      simp only [Act.put, sA, sZ, sS]
      refine tkY 9 16 (.int .i64 (p : Int)) rfl (Or.inl ⟨by rfl, fun W hW => by have hc := D2.out W hW; go_simp⟩) hHeld ?_
      simp only [Act.put, sA, sZ, sS]
      refine tk 10 17 (.int .u8 (y.toNat : Int)) rfl hHeld ?_
      simp only [Act.put, sA, sZ, sS]
      refine tk 12 19 (.pointer (some ⟨w.heap.size, 35, none⟩)) rfl hHeld ?_
      simp only [Act.put, sA, sZ, sS]
      refine tkY 13 20 (.int .i64 (s : Int)) rfl (Or.inl ⟨by rfl, fun W hW => by have hc := D3.out W hW; go_simp⟩) hHeld ?_
      simp only [Act.put, sA, sZ, sS]
      refine tk 15 22 (.pointer (some ⟨w.heap.size, 36, none⟩)) rfl hHeld ?_
      simp only [Act.put, sA, sZ, sS]
      refine tkY 16 23 (.int .i64 (d : Int)) rfl (Or.inl ⟨by rfl, fun W hW => by have hc := D4.out W hW; go_simp⟩) hHeld ?_
      simp only [Act.put, sA, sZ, sS]
      refine wpAnyH_ready (rs := [1, 11, 14]) (by kernel_rfl) (by simp) (AllReadyH.cons (o := ⟨some 8, _, _, _, _, _⟩) rfl (fun K hK => ?_) (AllReadyH.cons (o := ⟨some 18, _, _, _, _, _⟩) rfl (fun K hK => ?_) (AllReadyH.cons (o := ⟨some 21, _, _, _, _, _⟩) rfl (fun K hK => ?_) AllReadyH.nil)))
      · go_simp
        have hb' : Below X0.heap.size X0 (X0.alloc (.cells #[.int .u8 6] 5)) := (Below.refl _ _).alloc (Nat.le_refl _) _
        have hr' : Rd (X0.alloc (.cells #[.int .u8 6] 5)) (X0.alloc (.cells #[.int .u8 6] 5)).heap.size (some ⟨X0.heap.size, 0, none⟩) 1 [6] := (Rd.one X0 (6)).more (by rw [World.size_alloc]; exact Nat.le_refl _)
        obtain ⟨X1, hX⟩ : ∃ X, X0.alloc (.cells #[.int .u8 6] 5) = X := ⟨_, rfl⟩
        rw [hX] at hb' hr' ⊢
        obtain ⟨A8, hA⟩ : ∃ A : Option Addr, some ⟨X0.heap.size, 0, none⟩ = A := ⟨_, rfl⟩
        rw [hA] at hr' ⊢
        clear hA hX
        have HR8 := Lib.hid hr'
        refine hK.out _ _ (hHeld.trans (hb'.mono hHeld.size)) (fun hHeld => ?_)
        clear hK K hr' hb'
        refine wpAnyH_ready (rs := [11, 14]) (by kernel_rfl) (by simp) (AllReadyH.cons (o := ⟨some 18, _, _, _, _, _⟩) rfl (fun K hK => ?_) (AllReadyH.cons (o := ⟨some 21, _, _, _, _, _⟩) rfl (fun K hK => ?_) AllReadyH.nil))
        · go_simp
          have hb' : Below X1.heap.size X1 (X1.alloc (.cells #[.int .u8 (y.toNat : Int)] 5)) := (Below.refl _ _).alloc (Nat.le_refl _) _
          have hr' : Rd (X1.alloc (.cells #[.int .u8 (y.toNat : Int)] 5)) (X1.alloc (.cells #[.int .u8 (y.toNat : Int)] 5)).heap.size (some ⟨X1.heap.size, 0, none⟩) 1 [y] := (Rd.one X1 (y)).more (by rw [World.size_alloc]; exact Nat.le_refl _)
          obtain ⟨X2, hX⟩ : ∃ X, X1.alloc (.cells #[.int .u8 (y.toNat : Int)] 5) = X := ⟨_, rfl⟩
          rw [hX] at hb' hr' ⊢
          obtain ⟨A18, hA⟩ : ∃ A : Option Addr, some ⟨X1.heap.size, 0, none⟩ = A := ⟨_, rfl⟩
          rw [hA] at hr' ⊢
          clear hA hX
          have HR8' := Lib.hid (HR8.out.next hb')
          clear HR8
          have HR8 := HR8'
          clear HR8'
          have HR18 := Lib.hid hr'
          refine hK.out _ _ (hHeld.trans (hb'.mono hHeld.size)) (fun hHeld => ?_)
          clear hK K hr' hb'
          refine wpAnyH_ready (rs := [14]) (by kernel_rfl) (by simp) (AllReadyH.cons (o := ⟨some 21, _, _, _, _, _⟩) rfl (fun K hK => ?_) AllReadyH.nil)
          go_simp
          refine (HP1.out X2).mono ?_
          rintro e X3 ⟨v, rfl, hov, hb'⟩
          obtain ⟨A21, m, c21, rfl, hm, hkk, hmm, hr'⟩ := hov.sl
          rw [HL1.out] at hm
          subst hm
          have HK21 := Lib.hid hkk
          have HM21 := Lib.hid hmm
          clear hov hkk hmm
          have HR8' := Lib.hid (HR8.out.next hb')
          clear HR8
          have HR8 := HR8'
          clear HR8'
          have HR18' := Lib.hid (HR18.out.next hb')
          clear HR18
          have HR18 := HR18'
          clear HR18'
          have HR21 := Lib.hid hr'
          refine hK.out _ _ (hHeld.trans (hb'.mono hHeld.size)) (fun hHeld => ?_)
          clear hK K hr' hb'
          refine wpAnyH_ready (rs := [17]) (by kernel_rfl) (by simp) (AllReadyH.cons (o := ⟨some 24, _, _, _, _, _⟩) rfl (fun K hK => ?_) AllReadyH.nil)
          go_simp
          refine (HP2.out X3).mono ?_
          rintro e X4 ⟨v, rfl, hov, hb'⟩
          obtain ⟨A24, m, c24, rfl, hm, hkk, hmm, hr'⟩ := hov.sl
          rw [HL2.out] at hm
          subst hm
          have HK24 := Lib.hid hkk
          have HM24 := Lib.hid hmm
          clear hov hkk hmm
          have HR8' := Lib.hid (HR8.out.next hb')
          clear HR8
          have HR8 := HR8'
          clear HR8'
          have HR18' := Lib.hid (HR18.out.next hb')
          clear HR18
          have HR18 := HR18'
          clear HR18'
          have HR21' := Lib.hid (HR21.out.next hb')
          clear HR21
          have HR21 := HR21'
          clear HR21'
          have HR24 := Lib.hid hr'
          refine hK.out _ _ (hHeld.trans (hb'.mono hHeld.size)) (fun hHeld => ?_)
          clear hK K hr' hb'
          exact hc X4 A8 A18 A21 A24 c21 c24 ⟨hHeld, HR8.out, HR18.out, HR21.out, HR24.out, HK21.out, HM21.out, HK24.out, HM24.out⟩
        · go_simp
          refine (HP1.out X1).mono ?_
          rintro e X2 ⟨v, rfl, hov, hb'⟩
          obtain ⟨A21, m, c21, rfl, hm, hkk, hmm, hr'⟩ := hov.sl
          rw [HL1.out] at hm
          subst hm
          have HK21 := Lib.hid hkk
          have HM21 := Lib.hid hmm
          clear hov hkk hmm
          have HR8' := Lib.hid (HR8.out.next hb')
          clear HR8
          have HR8 := HR8'
          clear HR8'
          have HR21 := Lib.hid hr'
          refine hK.out _ _ (hHeld.trans (hb'.mono hHeld.size)) (fun hHeld => ?_)
          clear hK K hr' hb'
          refine wpAnyH_ready (rs := [11, 17]) (by kernel_rfl) (by simp) (AllReadyH.cons (o := ⟨some 18, _, _, _, _, _⟩) rfl (fun K hK => ?_) (AllReadyH.cons (o := ⟨some 24, _, _, _, _, _⟩) rfl (fun K hK => ?_) AllReadyH.nil))
          · go_simp
            have hb' : Below X2.heap.size X2 (X2.alloc (.cells #[.int .u8 (y.toNat : Int)] 5)) := (Below.refl _ _).alloc (Nat.le_refl _) _
            have hr' : Rd (X2.alloc (.cells #[.int .u8 (y.toNat : Int)] 5)) (X2.alloc (.cells #[.int .u8 (y.toNat : Int)] 5)).heap.size (some ⟨X2.heap.size, 0, none⟩) 1 [y] := (Rd.one X2 (y)).more (by rw [World.size_alloc]; exact Nat.le_refl _)
            obtain ⟨X3, hX⟩ : ∃ X, X2.alloc (.cells #[.int .u8 (y.toNat : Int)] 5) = X := ⟨_, rfl⟩
            rw [hX] at hb' hr' ⊢
            obtain ⟨A18, hA⟩ : ∃ A : Option Addr, some ⟨X2.heap.size, 0, none⟩ = A := ⟨_, rfl⟩
            rw [hA] at hr' ⊢
            clear hA hX
            have HR8' := Lib.hid (HR8.out.next hb')
            clear HR8
            have HR8 := HR8'
            clear HR8'
            have HR21' := Lib.hid (HR21.out.next hb')
            clear HR21
            have HR21 := HR21'
            clear HR21'
            have HR18 := Lib.hid hr'
            refine hK.out _ _ (hHeld.trans (hb'.mono hHeld.size)) (fun hHeld => ?_)
            clear hK K hr' hb'
            refine wpAnyH_ready (rs := [17]) (by kernel_rfl) (by simp) (AllReadyH.cons (o := ⟨some 24, _, _, _, _, _⟩) rfl (fun K hK => ?_) AllReadyH.nil)
            go_simp
            refine (HP2.out X3).mono ?_
            rintro e X4 ⟨v, rfl, hov, hb'⟩
            obtain ⟨A24, m, c24, rfl, hm, hkk, hmm, hr'⟩ := hov.sl
            rw [HL2.out] at hm
            subst hm
            have HK24 := Lib.hid hkk
            have HM24 := Lib.hid hmm
            clear hov hkk hmm
            have HR8' := Lib.hid (HR8.out.next hb')
            clear HR8
            have HR8 := HR8'
            clear HR8'
            have HR21' := Lib.hid (HR21.out.next hb')
            clear HR21
            have HR21 := HR21'
            clear HR21'
            have HR18' := Lib.hid (HR18.out.next hb')
            clear HR18
            have HR18 := HR18'
            clear HR18'
            have HR24 := Lib.hid hr'
            refine hK.out _ _ (hHeld.trans (hb'.mono hHeld.size)) (fun hHeld => ?_)
            clear hK K hr' hb'
            exact hc X4 A8 A18 A21 A24 c21 c24 ⟨hHeld, HR8.out, HR18.out, HR21.out, HR24.out, HK21.out, HM21.out, HK24.out, HM24.out⟩
          · go_simp
            refine (HP2.out X2).mono ?_
            rintro e X3 ⟨v, rfl, hov, hb'⟩
            obtain ⟨A24, m, c24, rfl, hm, hkk, hmm, hr'⟩ := hov.sl
            rw [HL2.out] at hm
            subst hm
            have HK24 := Lib.hid hkk
            have HM24 := Lib.hid hmm
            clear hov hkk hmm
            have HR8' := Lib.hid (HR8.out.next hb')
            clear HR8
            have HR8 := HR8'
            clear HR8'
            have HR21' := Lib.hid (HR21.out.next hb')
            clear HR21
            have HR21 := HR21'
            clear HR21'
            have HR24 := Lib.hid hr'
            refine hK.out _ _ (hHeld.trans (hb'.mono hHeld.size)) (fun hHeld => ?_)
            clear hK K hr' hb'
            refine wpAnyH_ready (rs := [11]) (by kernel_rfl) (by simp) (AllReadyH.cons (o := ⟨some 18, _, _, _, _, _⟩) rfl (fun K hK => ?_) AllReadyH.nil)
            go_simp
            have hb' : Below X3.heap.size X3 (X3.alloc (.cells #[.int .u8 (y.toNat : Int)] 5)) := (Below.refl _ _).alloc (Nat.le_refl _) _
            have hr' : Rd (X3.alloc (.cells #[.int .u8 (y.toNat : Int)] 5)) (X3.alloc (.cells #[.int .u8 (y.toNat : Int)] 5)).heap.size (some ⟨X3.heap.size, 0, none⟩) 1 [y] := (Rd.one X3 (y)).more (by rw [World.size_alloc]; exact Nat.le_refl _)
            obtain ⟨X4, hX⟩ : ∃ X, X3.alloc (.cells #[.int .u8 (y.toNat : Int)] 5) = X := ⟨_, rfl⟩
            rw [hX] at hb' hr' ⊢
            obtain ⟨A18, hA⟩ : ∃ A : Option Addr, some ⟨X3.heap.size, 0, none⟩ = A := ⟨_, rfl⟩
            rw [hA] at hr' ⊢
            clear hA hX
            have HR8' := Lib.hid (HR8.out.next hb')
            clear HR8
            have HR8 := HR8'
            clear HR8'
            have HR21' := Lib.hid (HR21.out.next hb')
            clear HR21
            have HR21 := HR21'
            clear HR21'
            have HR24' := Lib.hid (HR24.out.next hb')
            clear HR24
            have HR24 := HR24'
            clear HR24'
            have HR18 := Lib.hid hr'
            refine hK.out _ _ (hHeld.trans (hb'.mono hHeld.size)) (fun hHeld => ?_)
            clear hK K hr' hb'
            exact hc X4 A8 A18 A21 A24 c21 c24 ⟨hHeld, HR8.out, HR18.out, HR21.out, HR24.out, HK21.out, HM21.out, HK24.out, HM24.out⟩
      · go_simp
        have hb' : Below X0.heap.size X0 (X0.alloc (.cells #[.int .u8 (y.toNat : Int)] 5)) := (Below.refl _ _).alloc (Nat.le_refl _) _
        have hr' : Rd (X0.alloc (.cells #[.int .u8 (y.toNat : Int)] 5)) (X0.alloc (.cells #[.int .u8 (y.toNat : Int)] 5)).heap.size (some ⟨X0.heap.size, 0, none⟩) 1 [y] := (Rd.one X0 (y)).more (by rw [World.size_alloc]; exact Nat.le_refl _)
        obtain ⟨X1, hX⟩ : ∃ X, X0.alloc (.cells #[.int .u8 (y.toNat : Int)] 5) = X := ⟨_, rfl⟩
        rw [hX] at hb' hr' ⊢
        obtain ⟨A18, hA⟩ : ∃ A : Option Addr, some ⟨X0.heap.size, 0, none⟩ = A := ⟨_, rfl⟩
        rw [hA] at hr' ⊢
        clear hA hX
        have HR18 := Lib.hid hr'
        refine hK.out _ _ (hHeld.trans (hb'.mono hHeld.size)) (fun hHeld => ?_)
        clear hK K hr' hb'
        refine wpAnyH_ready (rs := [1, 14]) (by kernel_rfl) (by simp) (AllReadyH.cons (o := ⟨some 8, _, _, _, _, _⟩) rfl (fun K hK => ?_) (AllReadyH.cons (o := ⟨some 21, _, _, _, _, _⟩) rfl (fun K hK => ?_) AllReadyH.nil))
        · go_simp
          have hb' : Below X1.heap.size X1 (X1.alloc (.cells #[.int .u8 6] 5)) := (Below.refl _ _).alloc (Nat.le_refl _) _
          have hr' : Rd (X1.alloc (.cells #[.int .u8 6] 5)) (X1.alloc (.cells #[.int .u8 6] 5)).heap.size (some ⟨X1.heap.size, 0, none⟩) 1 [6] := (Rd.one X1 (6)).more (by rw [World.size_alloc]; exact Nat.le_refl _)
          obtain ⟨X2, hX⟩ : ∃ X, X1.alloc (.cells #[.int .u8 6] 5) = X := ⟨_, rfl⟩
          rw [hX] at hb' hr' ⊢
          obtain ⟨A8, hA⟩ : ∃ A : Option Addr, some ⟨X1.heap.size, 0, none⟩ = A := ⟨_, rfl⟩
          rw [hA] at hr' ⊢
          clear hA hX
          have HR18' := Lib.hid (HR18.out.next hb')
          clear HR18
          have HR18 := HR18'
          clear HR18'
          have HR8 := Lib.hid hr'
          refine hK.out _ _ (hHeld.trans (hb'.mono hHeld.size)) (fun hHeld => ?_)
          clear hK K hr' hb'
          refine wpAnyH_ready (rs := [14]) (by kernel_rfl) (by simp) (AllReadyH.cons (o := ⟨some 21, _, _, _, _, _⟩) rfl (fun K hK => ?_) AllReadyH.nil)
          go_simp
          refine (HP1.out X2).mono ?_
          rintro e X3 ⟨v, rfl, hov, hb'⟩
          obtain ⟨A21, m, c21, rfl, hm, hkk, hmm, hr'⟩ := hov.sl
          rw [HL1.out] at hm
          subst hm
          have HK21 := Lib.hid hkk
          have HM21 := Lib.hid hmm
          clear hov hkk hmm
          have HR18' := Lib.hid (HR18.out.next hb')
          clear HR18
          have HR18 := HR18'
          clear HR18'
          have HR8' := Lib.hid (HR8.out.next hb')
          clear HR8
          have HR8 := HR8'
          clear HR8'
          have HR21 := Lib.hid hr'
          refine hK.out _ _ (hHeld.trans (hb'.mono hHeld.size)) (fun hHeld => ?_)
          clear hK K hr' hb'
          refine wpAnyH_ready (rs := [17]) (by kernel_rfl) (by simp) (AllReadyH.cons (o := ⟨some 24, _, _, _, _, _⟩) rfl (fun K hK => ?_) AllReadyH.nil)
          go_simp
          refine (HP2.out X3).mono ?_
          rintro e X4 ⟨v, rfl, hov, hb'⟩
          obtain ⟨A24, m, c24, rfl, hm, hkk, hmm, hr'⟩ := hov.sl
          rw [HL2.out] at hm
          subst hm
          have HK24 := Lib.hid hkk
          have HM24 := Lib.hid hmm
          clear hov hkk hmm
          have HR18' := Lib.hid (HR18.out.next hb')
          clear HR18
          have HR18 := HR18'
          clear HR18'
          have HR8' := Lib.hid (HR8.out.next hb')
          clear HR8
          have HR8 := HR8'
          clear HR8'
          have HR21' := Lib.hid (HR21.out.next hb')
          clear HR21
          have HR21 := HR21'
          clear HR21'
          have HR24 := Lib.hid hr'
          refine hK.out _ _ (hHeld.trans (hb'.mono hHeld.size)) (fun hHeld => ?_)
          clear hK K hr' hb'
          exact hc X4 A8 A18 A21 A24 c21 c24 ⟨hHeld, HR8.out, HR18.out, HR21.out, HR24.out, HK21.out, HM21.out, HK24.out, HM24.out⟩
        · go_simp
          refine (HP1.out X1).mono ?_
          rintro e X2 ⟨v, rfl, hov, hb'⟩
          obtain ⟨A21, m, c21, rfl, hm, hkk, hmm, hr'⟩ := hov.sl
          rw [HL1.out] at hm
          subst hm
          have HK21 := Lib.hid hkk
          have HM21 := Lib.hid hmm
          clear hov hkk hmm
          have HR18' := Lib.hid (HR18.out.next hb')
          clear HR18
          have HR18 := HR18'
          clear HR18'
          have HR21 := Lib.hid hr'
          refine hK.out _ _ (hHeld.trans (hb'.mono hHeld.size)) (fun hHeld => ?_)
          clear hK K hr' hb'
          refine wpAnyH_ready (rs := [1, 17]) (by kernel_rfl) (by simp) (AllReadyH.cons (o := ⟨some 8, _, _, _, _, _⟩) rfl (fun K hK => ?_) (AllReadyH.cons (o := ⟨some 24, _, _, _, _, _⟩) rfl (fun K hK => ?_) AllReadyH.nil))
          · go_simp
            have hb' : Below X2.heap.size X2 (X2.alloc (.cells #[.int .u8 6] 5)) := (Below.refl _ _).alloc (Nat.le_refl _) _
            have hr' : Rd (X2.alloc (.cells #[.int .u8 6] 5)) (X2.alloc (.cells #[.int .u8 6] 5)).heap.size (some ⟨X2.heap.size, 0, none⟩) 1 [6] := (Rd.one X2 (6)).more (by rw [World.size_alloc]; exact Nat.le_refl _)
            obtain ⟨X3, hX⟩ : ∃ X, X2.alloc (.cells #[.int .u8 6] 5) = X := ⟨_, rfl⟩
            rw [hX] at hb' hr' ⊢
            obtain ⟨A8, hA⟩ : ∃ A : Option Addr, some ⟨X2.heap.size, 0, none⟩ = A := ⟨_, rfl⟩
            rw [hA] at hr' ⊢
            clear hA hX
            have HR18' := Lib.hid (HR18.out.next hb')
            clear HR18
            have HR18 := HR18'
            clear HR18'
            have HR21' := Lib.hid (HR21.out.next hb')
            clear HR21
            have HR21 := HR21'
            clear HR21'
            have HR8 := Lib.hid hr'
            refine hK.out _ _ (hHeld.trans (hb'.mono hHeld.size)) (fun hHeld => ?_)
            clear hK K hr' hb'
            refine wpAnyH_ready (rs := [17]) (by kernel_rfl) (by simp) (AllReadyH.cons (o := ⟨some 24, _, _, _, _, _⟩) rfl (fun K hK => ?_) AllReadyH.nil)
            go_simp
            refine (HP2.out X3).mono ?_
            rintro e X4 ⟨v, rfl, hov, hb'⟩
            obtain ⟨A24, m, c24, rfl, hm, hkk, hmm, hr'⟩ := hov.sl
            rw [HL2.out] at hm
            subst hm
            have HK24 := Lib.hid hkk
            have HM24 := Lib.hid hmm
            clear hov hkk hmm
            have HR18' := Lib.hid (HR18.out.next hb')
            clear HR18
            have HR18 := HR18'
            clear HR18'
            have HR21' := Lib.hid (HR21.out.next hb')
            clear HR21
            have HR21 := HR21'
            clear HR21'
            have HR8' := Lib.hid (HR8.out.next hb')
            clear HR8
            have HR8 := HR8'
            clear HR8'
            have HR24 := Lib.hid hr'
            refine hK.out _ _ (hHeld.trans (hb'.mono hHeld.size)) (fun hHeld => ?_)
            clear hK K hr' hb'
            exact hc X4 A8 A18 A21 A24 c21 c24 ⟨hHeld, HR8.out, HR18.out, HR21.out, HR24.out, HK21.out, HM21.out, HK24.out, HM24.out⟩
          · go_simp
            refine (HP2.out X2).mono ?_
            rintro e X3 ⟨v, rfl, hov, hb'⟩
            obtain ⟨A24, m, c24, rfl, hm, hkk, hmm, hr'⟩ := hov.sl
            rw [HL2.out] at hm
            subst hm
            have HK24 := Lib.hid hkk
            have HM24 := Lib.hid hmm
            clear hov hkk hmm
            have HR18' := Lib.hid (HR18.out.next hb')
            clear HR18
            have HR18 := HR18'
            clear HR18'
            have HR21' := Lib.hid (HR21.out.next hb')
            clear HR21
            have HR21 := HR21'
            clear HR21'
            have HR24 := Lib.hid hr'
            refine hK.out _ _ (hHeld.trans (hb'.mono hHeld.size)) (fun hHeld => ?_)
            clear hK K hr' hb'
            refine wpAnyH_ready (rs := [1]) (by kernel_rfl) (by simp) (AllReadyH.cons (o := ⟨some 8, _, _, _, _, _⟩) rfl (fun K hK => ?_) AllReadyH.nil)
            go_simp
            have hb' : Below X3.heap.size X3 (X3.alloc (.cells #[.int .u8 6] 5)) := (Below.refl _ _).alloc (Nat.le_refl _) _
            have hr' : Rd (X3.alloc (.cells #[.int .u8 6] 5)) (X3.alloc (.cells #[.int .u8 6] 5)).heap.size (some ⟨X3.heap.size, 0, none⟩) 1 [6] := (Rd.one X3 (6)).more (by rw [World.size_alloc]; exact Nat.le_refl _)
            obtain ⟨X4, hX⟩ : ∃ X, X3.alloc (.cells #[.int .u8 6] 5) = X := ⟨_, rfl⟩
            rw [hX] at hb' hr' ⊢
            obtain ⟨A8, hA⟩ : ∃ A : Option Addr, some ⟨X3.heap.size, 0, none⟩ = A := ⟨_, rfl⟩
            rw [hA] at hr' ⊢
            clear hA hX
            have HR18' := Lib.hid (HR18.out.next hb')
            clear HR18
            have HR18 := HR18'
            clear HR18'
            have HR21' := Lib.hid (HR21.out.next hb')
            clear HR21
            have HR21 := HR21'
            clear HR21'
            have HR24' := Lib.hid (HR24.out.next hb')
            clear HR24
            have HR24 := HR24'
            clear HR24'
            have HR8 := Lib.hid hr'
            refine hK.out _ _ (hHeld.trans (hb'.mono hHeld.size)) (fun hHeld => ?_)
            clear hK K hr' hb'
            exact hc X4 A8 A18 A21 A24 c21 c24 ⟨hHeld, HR8.out, HR18.out, HR21.out, HR24.out, HK21.out, HM21.out, HK24.out, HM24.out⟩
      · go_simp
        refine (HP1.out X0).mono ?_
        rintro e X1 ⟨v, rfl, hov, hb'⟩
        obtain ⟨A21, m, c21, rfl, hm, hkk, hmm, hr'⟩ := hov.sl
        rw [HL1.out] at hm
        subst hm
        have HK21 := Lib.hid hkk
        have HM21 := Lib.hid hmm
        clear hov hkk hmm
        have HR21 := Lib.hid hr'
        refine hK.out _ _ (hHeld.trans (hb'.mono hHeld.size)) (fun hHeld => ?_)
        clear hK K hr' hb'
        refine wpAnyH_ready (rs := [1, 11, 17]) (by kernel_rfl) (by simp) (AllReadyH.cons (o := ⟨some 8, _, _, _, _, _⟩) rfl (fun K hK => ?_) (AllReadyH.cons (o := ⟨some 18, _, _, _, _, _⟩) rfl (fun K hK => ?_) (AllReadyH.cons (o := ⟨some 24, _, _, _, _, _⟩) rfl (fun K hK => ?_) AllReadyH.nil)))
        · go_simp
          have hb' : Below X1.heap.size X1 (X1.alloc (.cells #[.int .u8 6] 5)) := (Below.refl _ _).alloc (Nat.le_refl _) _
          have hr' : Rd (X1.alloc (.cells #[.int .u8 6] 5)) (X1.alloc (.cells #[.int .u8 6] 5)).heap.size (some ⟨X1.heap.size, 0, none⟩) 1 [6] := (Rd.one X1 (6)).more (by rw [World.size_alloc]; exact Nat.le_refl _)
          obtain ⟨X2, hX⟩ : ∃ X, X1.alloc (.cells #[.int .u8 6] 5) = X := ⟨_, rfl⟩
          rw [hX] at hb' hr' ⊢
          obtain ⟨A8, hA⟩ : ∃ A : Option Addr, some ⟨X1.heap.size, 0, none⟩ = A := ⟨_, rfl⟩
          rw [hA] at hr' ⊢
          clear hA hX
          have HR21' := Lib.hid (HR21.out.next hb')
          clear HR21
          have HR21 := HR21'
          clear HR21'
          have HR8 := Lib.hid hr'
          refine hK.out _ _ (hHeld.trans (hb'.mono hHeld.size)) (fun hHeld => ?_)
          clear hK K hr' hb'
          refine wpAnyH_ready (rs := [11, 17]) (by kernel_rfl) (by simp) (AllReadyH.cons (o := ⟨some 18, _, _, _, _, _⟩) rfl (fun K hK => ?_) (AllReadyH.cons (o := ⟨some 24, _, _, _, _, _⟩) rfl (fun K hK => ?_) AllReadyH.nil))
          · go_simp
            have hb' : Below X2.heap.size X2 (X2.alloc (.cells #[.int .u8 (y.toNat : Int)] 5)) := (Below.refl _ _).alloc (Nat.le_refl _) _
            have hr' : Rd (X2.alloc (.cells #[.int .u8 (y.toNat : Int)] 5)) (X2.alloc (.cells #[.int .u8 (y.toNat : Int)] 5)).heap.size (some ⟨X2.heap.size, 0, none⟩) 1 [y] := (Rd.one X2 (y)).more (by rw [World.size_alloc]; exact Nat.le_refl _)
            obtain ⟨X3, hX⟩ : ∃ X, X2.alloc (.cells #[.int .u8 (y.toNat : Int)] 5) = X := ⟨_, rfl⟩
            rw [hX] at hb' hr' ⊢
            obtain ⟨A18, hA⟩ : ∃ A : Option Addr, some ⟨X2.heap.size, 0, none⟩ = A := ⟨_, rfl⟩
            rw [hA] at hr' ⊢
            clear hA hX
            have HR21' := Lib.hid (HR21.out.next hb')
            clear HR21
            have HR21 := HR21'
            clear HR21'
            have HR8' := Lib.hid (HR8.out.next hb')
            clear HR8
            have HR8 := HR8'
            clear HR8'
            have HR18 := Lib.hid hr'
            refine hK.out _ _ (hHeld.trans (hb'.mono hHeld.size)) (fun hHeld => ?_)
            clear hK K hr' hb'
            refine wpAnyH_ready (rs := [17]) (by kernel_rfl) (by simp) (AllReadyH.cons (o := ⟨some 24, _, _, _, _, _⟩) rfl (fun K hK => ?_) AllReadyH.nil)
            go_simp
            refine (HP2.out X3).mono ?_
            rintro e X4 ⟨v, rfl, hov, hb'⟩
            obtain ⟨A24, m, c24, rfl, hm, hkk, hmm, hr'⟩ := hov.sl
            rw [HL2.out] at hm
            subst hm
            have HK24 := Lib.hid hkk
            have HM24 := Lib.hid hmm
            clear hov hkk hmm
            have HR21' := Lib.hid (HR21.out.next hb')
            clear HR21
            have HR21 := HR21'
            clear HR21'
            have HR8' := Lib.hid (HR8.out.next hb')
            clear HR8
            have HR8 := HR8'
            clear HR8'
            have HR18' := Lib.hid (HR18.out.next hb')
            clear HR18
            have HR18 := HR18'
            clear HR18'
            have HR24 := Lib.hid hr'
            refine hK.out _ _ (hHeld.trans (hb'.mono hHeld.size)) (fun hHeld => ?_)
            clear hK K hr' hb'
            exact hc X4 A8 A18 A21 A24 c21 c24 ⟨hHeld, HR8.out, HR18.out, HR21.out, HR24.out, HK21.out, HM21.out, HK24.out, HM24.out⟩
          · go_simp
            refine (HP2.out X2).mono ?_
            rintro e X3 ⟨v, rfl, hov, hb'⟩
            obtain ⟨A24, m, c24, rfl, hm, hkk, hmm, hr'⟩ := hov.sl
            rw [HL2.out] at hm
            subst hm
            have HK24 := Lib.hid hkk
            have HM24 := Lib.hid hmm
            clear hov hkk hmm
            have HR21' := Lib.hid (HR21.out.next hb')
            clear HR21
            have HR21 := HR21'
            clear HR21'
            have HR8' := Lib.hid (HR8.out.next hb')
            clear HR8
            have HR8 := HR8'
            clear HR8'
            have HR24 := Lib.hid hr'
            refine hK.out _ _ (hHeld.trans (hb'.mono hHeld.size)) (fun hHeld => ?_)
            clear hK K hr' hb'
            refine wpAnyH_ready (rs := [11]) (by kernel_rfl) (by simp) (AllReadyH.cons (o := ⟨some 18, _, _, _, _, _⟩) rfl (fun K hK => ?_) AllReadyH.nil)
            go_simp
            have hb' : Below X3.heap.size X3 (X3.alloc (.cells #[.int .u8 (y.toNat : Int)] 5)) := (Below.refl _ _).alloc (Nat.le_refl _) _
            have hr' : Rd (X3.alloc (.cells #[.int .u8 (y.toNat : Int)] 5)) (X3.alloc (.cells #[.int .u8 (y.toNat : Int)] 5)).heap.size (some ⟨X3.heap.size, 0, none⟩) 1 [y] := (Rd.one X3 (y)).more (by rw [World.size_alloc]; exact Nat.le_refl _)
            obtain ⟨X4, hX⟩ : ∃ X, X3.alloc (.cells #[.int .u8 (y.toNat : Int)] 5) = X := ⟨_, rfl⟩
            rw [hX] at hb' hr' ⊢
            obtain ⟨A18, hA⟩ : ∃ A : Option Addr, some ⟨X3.heap.size, 0, none⟩ = A := ⟨_, rfl⟩
            rw [hA] at hr' ⊢
            clear hA hX
            have HR21' := Lib.hid (HR21.out.next hb')
            clear HR21
            have HR21 := HR21'
            clear HR21'
            have HR8' := Lib.hid (HR8.out.next hb')
            clear HR8
            have HR8 := HR8'
            clear HR8'
            have HR24' := Lib.hid (HR24.out.next hb')
            clear HR24
            have HR24 := HR24'
            clear HR24'
            have HR18 := Lib.hid hr'
            refine hK.out _ _ (hHeld.trans (hb'.mono hHeld.size)) (fun hHeld => ?_)
            clear hK K hr' hb'
            exact hc X4 A8 A18 A21 A24 c21 c24 ⟨hHeld, HR8.out, HR18.out, HR21.out, HR24.out, HK21.out, HM21.out, HK24.out, HM24.out⟩
        · go_simp
          have hb' : Below X1.heap.size X1 (X1.alloc (.cells #[.int .u8 (y.toNat : Int)] 5)) := (Below.refl _ _).alloc (Nat.le_refl _) _
          have hr' : Rd (X1.alloc (.cells #[.int .u8 (y.toNat : Int)] 5)) (X1.alloc (.cells #[.int .u8 (y.toNat : Int)] 5)).heap.size (some ⟨X1.heap.size, 0, none⟩) 1 [y] := (Rd.one X1 (y)).more (by rw [World.size_alloc]; exact Nat.le_refl _)
          obtain ⟨X2, hX⟩ : ∃ X, X1.alloc (.cells #[.int .u8 (y.toNat : Int)] 5) = X := ⟨_, rfl⟩
          rw [hX] at hb' hr' ⊢
          obtain ⟨A18, hA⟩ : ∃ A : Option Addr, some ⟨X1.heap.size, 0, none⟩ = A := ⟨_, rfl⟩
          rw [hA] at hr' ⊢
          clear hA hX
          have HR21' := Lib.hid (HR21.out.next hb')
          clear HR21
          have HR21 := HR21'
          clear HR21'
          have HR18 := Lib.hid hr'
          refine hK.out _ _ (hHeld.trans (hb'.mono hHeld.size)) (fun hHeld => ?_)
          clear hK K hr' hb'
          refine wpAnyH_ready (rs := [1, 17]) (by kernel_rfl) (by simp) (AllReadyH.cons (o := ⟨some 8, _, _, _, _, _⟩) rfl (fun K hK => ?_) (AllReadyH.cons (o := ⟨some 24, _, _, _, _, _⟩) rfl (fun K hK => ?_) AllReadyH.nil))
          · go_simp
            have hb' : Below X2.heap.size X2 (X2.alloc (.cells #[.int .u8 6] 5)) := (Below.refl _ _).alloc (Nat.le_refl _) _
            have hr' : Rd (X2.alloc (.cells #[.int .u8 6] 5)) (X2.alloc (.cells #[.int .u8 6] 5)).heap.size (some ⟨X2.heap.size, 0, none⟩) 1 [6] := (Rd.one X2 (6)).more (by rw [World.size_alloc]; exact Nat.le_refl _)
            obtain ⟨X3, hX⟩ : ∃ X, X2.alloc (.cells #[.int .u8 6] 5) = X := ⟨_, rfl⟩
            rw [hX] at hb' hr' ⊢
            obtain ⟨A8, hA⟩ : ∃ A : Option Addr, some ⟨X2.heap.size, 0, none⟩ = A := ⟨_, rfl⟩
            rw [hA] at hr' ⊢
            clear hA hX
            have HR21' := Lib.hid (HR21.out.next hb')
            clear HR21
            have HR21 := HR21'
            clear HR21'
            have HR18' := Lib.hid (HR18.out.next hb')
            clear HR18
            have HR18 := HR18'
            clear HR18'
            have HR8 := Lib.hid hr'
            refine hK.out _ _ (hHeld.trans (hb'.mono hHeld.size)) (fun hHeld => ?_)
            clear hK K hr' hb'
            refine wpAnyH_ready (rs := [17]) (by kernel_rfl) (by simp) (AllReadyH.cons (o := ⟨some 24, _, _, _, _, _⟩) rfl (fun K hK => ?_) AllReadyH.nil)
            go_simp
            refine (HP2.out X3).mono ?_
            rintro e X4 ⟨v, rfl, hov, hb'⟩
            obtain ⟨A24, m, c24, rfl, hm, hkk, hmm, hr'⟩ := hov.sl
            rw [HL2.out] at hm
            subst hm
            have HK24 := Lib.hid hkk
            have HM24 := Lib.hid hmm
            clear hov hkk hmm
            have HR21' := Lib.hid (HR21.out.next hb')
            clear HR21
            have HR21 := HR21'
            clear HR21'
            have HR18' := Lib.hid (HR18.out.next hb')
            clear HR18
            have HR18 := HR18'
            clear HR18'
            have HR8' := Lib.hid (HR8.out.next hb')
            clear HR8
            have HR8 := HR8'
            clear HR8'
            have HR24 := Lib.hid hr'
            refine hK.out _ _ (hHeld.trans (hb'.mono hHeld.size)) (fun hHeld => ?_)
            clear hK K hr' hb'
            exact hc X4 A8 A18 A21 A24 c21 c24 ⟨hHeld, HR8.out, HR18.out, HR21.out, HR24.out, HK21.out, HM21.out, HK24.out, HM24.out⟩
          · go_simp
            refine (HP2.out X2).mono ?_
            rintro e X3 ⟨v, rfl, hov, hb'⟩
            obtain ⟨A24, m, c24, rfl, hm, hkk, hmm, hr'⟩ := hov.sl
            rw [HL2.out] at hm
            subst hm
            have HK24 := Lib.hid hkk
            have HM24 := Lib.hid hmm
            clear hov hkk hmm
            have HR21' := Lib.hid (HR21.out.next hb')
            clear HR21
            have HR21 := HR21'
            clear HR21'
            have HR18' := Lib.hid (HR18.out.next hb')
            clear HR18
            have HR18 := HR18'
            clear HR18'
            have HR24 := Lib.hid hr'
            refine hK.out _ _ (hHeld.trans (hb'.mono hHeld.size)) (fun hHeld => ?_)
            clear hK K hr' hb'
            refine wpAnyH_ready (rs := [1]) (by kernel_rfl) (by simp) (AllReadyH.cons (o := ⟨some 8, _, _, _, _, _⟩) rfl (fun K hK => ?_) AllReadyH.nil)
            go_simp
            have hb' : Below X3.heap.size X3 (X3.alloc (.cells #[.int .u8 6] 5)) := (Below.refl _ _).alloc (Nat.le_refl _) _
            have hr' : Rd (X3.alloc (.cells #[.int .u8 6] 5)) (X3.alloc (.cells #[.int .u8 6] 5)).heap.size (some ⟨X3.heap.size, 0, none⟩) 1 [6] := (Rd.one X3 (6)).more (by rw [World.size_alloc]; exact Nat.le_refl _)
            obtain ⟨X4, hX⟩ : ∃ X, X3.alloc (.cells #[.int .u8 6] 5) = X := ⟨_, rfl⟩
            rw [hX] at hb' hr' ⊢
            obtain ⟨A8, hA⟩ : ∃ A : Option Addr, some ⟨X3.heap.size, 0, none⟩ = A := ⟨_, rfl⟩
            rw [hA] at hr' ⊢
            clear hA hX
            have HR21' := Lib.hid (HR21.out.next hb')
            clear HR21
            have HR21 := HR21'
            clear HR21'
            have HR18' := Lib.hid (HR18.out.next hb')
            clear HR18
            have HR18 := HR18'
            clear HR18'
            have HR24' := Lib.hid (HR24.out.next hb')
            clear HR24
            have HR24 := HR24'
            clear HR24'
            have HR8 := Lib.hid hr'
            refine hK.out _ _ (hHeld.trans (hb'.mono hHeld.size)) (fun hHeld => ?_)
            clear hK K hr' hb'
            exact hc X4 A8 A18 A21 A24 c21 c24 ⟨hHeld, HR8.out, HR18.out, HR21.out, HR24.out, HK21.out, HM21.out, HK24.out, HM24.out⟩
        · go_simp
          refine (HP2.out X1).mono ?_
          rintro e X2 ⟨v, rfl, hov, hb'⟩
          obtain ⟨A24, m, c24, rfl, hm, hkk, hmm, hr'⟩ := hov.sl
          rw [HL2.out] at hm
          subst hm
          have HK24 := Lib.hid hkk
          have HM24 := Lib.hid hmm
          clear hov hkk hmm
          have HR21' := Lib.hid (HR21.out.next hb')
          clear HR21
          have HR21 := HR21'
          clear HR21'
          have HR24 := Lib.hid hr'
          refine hK.out _ _ (hHeld.trans (hb'.mono hHeld.size)) (fun hHeld => ?_)
          clear hK K hr' hb'
          refine wpAnyH_ready (rs := [1, 11]) (by kernel_rfl) (by simp) (AllReadyH.cons (o := ⟨some 8, _, _, _, _, _⟩) rfl (fun K hK => ?_) (AllReadyH.cons (o := ⟨some 18, _, _, _, _, _⟩) rfl (fun K hK => ?_) AllReadyH.nil))
          · go_simp
            have hb' : Below X2.heap.size X2 (X2.alloc (.cells #[.int .u8 6] 5)) := (Below.refl _ _).alloc (Nat.le_refl _) _
            have hr' : Rd (X2.alloc (.cells #[.int .u8 6] 5)) (X2.alloc (.cells #[.int .u8 6] 5)).heap.size (some ⟨X2.heap.size, 0, none⟩) 1 [6] := (Rd.one X2 (6)).more (by rw [World.size_alloc]; exact Nat.le_refl _)
            obtain ⟨X3, hX⟩ : ∃ X, X2.alloc (.cells #[.int .u8 6] 5) = X := ⟨_, rfl⟩
            rw [hX] at hb' hr' ⊢
            obtain ⟨A8, hA⟩ : ∃ A : Option Addr, some ⟨X2.heap.size, 0, none⟩ = A := ⟨_, rfl⟩
            rw [hA] at hr' ⊢
            clear hA hX
            have HR21' := Lib.hid (HR21.out.next hb')
            clear HR21
            have HR21 := HR21'
            clear HR21'
            have HR24' := Lib.hid (HR24.out.next hb')
            clear HR24
            have HR24 := HR24'
            clear HR24'
            have HR8 := Lib.hid hr'
            refine hK.out _ _ (hHeld.trans (hb'.mono hHeld.size)) (fun hHeld => ?_)
            clear hK K hr' hb'
            refine wpAnyH_ready (rs := [11]) (by kernel_rfl) (by simp) (AllReadyH.cons (o := ⟨some 18, _, _, _, _, _⟩) rfl (fun K hK => ?_) AllReadyH.nil)
            go_simp
            have hb' : Below X3.heap.size X3 (X3.alloc (.cells #[.int .u8 (y.toNat : Int)] 5)) := (Below.refl _ _).alloc (Nat.le_refl _) _
            have hr' : Rd (X3.alloc (.cells #[.int .u8 (y.toNat : Int)] 5)) (X3.alloc (.cells #[.int .u8 (y.toNat : Int)] 5)).heap.size (some ⟨X3.heap.size, 0, none⟩) 1 [y] := (Rd.one X3 (y)).more (by rw [World.size_alloc]; exact Nat.le_refl _)
            obtain ⟨X4, hX⟩ : ∃ X, X3.alloc (.cells #[.int .u8 (y.toNat : Int)] 5) = X := ⟨_, rfl⟩
            rw [hX] at hb' hr' ⊢
            obtain ⟨A18, hA⟩ : ∃ A : Option Addr, some ⟨X3.heap.size, 0, none⟩ = A := ⟨_, rfl⟩
            rw [hA] at hr' ⊢
            clear hA hX
            have HR21' := Lib.hid (HR21.out.next hb')
            clear HR21
            have HR21 := HR21'
            clear HR21'
            have HR24' := Lib.hid (HR24.out.next hb')
            clear HR24
            have HR24 := HR24'
            clear HR24'
            have HR8' := Lib.hid (HR8.out.next hb')
            clear HR8
            have HR8 := HR8'
            clear HR8'
            have HR18 := Lib.hid hr'
            refine hK.out _ _ (hHeld.trans (hb'.mono hHeld.size)) (fun hHeld => ?_)
            clear hK K hr' hb'
            exact hc X4 A8 A18 A21 A24 c21 c24 ⟨hHeld, HR8.out, HR18.out, HR21.out, HR24.out, HK21.out, HM21.out, HK24.out, HM24.out⟩
          · go_simp
            have hb' : Below X2.heap.size X2 (X2.alloc (.cells #[.int .u8 (y.toNat : Int)] 5)) := (Below.refl _ _).alloc (Nat.le_refl _) _
            have hr' : Rd (X2.alloc (.cells #[.int .u8 (y.toNat : Int)] 5)) (X2.alloc (.cells #[.int .u8 (y.toNat : Int)] 5)).heap.size (some ⟨X2.heap.size, 0, none⟩) 1 [y] := (Rd.one X2 (y)).more (by rw [World.size_alloc]; exact Nat.le_refl _)
            obtain ⟨X3, hX⟩ : ∃ X, X2.alloc (.cells #[.int .u8 (y.toNat : Int)] 5) = X := ⟨_, rfl⟩
            rw [hX] at hb' hr' ⊢
            obtain ⟨A18, hA⟩ : ∃ A : Option Addr, some ⟨X2.heap.size, 0, none⟩ = A := ⟨_, rfl⟩
            rw [hA] at hr' ⊢
            clear hA hX
            have HR21' := Lib.hid (HR21.out.next hb')
            clear HR21
            have HR21 := HR21'
            clear HR21'
            have HR24' := Lib.hid (HR24.out.next hb')
            clear HR24
            have HR24 := HR24'
            clear HR24'
            have HR18 := Lib.hid hr'
            refine hK.out _ _ (hHeld.trans (hb'.mono hHeld.size)) (fun hHeld => ?_)
            clear hK K hr' hb'
            refine wpAnyH_ready (rs := [1]) (by kernel_rfl) (by simp) (AllReadyH.cons (o := ⟨some 8, _, _, _, _, _⟩) rfl (fun K hK => ?_) AllReadyH.nil)
            go_simp
            have hb' : Below X3.heap.size X3 (X3.alloc (.cells #[.int .u8 6] 5)) := (Below.refl _ _).alloc (Nat.le_refl _) _
            have hr' : Rd (X3.alloc (.cells #[.int .u8 6] 5)) (X3.alloc (.cells #[.int .u8 6] 5)).heap.size (some ⟨X3.heap.size, 0, none⟩) 1 [6] := (Rd.one X3 (6)).more (by rw [World.size_alloc]; exact Nat.le_refl _)
            obtain ⟨X4, hX⟩ : ∃ X, X3.alloc (.cells #[.int .u8 6] 5) = X := ⟨_, rfl⟩
            rw [hX] at hb' hr' ⊢
            obtain ⟨A8, hA⟩ : ∃ A : Option Addr, some ⟨X3.heap.size, 0, none⟩ = A := ⟨_, rfl⟩
            rw [hA] at hr' ⊢
            clear hA hX
            have HR21' := Lib.hid (HR21.out.next hb')
            clear HR21
            have HR21 := HR21'
            clear HR21'
            have HR24' := Lib.hid (HR24.out.next hb')
            clear HR24
            have HR24 := HR24'
            clear HR24'
            have HR18' := Lib.hid (HR18.out.next hb')
            clear HR18
            have HR18 := HR18'
            clear HR18'
            have HR8 := Lib.hid hr'
            refine hK.out _ _ (hHeld.trans (hb'.mono hHeld.size)) (fun hHeld => ?_)
            clear hK K hr' hb'
            exact hc X4 A8 A18 A21 A24 c21 c24 ⟨hHeld, HR8.out, HR18.out, HR21.out, HR24.out, HK21.out, HM21.out, HK24.out, HM24.out⟩
    case h2 =>
      intro W A8 A18 A21 A24 c21 c24 hh
      have HH := Lib.hid hh
      have hHeld := hh.bel
      clear hh
      refine wpAnyH_ready (rs := [18]) (by kernel_rfl) (by simp) (AllReadyH.cons (o := ⟨some 25, _, _, _, _, _⟩) rfl (fun K hK => ?_) AllReadyH.nil)
      go_simp
      have HBW : Hid (Blk W 34 w.heap.size (tuL t)) := Lib.hid (Blk_10.below HB.out HG.out HH.out.bel)
      have HCC := Lib.hid (concat_six W HH.out.r8 (tu_srcR HBW.out HOK.out) (tu_dstR HBW.out HOK.out) HH.out.r18 HH.out.r21 HH.out.r24 HH.out.k21 HH.out.m21 HH.out.k24 HH.out.m24)
      rw [← HT.out] at HCC
      refine hK.out _ _ (hHeld.alloc hHeld.size _) (fun hHeld => ?_)
      clear hK K
      refine wpAnyH_ready (rs := [19]) (by kernel_rfl) (by simp) (AllReadyH.cons (o := ⟨some 26, _, _, _, _, _⟩) rfl (fun K hK => ?_) AllReadyH.nil)
      go_simp
      refine HCC.out.mono ?_
      rintro e W9 ⟨v, rfl, hov, hb9⟩
      have HB9 := Lib.hid (HH.out.bel.trans (hb9.mono HH.out.bel.size))
      have HOV := Lib.hid (hov.base_le (Nat.le_trans (by rw [HYS.out]; exact Nat.le_succ _) HH.out.bel.size))
      clear hov hb9
      refine hK.out _ _ HB9.out (fun hHeld => ?_)
      clear hK K
      refine tk 20 2 v rfl hHeld ?_
      simp only [Act.put, sA, sZ, sS]
      refine wpAnyH_done (by kernel_rfl) ?_ _
      clear hHeld
      go_wp2_with fail
      go_ret
      exact ⟨v, rfl, HOV.out, HBel.out.trans (HB9.out.mono (by rw [HYS.out]; exact Nat.le_succ _))⟩
end Go.Proofs.Ythfeamkomhiemaa
