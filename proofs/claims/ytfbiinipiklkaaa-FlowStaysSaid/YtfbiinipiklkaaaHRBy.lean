/-
  The document's Fit and Bytes.
  The document's Bytes of a tuple.
-/
import Derived.Test.YtfbiinipiklkaaaHROf
import Derived.Test.YtfbiinipiklkaaaKRef1
namespace Go.Proofs.Ytfbiinipiklkaaa
set_option maxRecDepth 100000
open Go.RowKit Go.Lib
/-- A tuple in its box. -/
theorem box_tu1 (w : World) (t : Tu) : ∃ Y : World, w.alloc (.cells (tuL t).toArray 26) = Y ∧ Blk Y 26 w.heap.size (tuL t) ∧ Below w.heap.size w Y ∧ Y.heap.size = w.heap.size + 1 :=
  ⟨_, rfl, Blk_10.new w 26 (tuL t), (Below.refl w.heap.size w).alloc (Nat.le_refl _) _, World.size_alloc _ _⟩
theorem tu_dix {T : TypeId} {w : World} {g : Nat} {t : Tu} (h : Blk w T g (tuL t)) (ho : t.Ok) : w.cell? ⟨g, 17, none⟩ = some (.bool t.d.six) := by
  have := tu_dst h ho 0 (.bool t.d.six) rfl
  exact this
end Go.Proofs.Ytfbiinipiklkaaa
namespace Go.Proofs.Ytfbiinipiklkaaa
set_option maxRecDepth 100000
open Go.RowKit Go.Lib
theorem byte_val {n : Nat} (h : n < 256) : (n : Int) = ((UInt8.ofNat n).toNat : Int) := by
  rw [UInt8.toNat_ofNat']
  omega
theorem tu_srcB {T : TypeId} {w : World} {g : Nat} {t : Tu} (h : Blk w T g (tuL t)) {i : Nat} {x : UInt8} (hx : t.s.b[i]? = some x) : w.cell? ⟨g, 1 + i, none⟩ = some (v8 x) := by
  have := tu_src h (1 + i) (v8 x) (by rw [Nat.add_comm]; unfold adL; rw [List.getElem?_cons_succ, List.getElem?_map, hx]; rfl)
  rwa [Nat.zero_add] at this
theorem tu_dstB {T : TypeId} {w : World} {g : Nat} {t : Tu} (h : Blk w T g (tuL t)) (ho : t.Ok) {i : Nat} {x : UInt8} (hx : t.d.b[i]? = some x) : w.cell? ⟨g, 18 + i, none⟩ = some (v8 x) := by
  have := tu_dst h ho (1 + i) (v8 x) (by rw [Nat.add_comm]; unfold adL; rw [List.getElem?_cons_succ, List.getElem?_map, hx]; rfl)
  rwa [← Nat.add_assoc] at this
set_option maxHeartbeats 8000000 in
theorem rby_any {t : Tu} (ho : t.Ok) (hf : t.Fit) (w : World) : Calls Try.prog 38 #[tuC t] w fun e W' => ∃ v, e = .returned v ∧ Own8 W' w.heap.size v (tuB t) ∧ Below w.heap.size w W' := by
  obtain ⟨Y, hY, hb, hbel, hys⟩ := box_tu1 w t
  have d0 := tu_six hb
  obtain ⟨d2, d3, d4⟩ := tu_num hb ho
  obtain ⟨p, hp⟩ := Int.eq_ofNat_of_zero_le hf.pr.1
  obtain ⟨s, hs⟩ := Int.eq_ofNat_of_zero_le hf.sp.1
  obtain ⟨d, hd⟩ := Int.eq_ofNat_of_zero_le hf.dp.1
  have lp : p < 256 := by have := hf.pr.2; omega
  have ls : s < 65536 := by have := hf.sp.2; omega
  have ld : d < 65536 := by have := hf.dp.2; omega
  rw [hp] at d2
  rw [hs] at d3
  rw [hd] at d4
  have b0 := byte_val lp
  have b1 := byte_val (n := s / 256) (by omega)
  have b2 := byte_val (n := s % 256) (by omega)
  have b3 := byte_val (n := d / 256) (by omega)
  have b4 := byte_val (n := d % 256) (by omega)
  have HT : Hid (tuB t = (if t.s.six then 6 else 4) :: (t.s.b ++ (t.d.b ++ [UInt8.ofNat p, UInt8.ofNat (s / 256), UInt8.ofNat (s % 256), UInt8.ofNat (d / 256), UInt8.ofNat (d % 256)]))) := Lib.hid (by
    unfold tuB bePW
    rw [hp, hs, hd]
    rfl)
  obtain ⟨x0, hx0⟩ : ∃ x, UInt8.ofNat p = x := ⟨_, rfl⟩
  obtain ⟨x1, hx1⟩ : ∃ x, UInt8.ofNat (s / 256) = x := ⟨_, rfl⟩
  obtain ⟨x2, hx2⟩ : ∃ x, UInt8.ofNat (s % 256) = x := ⟨_, rfl⟩
  obtain ⟨x3, hx3⟩ : ∃ x, UInt8.ofNat (d / 256) = x := ⟨_, rfl⟩
  obtain ⟨x4, hx4⟩ : ∃ x, UInt8.ofNat (d % 256) = x := ⟨_, rfl⟩
  rw [hx0] at b0 HT
  rw [hx1] at b1 HT
  rw [hx2] at b2 HT
  rw [hx3] at b3 HT
  rw [hx4] at b4 HT
  rw [Int.natCast_ediv] at b1 b3
  rw [Int.natCast_emod] at b2 b4
  have B0 := Lib.hid b0
  have B1 := Lib.hid b1
  have B2 := Lib.hid b2
  have B3 := Lib.hid b3
  have B4 := Lib.hid b4
  clear hx0 hx1 hx2 hx3 hx4 hp hs hd b0 b1 b2 b3 b4
  obtain ⟨fam, hfam⟩ : ∃ f : UInt8, (if t.s.six then 6 else 4) = f := ⟨_, rfl⟩
  rw [hfam] at HT
  obtain ⟨R, hR⟩ : ∃ R, tuB t = R := ⟨_, rfl⟩
  rw [hR]
  rw [hR] at HT
  clear hR
  have HS1 := Lib.hid ho.s
  have HS2 := Lib.hid ho.d
  have HB := Lib.hid hb
  have HOK := Lib.hid ho
  have D2 := Lib.hid d2
  have D3 := Lib.hid d3
  have D4 := Lib.hid d4
  obtain ⟨C, hC⟩ : ∃ C, (tuL t).toArray = C := ⟨_, rfl⟩
  unfold tuC
  rw [hC] at hY ⊢
  have HY := Lib.hid hY
  have HBel := Lib.hid hbel
  have HYS := Lib.hid hys
  obtain ⟨a, ha⟩ : ∃ a, t.s.six = a := ⟨_, rfl⟩
  rw [ha] at d0 hfam
  have d1 : ((w.alloc (.cells C 26)).alloc (.cells #[.int .u8 4] 5)).cell? ⟨w.heap.size, 0, none⟩ = some (.bool a) := by rw [hY]; exact (World.cell?_alloc_lt Y _ _ (by rw [hys]; exact Nat.lt_succ_self _)).trans d0
  clear d0
  clear hY hbel hb ha hC ho hf hys d2 d3 d4
  cases a
  · have hfv : fam = 4 := hfam.symm
    subst hfv
    clear hfam
    go_enter Try.func38, Try.ntmps38
    go_wp2_with fail
    have HOZ : Hid (Own8 ((w.alloc (.cells C 26)).alloc (.cells #[.int .u8 4] 5)) (w.heap.size + 1) (.slice (some ⟨w.heap.size + 1, 0, none⟩) 1 1) [4]) := Lib.hid (by
      rw [HY.out]
      have := (Row8.one Y 4).own (base := w.heap.size + 1) (n := 1) (by rw [HYS.out]; exact Nat.le_refl _) (Nat.le_refl _) (by unfold maxLen; simp)
      rw [HYS.out] at this
      exact this)
    have HBZ : Hid (Below (w.heap.size + 1) Y ((w.alloc (.cells C 26)).alloc (.cells #[.int .u8 4] 5))) := Lib.hid (by rw [HY.out]; exact (Below.refl _ Y).alloc (by rw [HYS.out]; exact Nat.le_refl _) _)
    go_loopw [3, 4] (fun v i wr => ∃ k : Nat, k ≤ 16 ∧ i = .int .i64 (k : Int) ∧ Own8 wr (w.heap.size + 1) v ([4] ++ (t.s.b).take k) ∧ Below (w.heap.size + 1) Y wr)
      (fun _ i _ => 16 - (intOf i).toNat)
    case atStart => exact ⟨0, Nat.zero_le _, rfl, by rw [List.take_zero, List.append_nil]; exact HOZ.out, HBZ.out⟩
    case round =>
      obtain ⟨k, hk, rfl, hown, hbel⟩ := hrel
      have hsz := hbel.size
      rw [HYS.out] at hsz
      by_cases hlt : k < 16
      · have h1 : (k : Int) < 16 := by omega
        have h0 : (0 : Int) ≤ (k : Int) := by omega
        have hkl : k < (t.s.b).length := by rw [HS1.out]; exact hlt
        have hx0 : (t.s.b)[k]? = some ((t.s.b)[k]) := List.getElem?_eq_getElem hkl
        have HT2 := Lib.hid (key_take (t.s.b) hkl)
        obtain ⟨x, hx⟩ : ∃ x, (t.s.b)[k] = x := ⟨_, rfl⟩
        rw [hx] at hx0 HT2
        have hc := (hbel.cell (p := ⟨w.heap.size, 1 + k, none⟩) (by show w.heap.size < w.heap.size + 1; omega)).trans (tu_srcB HB.out hx0)
        unfold v8 at hc
        have HO := Lib.hid hown
        have HBE := Lib.hid hbel
        have HSZ := Lib.hid hsz
        have HLE : Hid (([4] ++ (t.s.b).take k).length + 1 ≤ 2000000000) := Lib.hid (by simp [HS1.out]; omega)
        clear hx hown hbel hsz hk hkl hx0
        go_wp2_with (at_builtin; refine wpList_append8 rfl _ _ rfl (w.heap.size + 1) _ _ (by rfl) (HO.out.alloc _) _ _ _ _ [x] (by rfl) (Rd.one wr x) HLE.out (by simp; exact Nat.le_of_succ_le HSZ.out) ?_; intro v' w2 ho2 hg2 _)
        have hb2 := (HBE.out.alloc HSZ.out (.cells #[.int .u8 (x.toNat : Int)] 5)).grown hg2 (by simp; exact Nat.le_of_succ_le HSZ.out) HO.out.lt
        rw [List.append_assoc, ← HT2.out] at ho2
        go_wp2_with fail
        go_roundw
        case rel => exact ⟨k + 1, by omega, by go_num, ho2, hb2⟩
        case measure => simp [intOf]; omega
      · obtain rfl : k = 16 := by omega
        rw [List.take_of_length_le (by rw [HS1.out]; exact Nat.le_refl _)] at hown
        have h1 : ¬ ((16 : Nat) : Int) < 16 := by omega
        have HO := Lib.hid hown
        have HBE := Lib.hid hbel
        clear hown hbel hlt hk hsz
        go_wp2_with fail
        go_loopw [3, 5] (fun v i wr => ∃ k : Nat, k ≤ 16 ∧ i = .int .i64 (k : Int) ∧ Own8 wr (w.heap.size + 1) v ([4] ++ t.s.b ++ (t.d.b).take k) ∧ Below (w.heap.size + 1) Y wr)
          (fun _ i _ => 16 - (intOf i).toNat)
        case atStart => exact ⟨0, Nat.zero_le _, rfl, by rw [List.take_zero, List.append_nil]; exact HO.out, HBE.out⟩
        case round =>
          obtain ⟨k, hk, rfl, hown, hbel⟩ := hrel
          have hsz := hbel.size
          rw [HYS.out] at hsz
          by_cases hlt : k < 16
          · have h1 : (k : Int) < 16 := by omega
            have h0 : (0 : Int) ≤ (k : Int) := by omega
            have hkl : k < (t.d.b).length := by rw [HS2.out]; exact hlt
            have hx0 : (t.d.b)[k]? = some ((t.d.b)[k]) := List.getElem?_eq_getElem hkl
            have HT2 := Lib.hid (key_take (t.d.b) hkl)
            obtain ⟨x, hx⟩ : ∃ x, (t.d.b)[k] = x := ⟨_, rfl⟩
            rw [hx] at hx0 HT2
            have hc := (hbel.cell (p := ⟨w.heap.size, 18 + k, none⟩) (by show w.heap.size < w.heap.size + 1; omega)).trans (tu_dstB HB.out HOK.out hx0)
            unfold v8 at hc
            have HO := Lib.hid hown
            have HBE := Lib.hid hbel
            have HSZ := Lib.hid hsz
            have HLE : Hid (([4] ++ t.s.b ++ (t.d.b).take k).length + 1 ≤ 2000000000) := Lib.hid (by simp [HS1.out]; omega)
            clear hx hown hbel hsz hk hkl hx0
            go_wp2_with (at_builtin; refine wpList_append8 rfl _ _ rfl (w.heap.size + 1) _ _ (by rfl) (HO.out.alloc _) _ _ _ _ [x] (by rfl) (Rd.one wr x) HLE.out (by simp; exact Nat.le_of_succ_le HSZ.out) ?_; intro v' w2 ho2 hg2 _)
            have hb2 := (HBE.out.alloc HSZ.out (.cells #[.int .u8 (x.toNat : Int)] 5)).grown hg2 (by simp; exact Nat.le_of_succ_le HSZ.out) HO.out.lt
            rw [List.append_assoc, ← HT2.out] at ho2
            go_wp2_with fail
            go_roundw
            case rel => exact ⟨k + 1, by omega, by go_num, ho2, hb2⟩
            case measure => simp [intOf]; omega
          · obtain rfl : k = 16 := by omega
            rw [List.take_of_length_le (by rw [HS2.out]; exact Nat.le_refl _)] at hown
            have h1 : ¬ ((16 : Nat) : Int) < 16 := by omega
            have HO := Lib.hid hown
            have HBE := Lib.hid hbel
            clear hown hbel hlt hk hsz
            have q2 := (HBE.out.cell (p := ⟨w.heap.size, 34, none⟩) (by show w.heap.size < w.heap.size + 1; omega)).trans D2.out
            have q3 := (HBE.out.cell (p := ⟨w.heap.size, 35, none⟩) (by show w.heap.size < w.heap.size + 1; omega)).trans D3.out
            have q4 := (HBE.out.cell (p := ⟨w.heap.size, 36, none⟩) (by show w.heap.size < w.heap.size + 1; omega)).trans D4.out
            have HSZ := Lib.hid (show w.heap.size + 1 ≤ wr.heap.size by have := HBE.out.size; rw [HYS.out] at this; exact this)
            have HRD : Hid (Rd (wr.alloc (.cells #[.int .u8 (p : Int), .int .u8 ((s : Int) / 256), .int .u8 ((s : Int) % 256), .int .u8 ((d : Int) / 256), .int .u8 ((d : Int) % 256)] 5)) (wr.heap.size + 1) (some ⟨wr.heap.size, 0, none⟩) 5 [x0, x1, x2, x3, x4]) := Lib.hid (by
              have := Rd.laid wr [x0, x1, x2, x3, x4] 5 rfl
              have e : ([x0, x1, x2, x3, x4].map v8).toArray = #[.int .u8 (p : Int), .int .u8 ((s : Int) / 256), .int .u8 ((s : Int) % 256), .int .u8 ((d : Int) / 256), .int .u8 ((d : Int) % 256)] := by
                have e1 : (s : Int) / 256 = (x1.toNat : Int) := B1.out
                have e2 : (s : Int) % 256 = (x2.toNat : Int) := B2.out
                have e3 : (d : Int) / 256 = (x3.toNat : Int) := B3.out
                have e4 : (d : Int) % 256 = (x4.toNat : Int) := B4.out
                rw [e1, e2, e3, e4, B0.out]
                rfl
              rw [e] at this
              exact this)
            have HLE : Hid (([4] ++ t.s.b ++ t.d.b).length + 5 ≤ 2000000000) := Lib.hid (by simp [HS1.out, HS2.out])
            go_wp2_with (at_builtin; (refine wpList_append8 rfl _ _ rfl (w.heap.size + 1) _ _ (by rfl) (HO.out.alloc _) _ _ _ _ [x0, x1, x2, x3, x4] (by rfl) HRD.out HLE.out (by simp; exact Nat.le_of_succ_le HSZ.out) ?_; intro v' w2 ho2 hg2 _; have HX := Lib.hid ho2; have HXB := Lib.hid ((HBE.out.alloc HSZ.out (.cells #[.int .u8 (p : Int), .int .u8 ((s : Int) / 256), .int .u8 ((s : Int) % 256), .int .u8 ((d : Int) / 256), .int .u8 ((d : Int) % 256)] 5)).grown hg2 (by simp; exact Nat.le_of_succ_le HSZ.out) HO.out.lt); clear ho2 hg2))
            go_ret
            refine ⟨_, rfl, ?_, HBel.out.trans (HXB.out.mono (Nat.le_succ _))⟩
            rw [HT.out]
            have := HX.out.base_le (Nat.le_succ w.heap.size)
            rw [List.append_assoc, List.append_assoc] at this
            exact this
  · have hfv : fam = 6 := hfam.symm
    subst hfv
    clear hfam
    go_enter Try.func38, Try.ntmps38
    go_wp2_with fail
    have HOZ : Hid (Own8 (((w.alloc (.cells C 26)).alloc (.cells #[.int .u8 4] 5)).alloc (.cells #[.int .u8 6] 5)) (w.heap.size + 1) (.slice (some ⟨w.heap.size + 1 + 1, 0, none⟩) 1 1) [6]) := Lib.hid (by
      rw [HY.out]
      have := (Row8.one (Y.alloc (.cells #[.int .u8 4] 5)) 6).own (base := w.heap.size + 1) (n := 1) (by rw [World.size_alloc, HYS.out]; exact Nat.le_succ _) (Nat.le_refl _) (by unfold maxLen; simp)
      rw [World.size_alloc, HYS.out] at this
      exact this)
    have HBZ : Hid (Below (w.heap.size + 1) Y (((w.alloc (.cells C 26)).alloc (.cells #[.int .u8 4] 5)).alloc (.cells #[.int .u8 6] 5))) := Lib.hid (by rw [HY.out]; exact ((Below.refl _ Y).alloc (by rw [HYS.out]; exact Nat.le_refl _) _).alloc (by rw [World.size_alloc, HYS.out]; exact Nat.le_succ _) _)
    go_loopw [3, 4] (fun v i wr => ∃ k : Nat, k ≤ 16 ∧ i = .int .i64 (k : Int) ∧ Own8 wr (w.heap.size + 1) v ([6] ++ (t.s.b).take k) ∧ Below (w.heap.size + 1) Y wr)
      (fun _ i _ => 16 - (intOf i).toNat)
    case atStart => exact ⟨0, Nat.zero_le _, rfl, by rw [List.take_zero, List.append_nil]; exact HOZ.out, HBZ.out⟩
    case round =>
      obtain ⟨k, hk, rfl, hown, hbel⟩ := hrel
      have hsz := hbel.size
      rw [HYS.out] at hsz
      by_cases hlt : k < 16
      · have h1 : (k : Int) < 16 := by omega
        have h0 : (0 : Int) ≤ (k : Int) := by omega
        have hkl : k < (t.s.b).length := by rw [HS1.out]; exact hlt
        have hx0 : (t.s.b)[k]? = some ((t.s.b)[k]) := List.getElem?_eq_getElem hkl
        have HT2 := Lib.hid (key_take (t.s.b) hkl)
        obtain ⟨x, hx⟩ : ∃ x, (t.s.b)[k] = x := ⟨_, rfl⟩
        rw [hx] at hx0 HT2
        have hc := (hbel.cell (p := ⟨w.heap.size, 1 + k, none⟩) (by show w.heap.size < w.heap.size + 1; omega)).trans (tu_srcB HB.out hx0)
        unfold v8 at hc
        have HO := Lib.hid hown
        have HBE := Lib.hid hbel
        have HSZ := Lib.hid hsz
        have HLE : Hid (([6] ++ (t.s.b).take k).length + 1 ≤ 2000000000) := Lib.hid (by simp [HS1.out]; omega)
        clear hx hown hbel hsz hk hkl hx0
        go_wp2_with (at_builtin; refine wpList_append8 rfl _ _ rfl (w.heap.size + 1) _ _ (by rfl) (HO.out.alloc _) _ _ _ _ [x] (by rfl) (Rd.one wr x) HLE.out (by simp; exact Nat.le_of_succ_le HSZ.out) ?_; intro v' w2 ho2 hg2 _)
        have hb2 := (HBE.out.alloc HSZ.out (.cells #[.int .u8 (x.toNat : Int)] 5)).grown hg2 (by simp; exact Nat.le_of_succ_le HSZ.out) HO.out.lt
        rw [List.append_assoc, ← HT2.out] at ho2
        go_wp2_with fail
        go_roundw
        case rel => exact ⟨k + 1, by omega, by go_num, ho2, hb2⟩
        case measure => simp [intOf]; omega
      · obtain rfl : k = 16 := by omega
        rw [List.take_of_length_le (by rw [HS1.out]; exact Nat.le_refl _)] at hown
        have h1 : ¬ ((16 : Nat) : Int) < 16 := by omega
        have HO := Lib.hid hown
        have HBE := Lib.hid hbel
        clear hown hbel hlt hk hsz
        go_wp2_with fail
        go_loopw [3, 5] (fun v i wr => ∃ k : Nat, k ≤ 16 ∧ i = .int .i64 (k : Int) ∧ Own8 wr (w.heap.size + 1) v ([6] ++ t.s.b ++ (t.d.b).take k) ∧ Below (w.heap.size + 1) Y wr)
          (fun _ i _ => 16 - (intOf i).toNat)
        case atStart => exact ⟨0, Nat.zero_le _, rfl, by rw [List.take_zero, List.append_nil]; exact HO.out, HBE.out⟩
        case round =>
          obtain ⟨k, hk, rfl, hown, hbel⟩ := hrel
          have hsz := hbel.size
          rw [HYS.out] at hsz
          by_cases hlt : k < 16
          · have h1 : (k : Int) < 16 := by omega
            have h0 : (0 : Int) ≤ (k : Int) := by omega
            have hkl : k < (t.d.b).length := by rw [HS2.out]; exact hlt
            have hx0 : (t.d.b)[k]? = some ((t.d.b)[k]) := List.getElem?_eq_getElem hkl
            have HT2 := Lib.hid (key_take (t.d.b) hkl)
            obtain ⟨x, hx⟩ : ∃ x, (t.d.b)[k] = x := ⟨_, rfl⟩
            rw [hx] at hx0 HT2
            have hc := (hbel.cell (p := ⟨w.heap.size, 18 + k, none⟩) (by show w.heap.size < w.heap.size + 1; omega)).trans (tu_dstB HB.out HOK.out hx0)
            unfold v8 at hc
            have HO := Lib.hid hown
            have HBE := Lib.hid hbel
            have HSZ := Lib.hid hsz
            have HLE : Hid (([6] ++ t.s.b ++ (t.d.b).take k).length + 1 ≤ 2000000000) := Lib.hid (by simp [HS1.out]; omega)
            clear hx hown hbel hsz hk hkl hx0
            go_wp2_with (at_builtin; refine wpList_append8 rfl _ _ rfl (w.heap.size + 1) _ _ (by rfl) (HO.out.alloc _) _ _ _ _ [x] (by rfl) (Rd.one wr x) HLE.out (by simp; exact Nat.le_of_succ_le HSZ.out) ?_; intro v' w2 ho2 hg2 _)
            have hb2 := (HBE.out.alloc HSZ.out (.cells #[.int .u8 (x.toNat : Int)] 5)).grown hg2 (by simp; exact Nat.le_of_succ_le HSZ.out) HO.out.lt
            rw [List.append_assoc, ← HT2.out] at ho2
            go_wp2_with fail
            go_roundw
            case rel => exact ⟨k + 1, by omega, by go_num, ho2, hb2⟩
            case measure => simp [intOf]; omega
          · obtain rfl : k = 16 := by omega
            rw [List.take_of_length_le (by rw [HS2.out]; exact Nat.le_refl _)] at hown
            have h1 : ¬ ((16 : Nat) : Int) < 16 := by omega
            have HO := Lib.hid hown
            have HBE := Lib.hid hbel
            clear hown hbel hlt hk hsz
            have q2 := (HBE.out.cell (p := ⟨w.heap.size, 34, none⟩) (by show w.heap.size < w.heap.size + 1; omega)).trans D2.out
            have q3 := (HBE.out.cell (p := ⟨w.heap.size, 35, none⟩) (by show w.heap.size < w.heap.size + 1; omega)).trans D3.out
            have q4 := (HBE.out.cell (p := ⟨w.heap.size, 36, none⟩) (by show w.heap.size < w.heap.size + 1; omega)).trans D4.out
            have HSZ := Lib.hid (show w.heap.size + 1 ≤ wr.heap.size by have := HBE.out.size; rw [HYS.out] at this; exact this)
            have HRD : Hid (Rd (wr.alloc (.cells #[.int .u8 (p : Int), .int .u8 ((s : Int) / 256), .int .u8 ((s : Int) % 256), .int .u8 ((d : Int) / 256), .int .u8 ((d : Int) % 256)] 5)) (wr.heap.size + 1) (some ⟨wr.heap.size, 0, none⟩) 5 [x0, x1, x2, x3, x4]) := Lib.hid (by
              have := Rd.laid wr [x0, x1, x2, x3, x4] 5 rfl
              have e : ([x0, x1, x2, x3, x4].map v8).toArray = #[.int .u8 (p : Int), .int .u8 ((s : Int) / 256), .int .u8 ((s : Int) % 256), .int .u8 ((d : Int) / 256), .int .u8 ((d : Int) % 256)] := by
                have e1 : (s : Int) / 256 = (x1.toNat : Int) := B1.out
                have e2 : (s : Int) % 256 = (x2.toNat : Int) := B2.out
                have e3 : (d : Int) / 256 = (x3.toNat : Int) := B3.out
                have e4 : (d : Int) % 256 = (x4.toNat : Int) := B4.out
                rw [e1, e2, e3, e4, B0.out]
                rfl
              rw [e] at this
              exact this)
            have HLE : Hid (([6] ++ t.s.b ++ t.d.b).length + 5 ≤ 2000000000) := Lib.hid (by simp [HS1.out, HS2.out])
            go_wp2_with (at_builtin; (refine wpList_append8 rfl _ _ rfl (w.heap.size + 1) _ _ (by rfl) (HO.out.alloc _) _ _ _ _ [x0, x1, x2, x3, x4] (by rfl) HRD.out HLE.out (by simp; exact Nat.le_of_succ_le HSZ.out) ?_; intro v' w2 ho2 hg2 _; have HX := Lib.hid ho2; have HXB := Lib.hid ((HBE.out.alloc HSZ.out (.cells #[.int .u8 (p : Int), .int .u8 ((s : Int) / 256), .int .u8 ((s : Int) % 256), .int .u8 ((d : Int) / 256), .int .u8 ((d : Int) % 256)] 5)).grown hg2 (by simp; exact Nat.le_of_succ_le HSZ.out) HO.out.lt); clear ho2 hg2))
            go_ret
            refine ⟨_, rfl, ?_, HBel.out.trans (HXB.out.mono (Nat.le_succ _))⟩
            rw [HT.out]
            have := HX.out.base_le (Nat.le_succ w.heap.size)
            rw [List.append_assoc, List.append_assoc] at this
            exact this
end Go.Proofs.Ytfbiinipiklkaaa
