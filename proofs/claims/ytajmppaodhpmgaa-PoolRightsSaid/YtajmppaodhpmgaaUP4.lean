/-
  The program: Right of a pool.
-/
import Derived.Test.YtajmppaodhpmgaaUP3
import Derived.Test.YtajmppaodhpmgaaURight
namespace Go.Proofs.Ytajmppaodhpmgaa
set_option maxRecDepth 100000
open Go.RowKit Go.Lib

set_option maxHeartbeats 16000000 in
theorem pright_any {A : Option Addr} {n B : Nat} (c : Nat) {p : Pl} (hn : n ≤ 9223372036854775807) (hnm : ∀ x, x ∈ p.l → x.nm.length ≤ 1000000) (w : World) (hB : B ≤ w.heap.size) (h : RdG eB w B A n p.l) :
    Calls Try.prog 14 #[.agg #[.int .i64 p.ver, .slice A n c]] w (RightGave w p) := by
  obtain ⟨v, hv⟩ : ∃ v, p.ver = v := ⟨_, rfl⟩
  rw [hv]
  obtain ⟨Y, hY⟩ : ∃ Y, w.alloc (.cells #[.int .i64 v, .slice A n c] 24) = Y := ⟨_, rfl⟩
  have HT := Lib.hid (show Blk Y 24 w.heap.size [.int .i64 v, .slice A n c] by rw [← hY]; exact Blk_10.new w _ [.int .i64 v, .slice A n c])
  have hB0 : Below w.heap.size w Y := by rw [← hY]; exact (Below.refl w.heap.size w).alloc (Nat.le_refl _) _
  have HB := Lib.hid hB0
  have HX := Lib.hid (h.below (hB0.mono hB))
  have HBB := Lib.hid (Nat.le_trans hB hB0.size)
  have HLT := Lib.hid (Blk_10.lt HT.out)
  have HL := Lib.hid h.len
  have HY := Lib.hid hY
  have HV := Lib.hid hv
  have HNM := Lib.hid hnm
  have a0 : Y.cell? ⟨w.heap.size, 0, none⟩ = some (.int .i64 v) := Blk_10.cell HT.out rfl
  have a1 : Y.cell? ⟨w.heap.size, 1, none⟩ = some (.slice A n c) := Blk_10.cell HT.out (i := 1) rfl
  clear h hY hB hB0 hv hnm
  by_cases hv0 : v < 0
  · have HN := Lib.hid (show ¬ RightP p from fun hp => by have := hp.low; rw [HV.out] at this; omega)
    go_enter Try.func14, Try.ntmps14
    go_upto_region 1 with (fail)
    rw [HY.out]
    go_wp2_with fail
    go_ret
    exact ⟨false, rfl, ⟨fun h => (by cases h), fun h => absurd h HN.out⟩, HB.out⟩
  · by_cases hv1 : 1099511627776 < v
    · have HN := Lib.hid (show ¬ RightP p from fun hp => by have := hp.top; rw [HV.out] at this; omega)
      go_enter Try.func14, Try.ntmps14
      go_upto_region 1 with (fail)
      rw [HY.out]
      go_wp2_with fail
      go_ret
      exact ⟨false, rfl, ⟨fun h => (by cases h), fun h => absurd h HN.out⟩, HB.out⟩
    · by_cases hn1 : 1024 < n
      · have hn1i : (1024 : Int) < (n : Int) := by omega
        have HN := Lib.hid (show ¬ RightP p from fun hp => by have := hp.few; rw [HL.out] at this; omega)
        clear hn1
        go_enter Try.func14, Try.ntmps14
        go_upto_region 1 with (fail)
        rw [HY.out]
        go_wp2_with fail
        go_ret
        exact ⟨false, rfl, ⟨fun h => (by cases h), fun h => absurd h HN.out⟩, HB.out⟩
      · have hn1i : ¬ (1024 : Int) < (n : Int) := by omega
        have HN1 := Lib.hid (show n ≤ 1024 by omega)
        have HV0 := Lib.hid (show 0 ≤ v by omega)
        have HV1 := Lib.hid (show v ≤ 1099511627776 by omega)
        clear hn1
        go_enter Try.func14, Try.ntmps14
        go_upto_region 1 with (fail)
        rw [HY.out]
        go_wp2_with fail
        clear a0 hn1i hv0 hv1
        go_loopw [21] (fun i wr => ∃ k : Nat, k ≤ n ∧ i = .int .i64 (k : Int) ∧ Hid (RT p.l k) ∧ Below Y.heap.size Y wr) (fun i _ => n - (intOf i).toNat)
        case atStart => exact ⟨0, Nat.zero_le _, rfl, Lib.hid (RT.zero _), Below.refl _ _⟩
        case round =>
          clear a1
          obtain ⟨k, hk, rfl, HK, hw⟩ := hrel
          have HW := Lib.hid hw
          have a1 : wr.cell? ⟨w.heap.size, 1, none⟩ = some (.slice A n c) := (hw.cell (p := ⟨w.heap.size, 1, none⟩) HLT.out).trans (Blk_10.cell HT.out (i := 1) rfl)
          clear hw
          by_cases hlt : k < n
          · have h1 : (k : Int) < (n : Int) := by omega
            have h0 : (0 : Int) ≤ (k : Int) := by omega
            obtain ⟨b, off, rfl, _⟩ := HX.out.addr (by omega)
            obtain ⟨x, hx⟩ : ∃ x, p.l[k]? = some x := ⟨_, List.getElem?_eq_getElem (by rw [HL.out]; exact hlt)⟩
            have HXX := Lib.hid hx
            have HPB := Lib.hid (fun W => prightB_any x (HNM.out x (List.mem_of_getElem? hx)) W)
            unfold bkC at HPB
            obtain ⟨LX, hLX⟩ : ∃ L, (bkL x).toArray = L := ⟨_, rfl⟩
            rw [hLX] at HPB
            have HLX := Lib.hid hLX
            have HLTN := Lib.hid hlt
            have hk9 : k < 9223372036854775807 := by have := HN1.out; omega
            have RX := Lib.hid (fun W (hW : Below wr.heap.size wr W) => (HX.out.below ((HW.out.trans (hW.mono HW.out.size)).mono HBB.out)).range HXX.out)
            have DN : Hid (∀ W, Below wr.heap.size wr W → W.cell? ⟨b, off + k * 27, none⟩ = some (.string ⟨x.nm.toArray⟩)) := Lib.hid (fun W (hW : Below wr.heap.size wr W) => (HX.out.below ((HW.out.trans (hW.mono HW.out.size)).mono HBB.out)).cell HXX.out 0 (bk_nm x))
            have DL := Lib.hid (fun W (hW : Below wr.heap.size wr W) => ((HW.out.trans (hW.mono HW.out.size)).cell (p := ⟨w.heap.size, 1, none⟩) HLT.out).trans (Blk_10.cell HT.out (i := 1) (v := .slice (some ⟨b, off, none⟩) n c) rfl))
            clear hLX hx hlt a1
            go_wp2_with fail
            cases hF : rightBk x
            · have HN := Lib.hid (not_right HXX.out hF)
              rw [hF] at HPB
              clear hF
              refine wp_region_held_drew (S := fun W => Below wr.heap.size wr W) (by kernel_rfl) ((Below.refl _ _).drew) (fun hHeld => ?_)
              refine tk 0 24 (.pointer (some ⟨w.heap.size, 1, none⟩)) rfl hHeld ?_
              simp only [Act.put, sA, sZ, sS]
              refine tkY 1 25 (.slice (some ⟨b, off, none⟩) n c) rfl (Or.inl ⟨by rfl, fun W hW => by have hc := DL.out W hW; go_simp⟩) hHeld ?_
              simp only [Act.put, sA, sZ, sS]
              refine tk 2 26 (.int .i64 (k : Int)) rfl hHeld ?_
              simp only [Act.put, sA, sZ, sS]
              refine tk 3 27 (.pointer (some ⟨b, off + k * 27, none⟩)) rfl hHeld ?_
              simp only [Act.put, sA, sZ, sS]
              refine tkY 4 28 (.agg LX) rfl (by rw [← HLX.out]; exact yieldsIf_load_mid (by rfl) 36 _ rfl b (off + k * 27) (by rfl) (bkL x) _ RX.out Try.underlying36 rfl (by rw [bkL_len]; exact sizeBk)) hHeld ?_
              simp only [Act.put, sA, sZ, sS]
              refine wpAnyH_ready (rs := [5]) (by kernel_rfl) (by simp) (AllReadyH.cons (o := ⟨some 29, _, _, _, _, _⟩) rfl (fun K hK => ?_) AllReadyH.nil)
              go_simp
              refine (HPB.out _).mono ?_
              rintro e w5 ⟨rfl, hb5⟩
              have HB5 := Lib.hid (hHeld.trans (hb5.mono hHeld.size))
              refine hK.out _ _ (HB5.out) (fun hHeld => ?_)
              clear hK K hb5
              refine tk 6 30 (.bool true) rfl hHeld ?_
              simp only [Act.put, sA, sZ, sS]
              refine tk 7 31 (.bool true) rfl hHeld ?_
              simp only [Act.put, sA, sZ, sS]
              refine tkN 8 32 rfl hHeld ?_
              simp only [Act.put, sA, sZ, sS]
              refine tkN 9 33 rfl hHeld ?_
              simp only [Act.put, sA, sZ, sS]
              refine tkN 10 34 rfl hHeld ?_
              simp only [Act.put, sA, sZ, sS]
              refine tkN 11 35 rfl hHeld ?_
              simp only [Act.put, sA, sZ, sS]
              refine tkN 12 36 rfl hHeld ?_
              simp only [Act.put, sA, sZ, sS]
              refine tkN 13 37 rfl hHeld ?_
              simp only [Act.put, sA, sZ, sS]
              refine tkN 14 38 rfl hHeld ?_
              simp only [Act.put, sA, sZ, sS]
              refine tkN 15 39 rfl hHeld ?_
              simp only [Act.put, sA, sZ, sS]
              refine tkN 16 40 rfl hHeld ?_
              simp only [Act.put, sA, sZ, sS]
              refine tkN 17 41 rfl hHeld ?_
              simp only [Act.put, sA, sZ, sS]
              refine tkN 18 42 rfl hHeld ?_
              simp only [Act.put, sA, sZ, sS]
              refine tkN 19 43 rfl hHeld ?_
              simp only [Act.put, sA, sZ, sS]
              refine tkN 20 44 rfl hHeld ?_
              simp only [Act.put, sA, sZ, sS]
              refine tkN 21 45 rfl hHeld ?_
              simp only [Act.put, sA, sZ, sS]
              refine tkN 22 46 rfl hHeld ?_
              simp only [Act.put, sA, sZ, sS]
              refine tkN 23 47 rfl hHeld ?_
              simp only [Act.put, sA, sZ, sS]
              refine tkN 24 48 rfl hHeld ?_
              simp only [Act.put, sA, sZ, sS]
              refine tkN 25 49 rfl hHeld ?_
              simp only [Act.put, sA, sZ, sS]
              refine tk 26 50 (.bool true) rfl hHeld ?_
              simp only [Act.put, sA, sZ, sS]
              refine wpAnyH_done (by kernel_rfl) ?_ _
              go_wp2_with fail
              go_ret
              exact ⟨false, rfl, ⟨fun h => (by cases h), fun h => absurd h HN.out⟩, HB.out.trans ((HW.out.trans (hHeld.mono HW.out.size)).mono HB.out.size)⟩
            · rw [hF] at HPB
              have HR := Lib.hid hF
              clear hF
              by_cases hk0 : k = 0
              · subst hk0
                have hn0 : ¬ n = 0 := by have := HLTN.out; omega
                have HS := Lib.hid (HK.out.succ HXX.out HR.out (fun a h0 => absurd h0 (by omega)))
                refine wp_region_held_drew (S := fun W => Below wr.heap.size wr W) (by kernel_rfl) ((Below.refl _ _).drew) (fun hHeld => ?_)
                refine tk 0 24 (.pointer (some ⟨w.heap.size, 1, none⟩)) rfl hHeld ?_
                simp only [Act.put, sA, sZ, sS]
                refine tkY 1 25 (.slice (some ⟨b, off, none⟩) n c) rfl (Or.inl ⟨by rfl, fun W hW => by have hc := DL.out W hW; go_simp⟩) hHeld ?_
                simp only [Act.put, sA, sZ, sS]
                refine tk 2 26 (.int .i64 ((0 : Nat) : Int)) rfl hHeld ?_
                simp only [Act.put, sA, sZ, sS]
                refine tk 3 27 (.pointer (some ⟨b, off + 0 * 27, none⟩)) rfl hHeld ?_
                simp only [Act.put, sA, sZ, sS]
                refine tkY 4 28 (.agg LX) rfl (by rw [← HLX.out]; exact yieldsIf_load_mid (by rfl) 36 _ rfl b (off + 0 * 27) (by rfl) (bkL x) _ RX.out Try.underlying36 rfl (by rw [bkL_len]; exact sizeBk)) hHeld ?_
                simp only [Act.put, sA, sZ, sS]
                refine wpAnyH_ready (rs := [5]) (by kernel_rfl) (by simp) (AllReadyH.cons (o := ⟨some 29, _, _, _, _, _⟩) rfl (fun K hK => ?_) AllReadyH.nil)
                go_simp
                refine (HPB.out _).mono ?_
                rintro e w5 ⟨rfl, hb5⟩
                have HB5 := Lib.hid (hHeld.trans (hb5.mono hHeld.size))
                refine hK.out _ _ (HB5.out) (fun hHeld => ?_)
                clear hK K hb5
                refine tk 6 30 (.bool false) rfl hHeld ?_
                simp only [Act.put, sA, sZ, sS]
                refine tk 7 31 (.bool false) rfl hHeld ?_
                simp only [Act.put, sA, sZ, sS]
                refine tk 8 32 (.int .i64 ((0 : Nat) : Int)) rfl hHeld ?_
                simp only [Act.put, sA, sZ, sS]
                refine tk 9 33 (.bool false) rfl hHeld ?_
                simp only [Act.put, sA, sZ, sS]
                refine tk 10 34 (.bool false) rfl hHeld ?_
                simp only [Act.put, sA, sZ, sS]
                refine tkN 11 35 rfl hHeld ?_
                simp only [Act.put, sA, sZ, sS]
                refine tkN 12 36 rfl hHeld ?_
                simp only [Act.put, sA, sZ, sS]
                refine tkN 13 37 rfl hHeld ?_
                simp only [Act.put, sA, sZ, sS]
                refine tkN 14 38 rfl hHeld ?_
                simp only [Act.put, sA, sZ, sS]
                refine tkN 15 39 rfl hHeld ?_
                simp only [Act.put, sA, sZ, sS]
                refine tkN 16 40 rfl hHeld ?_
                simp only [Act.put, sA, sZ, sS]
                refine tkN 17 41 rfl hHeld ?_
                simp only [Act.put, sA, sZ, sS]
                refine tkN 18 42 rfl hHeld ?_
                simp only [Act.put, sA, sZ, sS]
                refine tkN 19 43 rfl hHeld ?_
                simp only [Act.put, sA, sZ, sS]
                refine tkN 20 44 rfl hHeld ?_
                simp only [Act.put, sA, sZ, sS]
                refine tkN 21 45 rfl hHeld ?_
                simp only [Act.put, sA, sZ, sS]
                refine tkN 22 46 rfl hHeld ?_
                simp only [Act.put, sA, sZ, sS]
                refine tkN 23 47 rfl hHeld ?_
                simp only [Act.put, sA, sZ, sS]
                refine tkN 24 48 rfl hHeld ?_
                simp only [Act.put, sA, sZ, sS]
                refine tk 25 49 (.bool false) rfl hHeld ?_
                simp only [Act.put, sA, sZ, sS]
                refine tk 26 50 (.bool false) rfl hHeld ?_
                simp only [Act.put, sA, sZ, sS]
                refine wpAnyH_done (by kernel_rfl) ?_ _
                have HW9 := Lib.hid (HW.out.trans (hHeld.mono HW.out.size))
                clear hHeld
                go_wp2_with fail
                go_roundw
                case rel => exact ⟨0 + 1, by have := HLTN.out; omega, by go_num, HS, HW9.out⟩
                case measure => have := HLTN.out; simp [intOf]; omega
              · have hk1 : (0 : Int) < (k : Int) := by omega
                obtain ⟨q, rfl⟩ : ∃ q, k = q + 1 := ⟨k - 1, by omega⟩
                obtain ⟨y, hy⟩ : ∃ y, p.l[q]? = some y := ⟨_, List.getElem?_eq_getElem (by rw [HL.out]; have := HLTN.out; omega)⟩
                have HYY := Lib.hid hy
                have DY : Hid (∀ W, Below wr.heap.size wr W → W.cell? ⟨b, off + q * 27, none⟩ = some (.string ⟨y.nm.toArray⟩)) := Lib.hid (fun W (hW : Below wr.heap.size wr W) => ((HX.out.below ((HW.out.trans (hW.mono HW.out.size)).mono HBB.out)).cell HYY.out 0 (bk_nm y)))
                have hqi : ((q + 1 : Nat) : Int) - 1 = (q : Int) := by omega
                have hqn : (q : Int) < (n : Int) := by have := HLTN.out; omega
                have hqs : (q : Int) + 1 < (n : Int) := by have := HLTN.out; omega
                have hqt : (0 : Int) ≤ (q : Int) + 1 := by omega
                have hqu : ¬ (n : Int) ≤ (q : Int) + 1 := by omega
                have hqz : (0 : Int) ≤ (q : Int) := by omega
                have hq9 : q < 9223372036854775807 := by omega
                have hqw : IntKind.i64.wrap (q : Int) = (q : Int) := by rw [IntKind.wrap_i64]; omega
                clear hy hk0
                cases hL : Op.bytesLess y.nm x.nm
                · have HN := Lib.hid (show ¬ RightP p from fun hp => by have := rise_next hp.rise HYY.out HXX.out; rw [hL] at this; cases this)
                  have hL2 := hL
                  clear hL
                  refine wp_region_held_drew (S := fun W => Below wr.heap.size wr W) (by kernel_rfl) ((Below.refl _ _).drew) (fun hHeld => ?_)
                  refine tk 0 24 (.pointer (some ⟨w.heap.size, 1, none⟩)) rfl hHeld ?_
                  simp only [Act.put, sA, sZ, sS]
                  refine tkY 1 25 (.slice (some ⟨b, off, none⟩) n c) rfl (Or.inl ⟨by rfl, fun W hW => by have hc := DL.out W hW; go_simp⟩) hHeld ?_
                  simp only [Act.put, sA, sZ, sS]
                  refine tk 2 26 (.int .i64 ((q + 1 : Nat) : Int)) rfl hHeld ?_
                  simp only [Act.put, sA, sZ, sS]
                  refine tk 3 27 (.pointer (some ⟨b, off + (q + 1) * 27, none⟩)) rfl hHeld ?_
                  simp only [Act.put, sA, sZ, sS]
                  refine tkY 4 28 (.agg LX) rfl (by rw [← HLX.out]; exact yieldsIf_load_mid (by rfl) 36 _ rfl b (off + (q + 1) * 27) (by rfl) (bkL x) _ RX.out Try.underlying36 rfl (by rw [bkL_len]; exact sizeBk)) hHeld ?_
                  simp only [Act.put, sA, sZ, sS]
                  refine wpAnyH_ready (rs := [5]) (by kernel_rfl) (by simp) (AllReadyH.cons (o := ⟨some 29, _, _, _, _, _⟩) rfl (fun K hK => ?_) AllReadyH.nil)
                  go_simp
                  refine (HPB.out _).mono ?_
                  rintro e w5 ⟨rfl, hb5⟩
                  have HB5 := Lib.hid (hHeld.trans (hb5.mono hHeld.size))
                  refine hK.out _ _ (HB5.out) (fun hHeld => ?_)
                  clear hK K hb5
                  refine tk 6 30 (.bool false) rfl hHeld ?_
                  simp only [Act.put, sA, sZ, sS]
                  refine tk 7 31 (.bool false) rfl hHeld ?_
                  simp only [Act.put, sA, sZ, sS]
                  refine tk 8 32 (.int .i64 ((q + 1 : Nat) : Int)) rfl hHeld ?_
                  simp only [Act.put, sA, sZ, sS]
                  refine tk 9 33 (.bool true) rfl hHeld ?_
                  simp only [Act.put, sA, sZ, sS]
                  refine tk 10 34 (.bool true) rfl hHeld ?_
                  simp only [Act.put, sA, sZ, sS]
                  refine tk 11 35 (.pointer (some ⟨w.heap.size, 1, none⟩)) rfl hHeld ?_
                  simp only [Act.put, sA, sZ, sS]
                  refine tkY 12 36 (.slice (some ⟨b, off, none⟩) n c) rfl (Or.inl ⟨by rfl, fun W hW => by have hc := DL.out W hW; go_simp⟩) hHeld ?_
                  simp only [Act.put, sA, sZ, sS]
                  refine tk 13 37 (.int .i64 ((q + 1 : Nat) : Int)) rfl hHeld ?_
                  simp only [Act.put, sA, sZ, sS]
                  refine tk 14 38 (.int .i64 (q : Int)) rfl hHeld ?_
                  simp only [Act.put, sA, sZ, sS]
                  refine tk 15 39 (.pointer (some ⟨b, off + q * 27, none⟩)) rfl hHeld ?_
                  simp only [Act.put, sA, sZ, sS]
                  refine tk 16 40 (.pointer (some ⟨b, off + q * 27, none⟩)) rfl hHeld ?_
                  simp only [Act.put, sA, sZ, sS]
                  refine tkY 17 41 (.string ⟨y.nm.toArray⟩) rfl (Or.inl ⟨by rfl, fun W hW => by have hc := DY.out W hW; go_simp⟩) hHeld ?_
                  simp only [Act.put, sA, sZ, sS]
                  refine tk 18 42 (.pointer (some ⟨w.heap.size, 1, none⟩)) rfl hHeld ?_
                  simp only [Act.put, sA, sZ, sS]
                  refine tkY 19 43 (.slice (some ⟨b, off, none⟩) n c) rfl (Or.inl ⟨by rfl, fun W hW => by have hc := DL.out W hW; go_simp⟩) hHeld ?_
                  simp only [Act.put, sA, sZ, sS]
                  refine tk 20 44 (.int .i64 ((q + 1 : Nat) : Int)) rfl hHeld ?_
                  simp only [Act.put, sA, sZ, sS]
                  refine tk 21 45 (.pointer (some ⟨b, off + (q + 1) * 27, none⟩)) rfl hHeld ?_
                  simp only [Act.put, sA, sZ, sS]
                  refine tk 22 46 (.pointer (some ⟨b, off + (q + 1) * 27, none⟩)) rfl hHeld ?_
                  simp only [Act.put, sA, sZ, sS]
                  refine tkY 23 47 (.string ⟨x.nm.toArray⟩) rfl (Or.inl ⟨by rfl, fun W hW => by have hc := DN.out W hW; go_simp⟩) hHeld ?_
                  simp only [Act.put, sA, sZ, sS]
                  refine tk 24 48 (.bool true) rfl hHeld ?_
                  simp only [Act.put, sA, sZ, sS]
                  refine tk 25 49 (.bool true) rfl hHeld ?_
                  simp only [Act.put, sA, sZ, sS]
                  refine tk 26 50 (.bool true) rfl hHeld ?_
                  simp only [Act.put, sA, sZ, sS]
                  refine wpAnyH_done (by kernel_rfl) ?_ _
                  go_wp2_with fail
                  go_ret
                  exact ⟨false, rfl, ⟨fun h => (by cases h), fun h => absurd h HN.out⟩, HB.out.trans ((HW.out.trans (hHeld.mono HW.out.size)).mono HB.out.size)⟩
                · have HS := Lib.hid (HK.out.succ HXX.out HR.out (fun a _ ha => by rw [Nat.add_sub_cancel, HYY.out] at ha; cases ha; exact hL))
                  have hL2 := hL
                  clear hL
                  refine wp_region_held_drew (S := fun W => Below wr.heap.size wr W) (by kernel_rfl) ((Below.refl _ _).drew) (fun hHeld => ?_)
                  refine tk 0 24 (.pointer (some ⟨w.heap.size, 1, none⟩)) rfl hHeld ?_
                  simp only [Act.put, sA, sZ, sS]
                  refine tkY 1 25 (.slice (some ⟨b, off, none⟩) n c) rfl (Or.inl ⟨by rfl, fun W hW => by have hc := DL.out W hW; go_simp⟩) hHeld ?_
                  simp only [Act.put, sA, sZ, sS]
                  refine tk 2 26 (.int .i64 ((q + 1 : Nat) : Int)) rfl hHeld ?_
                  simp only [Act.put, sA, sZ, sS]
                  refine tk 3 27 (.pointer (some ⟨b, off + (q + 1) * 27, none⟩)) rfl hHeld ?_
                  simp only [Act.put, sA, sZ, sS]
                  refine tkY 4 28 (.agg LX) rfl (by rw [← HLX.out]; exact yieldsIf_load_mid (by rfl) 36 _ rfl b (off + (q + 1) * 27) (by rfl) (bkL x) _ RX.out Try.underlying36 rfl (by rw [bkL_len]; exact sizeBk)) hHeld ?_
                  simp only [Act.put, sA, sZ, sS]
                  refine wpAnyH_ready (rs := [5]) (by kernel_rfl) (by simp) (AllReadyH.cons (o := ⟨some 29, _, _, _, _, _⟩) rfl (fun K hK => ?_) AllReadyH.nil)
                  go_simp
                  refine (HPB.out _).mono ?_
                  rintro e w5 ⟨rfl, hb5⟩
                  have HB5 := Lib.hid (hHeld.trans (hb5.mono hHeld.size))
                  refine hK.out _ _ (HB5.out) (fun hHeld => ?_)
                  clear hK K hb5
                  refine tk 6 30 (.bool false) rfl hHeld ?_
                  simp only [Act.put, sA, sZ, sS]
                  refine tk 7 31 (.bool false) rfl hHeld ?_
                  simp only [Act.put, sA, sZ, sS]
                  refine tk 8 32 (.int .i64 ((q + 1 : Nat) : Int)) rfl hHeld ?_
                  simp only [Act.put, sA, sZ, sS]
                  refine tk 9 33 (.bool true) rfl hHeld ?_
                  simp only [Act.put, sA, sZ, sS]
                  refine tk 10 34 (.bool true) rfl hHeld ?_
                  simp only [Act.put, sA, sZ, sS]
                  refine tk 11 35 (.pointer (some ⟨w.heap.size, 1, none⟩)) rfl hHeld ?_
                  simp only [Act.put, sA, sZ, sS]
                  refine tkY 12 36 (.slice (some ⟨b, off, none⟩) n c) rfl (Or.inl ⟨by rfl, fun W hW => by have hc := DL.out W hW; go_simp⟩) hHeld ?_
                  simp only [Act.put, sA, sZ, sS]
                  refine tk 13 37 (.int .i64 ((q + 1 : Nat) : Int)) rfl hHeld ?_
                  simp only [Act.put, sA, sZ, sS]
                  refine tk 14 38 (.int .i64 (q : Int)) rfl hHeld ?_
                  simp only [Act.put, sA, sZ, sS]
                  refine tk 15 39 (.pointer (some ⟨b, off + q * 27, none⟩)) rfl hHeld ?_
                  simp only [Act.put, sA, sZ, sS]
                  refine tk 16 40 (.pointer (some ⟨b, off + q * 27, none⟩)) rfl hHeld ?_
                  simp only [Act.put, sA, sZ, sS]
                  refine tkY 17 41 (.string ⟨y.nm.toArray⟩) rfl (Or.inl ⟨by rfl, fun W hW => by have hc := DY.out W hW; go_simp⟩) hHeld ?_
                  simp only [Act.put, sA, sZ, sS]
                  refine tk 18 42 (.pointer (some ⟨w.heap.size, 1, none⟩)) rfl hHeld ?_
                  simp only [Act.put, sA, sZ, sS]
                  refine tkY 19 43 (.slice (some ⟨b, off, none⟩) n c) rfl (Or.inl ⟨by rfl, fun W hW => by have hc := DL.out W hW; go_simp⟩) hHeld ?_
                  simp only [Act.put, sA, sZ, sS]
                  refine tk 20 44 (.int .i64 ((q + 1 : Nat) : Int)) rfl hHeld ?_
                  simp only [Act.put, sA, sZ, sS]
                  refine tk 21 45 (.pointer (some ⟨b, off + (q + 1) * 27, none⟩)) rfl hHeld ?_
                  simp only [Act.put, sA, sZ, sS]
                  refine tk 22 46 (.pointer (some ⟨b, off + (q + 1) * 27, none⟩)) rfl hHeld ?_
                  simp only [Act.put, sA, sZ, sS]
                  refine tkY 23 47 (.string ⟨x.nm.toArray⟩) rfl (Or.inl ⟨by rfl, fun W hW => by have hc := DN.out W hW; go_simp⟩) hHeld ?_
                  simp only [Act.put, sA, sZ, sS]
                  refine tk 24 48 (.bool false) rfl hHeld ?_
                  simp only [Act.put, sA, sZ, sS]
                  refine tk 25 49 (.bool false) rfl hHeld ?_
                  simp only [Act.put, sA, sZ, sS]
                  refine tk 26 50 (.bool false) rfl hHeld ?_
                  simp only [Act.put, sA, sZ, sS]
                  refine wpAnyH_done (by kernel_rfl) ?_ _
                  have HW9 := Lib.hid (HW.out.trans (hHeld.mono HW.out.size))
                  clear hHeld
                  go_wp2_with fail
                  go_roundw
                  case rel => exact ⟨q + 1 + 1, HLTN.out, by go_num, HS, HW9.out⟩
                  case measure => have := HLTN.out; simp [intOf]; omega
          · obtain rfl : k = n := by omega
            have h1 : ¬ (k : Int) < (k : Int) := by omega
            have HE := Lib.hid (RT.all (p := p) (by have := HK.out; rw [← HL.out] at this; exact this) (by rw [HV.out]; exact HV0.out) (by rw [HV.out]; exact HV1.out) (by rw [HL.out]; exact HN1.out))
            clear hlt
            go_wp2_with fail
            go_ret
            exact ⟨true, rfl, ⟨fun _ => HE.out, fun _ => rfl⟩, HB.out.trans (HW.out.mono HB.out.size)⟩
end Go.Proofs.Ytajmppaodhpmgaa
