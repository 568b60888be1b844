/-
  The document's Right of a pool.
-/
import Derived.Test.YtajmppaodhpmgaaURef8
import Derived.Test.YtajmppaodhpmgaaTK
namespace Go.Proofs.Ytajmppaodhpmgaa
set_option maxRecDepth 100000
open Go.RowKit Go.Lib

theorem rise_near : ∀ {l : List Bk}, (∀ j a b, l[j]? = some a → l[j + 1]? = some b → Op.bytesLess a.nm b.nm = true) → RiseB l
  | [], _ => List.Pairwise.nil
  | [a], _ => List.pairwise_singleton _ _
  | a :: b :: l, h => by
    have ih : RiseB (b :: l) := rise_near fun j x y hx hy => h (j + 1) x y hx hy
    have hab := h 0 a b rfl rfl
    refine List.pairwise_cons.2 ⟨fun c hc => ?_, ih⟩
    rcases List.mem_cons.1 hc with rfl | hc
    · exact hab
    · exact less_trans hab ((List.pairwise_cons.1 ih).1 c hc)
theorem rise_next {l : List Bk} (h : RiseB l) {j : Nat} {a b : Bk} (ha : l[j]? = some a) (hb : l[j + 1]? = some b) : Op.bytesLess a.nm b.nm = true := by
  obtain ⟨h1, e1⟩ := List.getElem?_eq_some_iff.1 ha
  obtain ⟨h2, e2⟩ := List.getElem?_eq_some_iff.1 hb
  have := List.pairwise_iff_getElem.1 h j (j + 1) h1 h2 (by omega)
  rwa [e1, e2] at this
/-- The first byte of a weight's bytes tells its sign. -/
theorem put_first {u : Nat} (hu : u < T64) (hw : wtW u = true) : ∃ (f : UInt8) (r : List UInt8), putDW u = f :: r ∧ (ngW u = true → 128 ≤ f.toNat) ∧ (ngW u = false → ¬ 128 ≤ f.toNat) := by
  have hn : canW u = u := by unfold canW; rw [(wt_fin hw).2.1]; rfl
  rw [T64_eq] at hu
  have hq : u / 256 ^ 7 < 256 := by omega
  have hf : (UInt8.ofNat (u / 256 ^ 7)).toNat = u / 256 ^ 7 := by rw [UInt8.toNat_ofNat']; omega
  have hg : ngW u = decide (9223372036854775808 ≤ u) := rfl
  refine ⟨UInt8.ofNat (u / 256 ^ 7), bytesOf u 7 true, by unfold putDW; rw [hn, bytesOf_succ]; rfl, fun h => ?_, fun h => ?_⟩
  · rw [hg] at h
    have := of_decide_eq_true h
    rw [hf]
    omega
  · rw [hg] at h
    have := of_decide_eq_false h
    rw [hf]
    omega
/-- What is known of the first k backends. -/
structure RT (l : List Bk) (k : Nat) : Prop where
  each : ∀ j b, j < k → l[j]? = some b → rightBk b = true
  up : ∀ j a b, j + 1 < k → l[j]? = some a → l[j + 1]? = some b → Op.bytesLess a.nm b.nm = true
theorem RT.zero (l : List Bk) : RT l 0 := ⟨fun _ _ h => absurd h (by omega), fun _ _ _ h => absurd h (by omega)⟩
theorem RT.succ {l : List Bk} {k : Nat} {x : Bk} (h : RT l k) (hx : l[k]? = some x) (hr : rightBk x = true) (hp : ∀ a, 0 < k → l[k - 1]? = some a → Op.bytesLess a.nm x.nm = true) : RT l (k + 1) :=
  ⟨fun j b hj hb => by
    by_cases e : j = k
    · subst e
      rw [hx] at hb
      cases hb
      exact hr
    · exact h.each j b (by omega) hb,
   fun j a b hj ha hb => by
    by_cases e : j + 1 = k
    · rw [e, hx] at hb
      cases hb
      exact hp a (by omega) (by rw [← e]; exact ha)
    · exact h.up j a b (by omega) ha hb⟩
theorem RT.all {p : Pl} (h : RT p.l p.l.length) (h1 : 0 ≤ p.ver) (h2 : p.ver ≤ 1099511627776) (h3 : p.l.length ≤ 1024) : RightP p :=
  ⟨h1, h2, h3, fun b hb => by
    obtain ⟨j, hj⟩ := List.getElem?_of_mem hb
    exact h.each j b (List.getElem?_eq_some_iff.1 hj).1 hj, rise_near fun j a b ha hb => h.up j a b (List.getElem?_eq_some_iff.1 hb).1 ha hb⟩
theorem not_right {p : Pl} {k : Nat} {x : Bk} (hx : p.l[k]? = some x) (h : rightBk x = false) : ¬ RightP p := fun hp => by
  have := hp.each x (List.mem_of_getElem? hx)
  rw [h] at this
  cases this
/-- What is answered: whether it is right. -/
def RightGave (w : World) (p : Pl) (e : Ending) (w' : World) : Prop := ∃ r, e = .returned (.bool r) ∧ (r = true ↔ RightP p) ∧ Below w.heap.size w w'
set_option maxHeartbeats 16000000 in
theorem rright18_any {A : Option Addr} {n B : Nat} (c : Nat) {p : Pl} (hn : n ≤ 9223372036854775807) (hnm : ∀ x, x ∈ p.l → x.nm.length ≤ 1000000) (w : World) (hB : B ≤ w.heap.size) (h : RdG eB w B A n p.l) :
    Calls Try.prog 15 #[.agg #[.int .i64 p.ver, .slice A n c]] w (RightGave w p) := by
  obtain ⟨v, hv⟩ : ∃ v, p.ver = v := ⟨_, rfl⟩
  rw [hv]
  obtain ⟨Y, hY⟩ : ∃ Y, w.alloc (.cells #[.int .i64 v, .slice A n c] 24) = Y := ⟨_, rfl⟩
  have HT := Lib.hid (show Blk Y 24 w.heap.size [.int .i64 v, .slice A n c] by rw [← hY]; exact Blk_10.new w _ [.int .i64 v, .slice A n c])
  have hB0 : Below w.heap.size w Y := by rw [← hY]; exact (Below.refl w.heap.size w).alloc (Nat.le_refl _) _
  have HB := Lib.hid hB0
  have HX := Lib.hid (h.below (hB0.mono hB))
  have HBB := Lib.hid (Nat.le_trans hB hB0.size)
  have HLT := Lib.hid (Blk_10.lt HT.out)
  have HL := Lib.hid h.len
  have HY := Lib.hid hY
  have HV := Lib.hid hv
  have HNM := Lib.hid hnm
  have a0 : Y.cell? ⟨w.heap.size, 0, none⟩ = some (.int .i64 v) := Blk_10.cell HT.out rfl
  have a1 : Y.cell? ⟨w.heap.size, 1, none⟩ = some (.slice A n c) := Blk_10.cell HT.out (i := 1) rfl
  clear h hY hB hB0 hv hnm
  by_cases hv0 : v < 0
  · have HN := Lib.hid (show ¬ RightP p from fun hp => by have := hp.low; rw [HV.out] at this; omega)
    go_enter Try.func15, Try.ntmps15
    go_upto_region 1 with (fail)
    rw [HY.out]
    go_wp2_with fail
    go_ret
    exact ⟨false, rfl, ⟨fun h => (by cases h), fun h => absurd h HN.out⟩, HB.out⟩
  · by_cases hv1 : 1099511627776 < v
    · have HN := Lib.hid (show ¬ RightP p from fun hp => by have := hp.top; rw [HV.out] at this; omega)
      go_enter Try.func15, Try.ntmps15
      go_upto_region 1 with (fail)
      rw [HY.out]
      go_wp2_with fail
      go_ret
      exact ⟨false, rfl, ⟨fun h => (by cases h), fun h => absurd h HN.out⟩, HB.out⟩
    · by_cases hn1 : 1024 < n
      · have hn1i : (1024 : Int) < (n : Int) := by omega
        have HN := Lib.hid (show ¬ RightP p from fun hp => by have := hp.few; rw [HL.out] at this; omega)
        clear hn1
        go_enter Try.func15, Try.ntmps15
        go_upto_region 1 with (fail)
        rw [HY.out]
        go_wp2_with fail
        go_ret
        exact ⟨false, rfl, ⟨fun h => (by cases h), fun h => absurd h HN.out⟩, HB.out⟩
      · have hn1i : ¬ (1024 : Int) < (n : Int) := by omega
        have HN1 := Lib.hid (show n ≤ 1024 by omega)
        have HV0 := Lib.hid (show 0 ≤ v by omega)
        have HV1 := Lib.hid (show v ≤ 1099511627776 by omega)
        clear hn1
        go_enter Try.func15, Try.ntmps15
        go_upto_region 1 with (fail)
        rw [HY.out]
        go_wp2_with fail
        clear a0 hn1i hv0 hv1
        go_loopw [3] (fun i wr => ∃ k : Nat, k ≤ n ∧ i = .int .i64 (k : Int) ∧ Hid (RT p.l k) ∧ Below Y.heap.size Y wr) (fun i _ => n - (intOf i).toNat)
        case atStart => exact ⟨0, Nat.zero_le _, rfl, Lib.hid (RT.zero _), Below.refl _ _⟩
        case round =>
          clear a1
          obtain ⟨k, hk, rfl, HK, hw⟩ := hrel
          have HW := Lib.hid hw
          have a1 : wr.cell? ⟨w.heap.size, 1, none⟩ = some (.slice A n c) := (hw.cell (p := ⟨w.heap.size, 1, none⟩) HLT.out).trans (Blk_10.cell HT.out (i := 1) rfl)
          clear hw
          by_cases hlt : k < n
          · have h1 : (k : Int) < (n : Int) := by omega
            have h0 : (0 : Int) ≤ (k : Int) := by omega
            obtain ⟨b, off, rfl, _⟩ := HX.out.addr (by omega)
            obtain ⟨x, hx⟩ : ∃ x, p.l[k]? = some x := ⟨_, List.getElem?_eq_getElem (by rw [HL.out]; exact hlt)⟩
            have RX := Lib.hid ((HX.out.below (HW.out.mono HBB.out)).range hx)
            have HXX := Lib.hid hx
            have HFA := Lib.hid (fun W => rfair_any x (HNM.out x (List.mem_of_getElem? hx)) W)
            unfold bkC at HFA
            have HPU := Lib.hid (fun W => rput14_any x.hw W)
            obtain ⟨LX, hLX⟩ : ∃ L, (bkL x).toArray = L := ⟨_, rfl⟩
            rw [hLX] at HFA
            have HLX := Lib.hid hLX
            have HLTN := Lib.hid hlt
            have hk9 : k < 9223372036854775807 := by have := HN1.out; omega
            clear hLX hx hlt
            go_upto_region 7 with (first
              | ((with_reducible show wpList _ _ _ (⟨some 30, _, _, _, _, _⟩ :: _) _ _); refine wpList_loadBk (op := ⟨some 30, _, _, _, _, _⟩) _ rfl (by rfl) b (off + k * 27) (by rfl) x RX.out _ HLX.out ?_)
              | ((with_reducible show wpList _ _ _ (⟨none, _, _, _, _, _⟩ :: _) _ _); refine wpList_storeNewG rfl 36 _ _ rfl (by rfl) (bkL x) (by rw [HLX.out]; rfl) (by rw [bkL_len]; rfl) (by rw [bkL_len]; exact sizeBk) (bkL_one x) ?_; intro w3 hb3 hB3 hz3))
            have HK3 := Lib.hid hb3
            have HB3 := Lib.hid (HW.out.trans (hB3.mono HW.out.size))
            have RB := Lib.hid (fun W (hW : Below w3.heap.size w3 W) => Blk_10.range (Blk_10.below HK3.out (Blk_10.lt HK3.out) hW))
            have DW := Lib.hid (fun W (hW : Below w3.heap.size w3 W) => Blk_10.cell (Blk_10.below HK3.out (Blk_10.lt HK3.out) hW) (bk_wt x))
            have DN : Hid (∀ W, Below w3.heap.size w3 W → W.cell? ⟨wr.heap.size, 0, none⟩ = some (.string ⟨x.nm.toArray⟩)) := Lib.hid (fun W (hW : Below w3.heap.size w3 W) => Blk_10.cell (Blk_10.below HK3.out (Blk_10.lt HK3.out) hW) (bk_nm x))
            have DL := Lib.hid (fun W (hW : Below w3.heap.size w3 W) => ((HB3.out.trans (hW.mono HB3.out.size)).cell (p := ⟨w.heap.size, 1, none⟩) HLT.out).trans (Blk_10.cell HT.out (i := 1) (v := .slice (some ⟨b, off, none⟩) n c) rfl))
            clear hb3 hB3 hz3 a1
            cases hF : fairB x
            · have HN := Lib.hid (not_right HXX.out (by unfold rightBk; rw [hF]; rfl))
              rw [hF] at HFA
              clear hF
              refine wp_region_held_drew (S := fun W => Below w3.heap.size w3 W) (by kernel_rfl) ((Below.refl _ _).drew) (fun hHeld => ?_)
              refine tkY 0 31 (.agg LX) rfl (by rw [← HLX.out]; exact yieldsIf_load_mid (by rfl) 36 _ rfl wr.heap.size 0 (by rfl) (bkL x) _ RB.out Try.underlying36 rfl (by rw [bkL_len]; exact sizeBk)) hHeld ?_
              simp only [Act.put, sA, sZ, sS]
              refine wpAnyH_ready (rs := [1]) (by kernel_rfl) (by simp) (AllReadyH.cons (o := ⟨some 32, _, _, _, _, _⟩) rfl (fun K hK => ?_) AllReadyH.nil)
              go_simp
              refine (HFA.out _).mono ?_
              rintro e w5 ⟨rfl, hb5⟩
              have HB5 := Lib.hid (hHeld.trans (hb5.mono hHeld.size))
              refine hK.out _ _ (HB5.out) (fun hHeld => ?_)
              clear hK K hb5
              refine tk 2 33 (.bool true) rfl hHeld ?_
              simp only [Act.put, sA, sZ, sS]
              refine tk 3 34 (.bool true) rfl hHeld ?_
              simp only [Act.put, sA, sZ, sS]
              refine tkN 4 35 rfl hHeld ?_
              simp only [Act.put, sA, sZ, sS]
              refine tkN 5 36 rfl hHeld ?_
              simp only [Act.put, sA, sZ, sS]
              refine tkN 6 37 rfl hHeld ?_
              simp only [Act.put, sA, sZ, sS]
              refine tkN 7 38 rfl hHeld ?_
              simp only [Act.put, sA, sZ, sS]
              refine tkN 8 39 rfl hHeld ?_
              simp only [Act.put, sA, sZ, sS]
              refine tkN 9 40 rfl hHeld ?_
              simp only [Act.put, sA, sZ, sS]
              refine tk 10 41 (.bool true) rfl hHeld ?_
              simp only [Act.put, sA, sZ, sS]
              refine tk 11 42 (.bool true) rfl hHeld ?_
              simp only [Act.put, sA, sZ, sS]
              refine tkN 12 43 rfl hHeld ?_
              simp only [Act.put, sA, sZ, sS]
              refine tkN 13 44 rfl hHeld ?_
              simp only [Act.put, sA, sZ, sS]
              refine tkN 14 45 rfl hHeld ?_
              simp only [Act.put, sA, sZ, sS]
              refine tkN 15 46 rfl hHeld ?_
              simp only [Act.put, sA, sZ, sS]
              refine tkN 16 47 rfl hHeld ?_
              simp only [Act.put, sA, sZ, sS]
              refine tkN 17 48 rfl hHeld ?_
              simp only [Act.put, sA, sZ, sS]
              refine tkN 18 49 rfl hHeld ?_
              simp only [Act.put, sA, sZ, sS]
              refine tkN 19 50 rfl hHeld ?_
              simp only [Act.put, sA, sZ, sS]
              refine tkN 20 51 rfl hHeld ?_
              simp only [Act.put, sA, sZ, sS]
              refine tkN 21 52 rfl hHeld ?_
              simp only [Act.put, sA, sZ, sS]
              refine tkN 22 53 rfl hHeld ?_
              simp only [Act.put, sA, sZ, sS]
              refine tkN 23 54 rfl hHeld ?_
              simp only [Act.put, sA, sZ, sS]
              refine tkN 24 55 rfl hHeld ?_
              simp only [Act.put, sA, sZ, sS]
              refine tkN 25 56 rfl hHeld ?_
              simp only [Act.put, sA, sZ, sS]
              refine tk 26 57 (.bool true) rfl hHeld ?_
              simp only [Act.put, sA, sZ, sS]
              refine wpAnyH_done (by kernel_rfl) ?_ _
              go_wp2_with fail
              go_ret
              exact ⟨false, rfl, ⟨fun h => (by cases h), fun h => absurd h HN.out⟩, HB.out.trans ((HB3.out.trans (hHeld.mono HB3.out.size)).mono HB.out.size)⟩
            · rw [hF] at HFA
              have hwt : wtW x.wt = true := by
                unfold fairB at hF
                simp only [Bool.and_eq_true] at hF
                exact hF.2
              obtain ⟨f, fr, hpf, hg1, hg2⟩ := put_first x.hw hwt
              rw [hpf] at HPU
              have HFF := Lib.hid hF
              have hfi : ((f.toNat : Nat) : Int) < 256 := by have := f.toNat_lt; omega
              clear hF hwt hpf
              obtain ⟨u, hu⟩ : ∃ u, x.wt = u := ⟨_, rfl⟩
              rw [hu] at HPU DW hg1 hg2
              have HUW := Lib.hid hu
              clear hu
              cases hG : ngW u
              · have hf1 := hg2 hG
                have hf2 : ¬ (128 : Int) ≤ (f.toNat : Int) := by omega
                have HR := Lib.hid (show rightBk x = true by unfold rightBk; rw [HFF.out, HUW.out, hG]; rfl)
                clear hG hg1 hg2 hf1
                by_cases hk0 : k = 0
                · subst hk0
                  have HS := Lib.hid (HK.out.succ HXX.out HR.out (fun a h0 => absurd h0 (by omega)))
                  refine wp_region_held_drew (S := fun W => Below w3.heap.size w3 W) (by kernel_rfl) ((Below.refl _ _).drew) (fun hHeld => ?_)
                  refine tkY 0 31 (.agg LX) rfl (by rw [← HLX.out]; exact yieldsIf_load_mid (by rfl) 36 _ rfl wr.heap.size 0 (by rfl) (bkL x) _ RB.out Try.underlying36 rfl (by rw [bkL_len]; exact sizeBk)) hHeld ?_
                  simp only [Act.put, sA, sZ, sS]
                  refine wpAnyH_ready (rs := [1]) (by kernel_rfl) (by simp) (AllReadyH.cons (o := ⟨some 32, _, _, _, _, _⟩) rfl (fun K hK => ?_) AllReadyH.nil)
                  go_simp
                  refine (HFA.out _).mono ?_
                  rintro e w5 ⟨rfl, hb5⟩
                  have HB5 := Lib.hid (hHeld.trans (hb5.mono hHeld.size))
                  refine hK.out _ _ (HB5.out) (fun hHeld => ?_)
                  clear hK K hb5
                  refine tk 2 33 (.bool false) rfl hHeld ?_
                  simp only [Act.put, sA, sZ, sS]
                  refine tk 3 34 (.bool false) rfl hHeld ?_
                  simp only [Act.put, sA, sZ, sS]
                  refine tk 4 35 (.pointer (some ⟨wr.heap.size, 25, none⟩)) rfl hHeld ?_
                  simp only [Act.put, sA, sZ, sS]
                  refine tkY 5 36 (.float .f64 u) rfl (Or.inl ⟨by rfl, fun W hW => by have hc := DW.out W hW; go_simp⟩) hHeld ?_
                  simp only [Act.put, sA, sZ, sS]
                  refine wpAnyH_ready (rs := [6]) (by kernel_rfl) (by simp) (AllReadyH.cons (o := ⟨some 37, _, _, _, _, _⟩) rfl (fun K hK => ?_) AllReadyH.nil)
                  go_simp
                  refine (HPU.out _).mono ?_
                  rintro e w6 ⟨v6, rfl, ho6, hb6⟩
                  have HB6 := Lib.hid (hHeld.trans (hb6.mono hHeld.size))
                  obtain ⟨A6, m6, c6, rfl, hm6, hc6, _, hr6⟩ := ho6.sl
                  have HR6 := Lib.hid hr6
                  have HM6 := Lib.hid hm6
                  clear hm6 hc6 ho6 hr6
                  refine hK.out _ _ (HB6.out) (fun hHeld => ?_)
                  clear hK K hb6
                  obtain ⟨g6, o6, rfl, hl6, hc6⟩ := HR6.out.2 (by rw [HM6.out]; exact Nat.zero_lt_succ _)
                  have hcc : w6.cell? ⟨g6, o6, none⟩ = some (.int .u8 (f.toNat : Int)) := hc6 0 f rfl
                  have hm0 : ¬ m6 = 0 := by rw [HM6.out]; exact Nat.succ_ne_zero _
                  clear hc6 hl6
                  refine tk 7 38 (.pointer (some ⟨g6, o6, none⟩)) rfl hHeld ?_
                  simp only [Act.put, sA, sZ, sS]
                  refine wpAnyH_ready (rs := [8]) (by kernel_rfl) (by simp) (AllReadyH.cons (o := ⟨some 39, _, _, _, _, _⟩) rfl (fun K hK => ?_) AllReadyH.nil)
                  go_simp
                  refine hK.out _ _ (hHeld) (fun hHeld => ?_)
                  clear hK K hcc
                  refine tk 9 40 (.bool false) rfl hHeld ?_
                  simp only [Act.put, sA, sZ, sS]
                  refine tk 10 41 (.bool false) rfl hHeld ?_
                  simp only [Act.put, sA, sZ, sS]
                  refine tk 11 42 (.bool false) rfl hHeld ?_
                  simp only [Act.put, sA, sZ, sS]
                  refine tk 12 43 (.int .i64 ((0 : Nat) : Int)) rfl hHeld ?_
                  simp only [Act.put, sA, sZ, sS]
                  refine tk 13 44 (.bool false) rfl hHeld ?_
                  simp only [Act.put, sA, sZ, sS]
                  refine tk 14 45 (.bool false) rfl hHeld ?_
                  simp only [Act.put, sA, sZ, sS]
                  refine tkN 15 46 rfl hHeld ?_
                  simp only [Act.put, sA, sZ, sS]
                  refine tkN 16 47 rfl hHeld ?_
                  simp only [Act.put, sA, sZ, sS]
                  refine tkN 17 48 rfl hHeld ?_
                  simp only [Act.put, sA, sZ, sS]
                  refine tkN 18 49 rfl hHeld ?_
                  simp only [Act.put, sA, sZ, sS]
                  refine tkN 19 50 rfl hHeld ?_
                  simp only [Act.put, sA, sZ, sS]
                  refine tkN 20 51 rfl hHeld ?_
                  simp only [Act.put, sA, sZ, sS]
                  refine tkN 21 52 rfl hHeld ?_
                  simp only [Act.put, sA, sZ, sS]
                  refine tkN 22 53 rfl hHeld ?_
                  simp only [Act.put, sA, sZ, sS]
                  refine tkN 23 54 rfl hHeld ?_
                  simp only [Act.put, sA, sZ, sS]
                  refine tkN 24 55 rfl hHeld ?_
                  simp only [Act.put, sA, sZ, sS]
                  refine tk 25 56 (.bool false) rfl hHeld ?_
                  simp only [Act.put, sA, sZ, sS]
                  refine tk 26 57 (.bool false) rfl hHeld ?_
                  simp only [Act.put, sA, sZ, sS]
                  refine wpAnyH_done (by kernel_rfl) ?_ _
                  have HW9 := Lib.hid (HB3.out.trans (hHeld.mono HB3.out.size))
                  clear hHeld
                  go_wp2_with fail
                  go_roundw
                  case rel => exact ⟨0 + 1, by have := HLTN.out; omega, by go_num, HS, HW9.out⟩
                  case measure => have := HLTN.out; simp [intOf]; omega
                · have hk1 : (0 : Int) < (k : Int) := by omega
                  obtain ⟨q, rfl⟩ : ∃ q, k = q + 1 := ⟨k - 1, by omega⟩
                  obtain ⟨y, hy⟩ : ∃ y, p.l[q]? = some y := ⟨_, List.getElem?_eq_getElem (by rw [HL.out]; have := HLTN.out; omega)⟩
                  have HYY := Lib.hid hy
                  have DY : Hid (∀ W, Below w3.heap.size w3 W → W.cell? ⟨b, off + q * 27, none⟩ = some (.string ⟨y.nm.toArray⟩)) := Lib.hid (fun W (hW : Below w3.heap.size w3 W) => ((HX.out.below ((HB3.out.trans (hW.mono HB3.out.size)).mono HBB.out)).cell hy 0 (bk_nm y)))
                  have hqi : ((q + 1 : Nat) : Int) - 1 = (q : Int) := by omega
                  have hqn : (q : Int) < (n : Int) := by have := HLTN.out; omega
                  have hqz : (0 : Int) ≤ (q : Int) := by omega
                  have hq9 : q < 9223372036854775807 := by omega
                  have hqw : IntKind.i64.wrap (q : Int) = (q : Int) := by rw [IntKind.wrap_i64]; omega
                  clear hy hk0
                  cases hL : Op.bytesLess y.nm x.nm
                  · have HN := Lib.hid (show ¬ RightP p from fun hp => by have := rise_next hp.rise HYY.out HXX.out; rw [hL] at this; cases this)
                    have hL2 := hL
                    clear hL
                    refine wp_region_held_drew (S := fun W => Below w3.heap.size w3 W) (by kernel_rfl) ((Below.refl _ _).drew) (fun hHeld => ?_)
                    refine tkY 0 31 (.agg LX) rfl (by rw [← HLX.out]; exact yieldsIf_load_mid (by rfl) 36 _ rfl wr.heap.size 0 (by rfl) (bkL x) _ RB.out Try.underlying36 rfl (by rw [bkL_len]; exact sizeBk)) hHeld ?_
                    simp only [Act.put, sA, sZ, sS]
                    refine wpAnyH_ready (rs := [1]) (by kernel_rfl) (by simp) (AllReadyH.cons (o := ⟨some 32, _, _, _, _, _⟩) rfl (fun K hK => ?_) AllReadyH.nil)
                    go_simp
                    refine (HFA.out _).mono ?_
                    rintro e w5 ⟨rfl, hb5⟩
                    have HB5 := Lib.hid (hHeld.trans (hb5.mono hHeld.size))
                    refine hK.out _ _ (HB5.out) (fun hHeld => ?_)
                    clear hK K hb5
                    refine tk 2 33 (.bool false) rfl hHeld ?_
                    simp only [Act.put, sA, sZ, sS]
                    refine tk 3 34 (.bool false) rfl hHeld ?_
                    simp only [Act.put, sA, sZ, sS]
                    refine tk 4 35 (.pointer (some ⟨wr.heap.size, 25, none⟩)) rfl hHeld ?_
                    simp only [Act.put, sA, sZ, sS]
                    refine tkY 5 36 (.float .f64 u) rfl (Or.inl ⟨by rfl, fun W hW => by have hc := DW.out W hW; go_simp⟩) hHeld ?_
                    simp only [Act.put, sA, sZ, sS]
                    refine wpAnyH_ready (rs := [6]) (by kernel_rfl) (by simp) (AllReadyH.cons (o := ⟨some 37, _, _, _, _, _⟩) rfl (fun K hK => ?_) AllReadyH.nil)
                    go_simp
                    refine (HPU.out _).mono ?_
                    rintro e w6 ⟨v6, rfl, ho6, hb6⟩
                    have HB6 := Lib.hid (hHeld.trans (hb6.mono hHeld.size))
                    obtain ⟨A6, m6, c6, rfl, hm6, hc6, _, hr6⟩ := ho6.sl
                    have HR6 := Lib.hid hr6
                    have HM6 := Lib.hid hm6
                    clear hm6 hc6 ho6 hr6
                    refine hK.out _ _ (HB6.out) (fun hHeld => ?_)
                    clear hK K hb6
                    obtain ⟨g6, o6, rfl, hl6, hc6⟩ := HR6.out.2 (by rw [HM6.out]; exact Nat.zero_lt_succ _)
                    have hcc : w6.cell? ⟨g6, o6, none⟩ = some (.int .u8 (f.toNat : Int)) := hc6 0 f rfl
                    have hm0 : ¬ m6 = 0 := by rw [HM6.out]; exact Nat.succ_ne_zero _
                    clear hc6 hl6
                    refine tk 7 38 (.pointer (some ⟨g6, o6, none⟩)) rfl hHeld ?_
                    simp only [Act.put, sA, sZ, sS]
                    refine wpAnyH_ready (rs := [8]) (by kernel_rfl) (by simp) (AllReadyH.cons (o := ⟨some 39, _, _, _, _, _⟩) rfl (fun K hK => ?_) AllReadyH.nil)
                    go_simp
                    refine hK.out _ _ (hHeld) (fun hHeld => ?_)
                    clear hK K hcc
                    refine tk 9 40 (.bool false) rfl hHeld ?_
                    simp only [Act.put, sA, sZ, sS]
                    refine tk 10 41 (.bool false) rfl hHeld ?_
                    simp only [Act.put, sA, sZ, sS]
                    refine tk 11 42 (.bool false) rfl hHeld ?_
                    simp only [Act.put, sA, sZ, sS]
                    refine tk 12 43 (.int .i64 ((q + 1 : Nat) : Int)) rfl hHeld ?_
                    simp only [Act.put, sA, sZ, sS]
                    refine tk 13 44 (.bool true) rfl hHeld ?_
                    simp only [Act.put, sA, sZ, sS]
                    refine tk 14 45 (.bool true) rfl hHeld ?_
                    simp only [Act.put, sA, sZ, sS]
                    refine tk 15 46 (.pointer (some ⟨w.heap.size, 1, none⟩)) rfl hHeld ?_
                    simp only [Act.put, sA, sZ, sS]
                    refine tkY 16 47 (.slice (some ⟨b, off, none⟩) n c) rfl (Or.inl ⟨by rfl, fun W hW => by have hc := DL.out W hW; go_simp⟩) hHeld ?_
                    simp only [Act.put, sA, sZ, sS]
                    refine tk 17 48 (.int .i64 ((q + 1 : Nat) : Int)) rfl hHeld ?_
                    simp only [Act.put, sA, sZ, sS]
                    refine tk 18 49 (.int .i64 (q : Int)) rfl hHeld ?_
                    simp only [Act.put, sA, sZ, sS]
                    refine tk 19 50 (.pointer (some ⟨b, off + q * 27, none⟩)) rfl hHeld ?_
                    simp only [Act.put, sA, sZ, sS]
                    refine tk 20 51 (.pointer (some ⟨b, off + q * 27, none⟩)) rfl hHeld ?_
                    simp only [Act.put, sA, sZ, sS]
                    refine tkY 21 52 (.string ⟨y.nm.toArray⟩) rfl (Or.inl ⟨by rfl, fun W hW => by have hc := DY.out W hW; go_simp⟩) hHeld ?_
                    simp only [Act.put, sA, sZ, sS]
                    refine tk 22 53 (.pointer (some ⟨wr.heap.size, 0, none⟩)) rfl hHeld ?_
                    simp only [Act.put, sA, sZ, sS]
                    refine tkY 23 54 (.string ⟨x.nm.toArray⟩) rfl (Or.inl ⟨by rfl, fun W hW => by have hc := DN.out W hW; go_simp⟩) hHeld ?_
                    simp only [Act.put, sA, sZ, sS]
                    refine tk 24 55 (.bool true) rfl hHeld ?_
                    simp only [Act.put, sA, sZ, sS]
                    refine tk 25 56 (.bool true) rfl hHeld ?_
                    simp only [Act.put, sA, sZ, sS]
                    refine tk 26 57 (.bool true) rfl hHeld ?_
                    simp only [Act.put, sA, sZ, sS]
                    refine wpAnyH_done (by kernel_rfl) ?_ _
                    go_wp2_with fail
                    go_ret
                    exact ⟨false, rfl, ⟨fun h => (by cases h), fun h => absurd h HN.out⟩, HB.out.trans ((HB3.out.trans (hHeld.mono HB3.out.size)).mono HB.out.size)⟩
                  · have HS := Lib.hid (HK.out.succ HXX.out HR.out (fun a _ ha => by rw [Nat.add_sub_cancel, HYY.out] at ha; cases ha; exact hL))
                    have hL2 := hL
                    clear hL
                    refine wp_region_held_drew (S := fun W => Below w3.heap.size w3 W) (by kernel_rfl) ((Below.refl _ _).drew) (fun hHeld => ?_)
                    refine tkY 0 31 (.agg LX) rfl (by rw [← HLX.out]; exact yieldsIf_load_mid (by rfl) 36 _ rfl wr.heap.size 0 (by rfl) (bkL x) _ RB.out Try.underlying36 rfl (by rw [bkL_len]; exact sizeBk)) hHeld ?_
                    simp only [Act.put, sA, sZ, sS]
                    refine wpAnyH_ready (rs := [1]) (by kernel_rfl) (by simp) (AllReadyH.cons (o := ⟨some 32, _, _, _, _, _⟩) rfl (fun K hK => ?_) AllReadyH.nil)
                    go_simp
                    refine (HFA.out _).mono ?_
                    rintro e w5 ⟨rfl, hb5⟩
                    have HB5 := Lib.hid (hHeld.trans (hb5.mono hHeld.size))
                    refine hK.out _ _ (HB5.out) (fun hHeld => ?_)
                    clear hK K hb5
                    refine tk 2 33 (.bool false) rfl hHeld ?_
                    simp only [Act.put, sA, sZ, sS]
                    refine tk 3 34 (.bool false) rfl hHeld ?_
                    simp only [Act.put, sA, sZ, sS]
                    refine tk 4 35 (.pointer (some ⟨wr.heap.size, 25, none⟩)) rfl hHeld ?_
                    simp only [Act.put, sA, sZ, sS]
                    refine tkY 5 36 (.float .f64 u) rfl (Or.inl ⟨by rfl, fun W hW => by have hc := DW.out W hW; go_simp⟩) hHeld ?_
                    simp only [Act.put, sA, sZ, sS]
                    refine wpAnyH_ready (rs := [6]) (by kernel_rfl) (by simp) (AllReadyH.cons (o := ⟨some 37, _, _, _, _, _⟩) rfl (fun K hK => ?_) AllReadyH.nil)
                    go_simp
                    refine (HPU.out _).mono ?_
                    rintro e w6 ⟨v6, rfl, ho6, hb6⟩
                    have HB6 := Lib.hid (hHeld.trans (hb6.mono hHeld.size))
                    obtain ⟨A6, m6, c6, rfl, hm6, hc6, _, hr6⟩ := ho6.sl
                    have HR6 := Lib.hid hr6
                    have HM6 := Lib.hid hm6
                    clear hm6 hc6 ho6 hr6
                    refine hK.out _ _ (HB6.out) (fun hHeld => ?_)
                    clear hK K hb6
                    obtain ⟨g6, o6, rfl, hl6, hc6⟩ := HR6.out.2 (by rw [HM6.out]; exact Nat.zero_lt_succ _)
                    have hcc : w6.cell? ⟨g6, o6, none⟩ = some (.int .u8 (f.toNat : Int)) := hc6 0 f rfl
                    have hm0 : ¬ m6 = 0 := by rw [HM6.out]; exact Nat.succ_ne_zero _
                    clear hc6 hl6
                    refine tk 7 38 (.pointer (some ⟨g6, o6, none⟩)) rfl hHeld ?_
                    simp only [Act.put, sA, sZ, sS]
                    refine wpAnyH_ready (rs := [8]) (by kernel_rfl) (by simp) (AllReadyH.cons (o := ⟨some 39, _, _, _, _, _⟩) rfl (fun K hK => ?_) AllReadyH.nil)
                    go_simp
                    refine hK.out _ _ (hHeld) (fun hHeld => ?_)
                    clear hK K hcc
                    refine tk 9 40 (.bool false) rfl hHeld ?_
                    simp only [Act.put, sA, sZ, sS]
                    refine tk 10 41 (.bool false) rfl hHeld ?_
                    simp only [Act.put, sA, sZ, sS]
                    refine tk 11 42 (.bool false) rfl hHeld ?_
                    simp only [Act.put, sA, sZ, sS]
                    refine tk 12 43 (.int .i64 ((q + 1 : Nat) : Int)) rfl hHeld ?_
                    simp only [Act.put, sA, sZ, sS]
                    refine tk 13 44 (.bool true) rfl hHeld ?_
                    simp only [Act.put, sA, sZ, sS]
                    refine tk 14 45 (.bool true) rfl hHeld ?_
                    simp only [Act.put, sA, sZ, sS]
                    refine tk 15 46 (.pointer (some ⟨w.heap.size, 1, none⟩)) rfl hHeld ?_
                    simp only [Act.put, sA, sZ, sS]
                    refine tkY 16 47 (.slice (some ⟨b, off, none⟩) n c) rfl (Or.inl ⟨by rfl, fun W hW => by have hc := DL.out W hW; go_simp⟩) hHeld ?_
                    simp only [Act.put, sA, sZ, sS]
                    refine tk 17 48 (.int .i64 ((q + 1 : Nat) : Int)) rfl hHeld ?_
                    simp only [Act.put, sA, sZ, sS]
                    refine tk 18 49 (.int .i64 (q : Int)) rfl hHeld ?_
                    simp only [Act.put, sA, sZ, sS]
                    refine tk 19 50 (.pointer (some ⟨b, off + q * 27, none⟩)) rfl hHeld ?_
                    simp only [Act.put, sA, sZ, sS]
                    refine tk 20 51 (.pointer (some ⟨b, off + q * 27, none⟩)) rfl hHeld ?_
                    simp only [Act.put, sA, sZ, sS]
                    refine tkY 21 52 (.string ⟨y.nm.toArray⟩) rfl (Or.inl ⟨by rfl, fun W hW => by have hc := DY.out W hW; go_simp⟩) hHeld ?_
                    simp only [Act.put, sA, sZ, sS]
                    refine tk 22 53 (.pointer (some ⟨wr.heap.size, 0, none⟩)) rfl hHeld ?_
                    simp only [Act.put, sA, sZ, sS]
                    refine tkY 23 54 (.string ⟨x.nm.toArray⟩) rfl (Or.inl ⟨by rfl, fun W hW => by have hc := DN.out W hW; go_simp⟩) hHeld ?_
                    simp only [Act.put, sA, sZ, sS]
                    refine tk 24 55 (.bool false) rfl hHeld ?_
                    simp only [Act.put, sA, sZ, sS]
                    refine tk 25 56 (.bool false) rfl hHeld ?_
                    simp only [Act.put, sA, sZ, sS]
                    refine tk 26 57 (.bool false) rfl hHeld ?_
                    simp only [Act.put, sA, sZ, sS]
                    refine wpAnyH_done (by kernel_rfl) ?_ _
                    have HW9 := Lib.hid (HB3.out.trans (hHeld.mono HB3.out.size))
                    clear hHeld
                    go_wp2_with fail
                    go_roundw
                    case rel => exact ⟨q + 1 + 1, HLTN.out, by go_num, HS, HW9.out⟩
                    case measure => have := HLTN.out; simp [intOf]; omega
              · have hf1 := hg1 hG
                have hf2 : (128 : Int) ≤ (f.toNat : Int) := by omega
                have HN := Lib.hid (not_right HXX.out (by unfold rightBk; rw [HUW.out, hG]; simp))
                clear hG hg1 hg2 hf1
                refine wp_region_held_drew (S := fun W => Below w3.heap.size w3 W) (by kernel_rfl) ((Below.refl _ _).drew) (fun hHeld => ?_)
                refine tkY 0 31 (.agg LX) rfl (by rw [← HLX.out]; exact yieldsIf_load_mid (by rfl) 36 _ rfl wr.heap.size 0 (by rfl) (bkL x) _ RB.out Try.underlying36 rfl (by rw [bkL_len]; exact sizeBk)) hHeld ?_
                simp only [Act.put, sA, sZ, sS]
                refine wpAnyH_ready (rs := [1]) (by kernel_rfl) (by simp) (AllReadyH.cons (o := ⟨some 32, _, _, _, _, _⟩) rfl (fun K hK => ?_) AllReadyH.nil)
                go_simp
                refine (HFA.out _).mono ?_
                rintro e w5 ⟨rfl, hb5⟩
                have HB5 := Lib.hid (hHeld.trans (hb5.mono hHeld.size))
                refine hK.out _ _ (HB5.out) (fun hHeld => ?_)
                clear hK K hb5
                refine tk 2 33 (.bool false) rfl hHeld ?_
                simp only [Act.put, sA, sZ, sS]
                refine tk 3 34 (.bool false) rfl hHeld ?_
                simp only [Act.put, sA, sZ, sS]
                refine tk 4 35 (.pointer (some ⟨wr.heap.size, 25, none⟩)) rfl hHeld ?_
                simp only [Act.put, sA, sZ, sS]
                refine tkY 5 36 (.float .f64 u) rfl (Or.inl ⟨by rfl, fun W hW => by have hc := DW.out W hW; go_simp⟩) hHeld ?_
                simp only [Act.put, sA, sZ, sS]
                refine wpAnyH_ready (rs := [6]) (by kernel_rfl) (by simp) (AllReadyH.cons (o := ⟨some 37, _, _, _, _, _⟩) rfl (fun K hK => ?_) AllReadyH.nil)
                go_simp
                refine (HPU.out _).mono ?_
                rintro e w6 ⟨v6, rfl, ho6, hb6⟩
                have HB6 := Lib.hid (hHeld.trans (hb6.mono hHeld.size))
                obtain ⟨A6, m6, c6, rfl, hm6, hc6, _, hr6⟩ := ho6.sl
                have HR6 := Lib.hid hr6
                have HM6 := Lib.hid hm6
                clear hm6 hc6 ho6 hr6
                refine hK.out _ _ (HB6.out) (fun hHeld => ?_)
                clear hK K hb6
                obtain ⟨g6, o6, rfl, hl6, hc6⟩ := HR6.out.2 (by rw [HM6.out]; exact Nat.zero_lt_succ _)
                have hcc : w6.cell? ⟨g6, o6, none⟩ = some (.int .u8 (f.toNat : Int)) := hc6 0 f rfl
                have hm0 : ¬ m6 = 0 := by rw [HM6.out]; exact Nat.succ_ne_zero _
                clear hc6 hl6
                refine tk 7 38 (.pointer (some ⟨g6, o6, none⟩)) rfl hHeld ?_
                simp only [Act.put, sA, sZ, sS]
                refine wpAnyH_ready (rs := [8]) (by kernel_rfl) (by simp) (AllReadyH.cons (o := ⟨some 39, _, _, _, _, _⟩) rfl (fun K hK => ?_) AllReadyH.nil)
                go_simp
                refine hK.out _ _ (hHeld) (fun hHeld => ?_)
                clear hK K hcc
                refine tk 9 40 (.bool true) rfl hHeld ?_
                simp only [Act.put, sA, sZ, sS]
                refine tk 10 41 (.bool true) rfl hHeld ?_
                simp only [Act.put, sA, sZ, sS]
                refine tk 11 42 (.bool true) rfl hHeld ?_
                simp only [Act.put, sA, sZ, sS]
                refine tkN 12 43 rfl hHeld ?_
                simp only [Act.put, sA, sZ, sS]
                refine tkN 13 44 rfl hHeld ?_
                simp only [Act.put, sA, sZ, sS]
                refine tkN 14 45 rfl hHeld ?_
                simp only [Act.put, sA, sZ, sS]
                refine tkN 15 46 rfl hHeld ?_
                simp only [Act.put, sA, sZ, sS]
                refine tkN 16 47 rfl hHeld ?_
                simp only [Act.put, sA, sZ, sS]
                refine tkN 17 48 rfl hHeld ?_
                simp only [Act.put, sA, sZ, sS]
                refine tkN 18 49 rfl hHeld ?_
                simp only [Act.put, sA, sZ, sS]
                refine tkN 19 50 rfl hHeld ?_
                simp only [Act.put, sA, sZ, sS]
                refine tkN 20 51 rfl hHeld ?_
                simp only [Act.put, sA, sZ, sS]
                refine tkN 21 52 rfl hHeld ?_
                simp only [Act.put, sA, sZ, sS]
                refine tkN 22 53 rfl hHeld ?_
                simp only [Act.put, sA, sZ, sS]
                refine tkN 23 54 rfl hHeld ?_
                simp only [Act.put, sA, sZ, sS]
                refine tkN 24 55 rfl hHeld ?_
                simp only [Act.put, sA, sZ, sS]
                refine tkN 25 56 rfl hHeld ?_
                simp only [Act.put, sA, sZ, sS]
                refine tk 26 57 (.bool true) rfl hHeld ?_
                simp only [Act.put, sA, sZ, sS]
                refine wpAnyH_done (by kernel_rfl) ?_ _
                go_wp2_with fail
                go_ret
                exact ⟨false, rfl, ⟨fun h => (by cases h), fun h => absurd h HN.out⟩, HB.out.trans ((HB3.out.trans (hHeld.mono HB3.out.size)).mono HB.out.size)⟩
          · obtain rfl : k = n := by omega
            have h1 : ¬ (k : Int) < (k : Int) := by omega
            have HE := Lib.hid (RT.all (p := p) (by have := HK.out; rw [← HL.out] at this; exact this) (by rw [HV.out]; exact HV0.out) (by rw [HV.out]; exact HV1.out) (by rw [HL.out]; exact HN1.out))
            clear hlt
            go_wp2_with fail
            go_ret
            exact ⟨true, rfl, ⟨fun _ => HE.out, fun _ => rfl⟩, HB.out.trans (HW.out.mono HB.out.size)⟩
end Go.Proofs.Ytajmppaodhpmgaa
