/-
  The document's Build.
-/
import Derived.Test.YtmngagcekhlppaaVStep
import Derived.Test.YtmngagcekhlppaaTK
namespace Go.Proofs.Ytmngagcekhlppaa
set_option maxRecDepth 100000
open Go.RowKit Go.Lib

theorem cut_b1 {goal : Prop} {H : World → Nat → Prop} {M : World → Nat → Prop} (h1 : (∀ W b, H W b → M W b) → goal) (h2 : ∀ W b, H W b → M W b) : goal := h1 h2
theorem size2_table : (Try.prog.info? 30).map (·.size) = some 2 := by kernel_rfl
theorem size1_slots : (Try.prog.info? 28).map (·.size) = some 1 := by kernel_rfl
theorem results_tb {fn : Func} {p : Tmp} (hr : fn.results = #[.cell p 30]) (tmps : Array Value) (w : World) (g : Nat) (hp : tmps.getD p undef = .pointer (some ⟨g, 0, none⟩)) (a b : Value) (hb : Blk w 30 g [a, b]) :
    (results fn tmps).run Try.prog w = .ok (tblV a b) w := by
  have hl := run_loadVar_mid (P := Try.prog) w g 0 30 [a, b] _ (Blk_10.range hb) Try.underlying30 rfl size2_table
  rw [results_cell0 hr, hp]
  simp [Result.andThen, asAddr, hl, tblV]
theorem size1_names : (Try.prog.info? 27).map (·.size) = some 1 := by kernel_rfl
theorem rd_name {W : World} {b : Nat} {s : List UInt8} (h : Blk W 9 b [strV s]) : RdG eN W W.heap.size (some ⟨b, 0, none⟩) 1 [s] :=
  ⟨rfl, fun _ => ⟨b, 0, rfl, Blk_10.lt h, fun j u hu => by
    rw [Nat.zero_add]
    exact Blk_10.cell h hu⟩⟩
theorem rd_ch {W : World} {b p g c : Nat} (h : Blk W 28 b [.slice (some ⟨g, 0, none⟩) p c]) : RdG (eC p) W W.heap.size (some ⟨b, 0, none⟩) 1 [(g, c)] :=
  ⟨rfl, fun _ => ⟨b, 0, rfl, Blk_10.lt h, fun j u hu => by
    rw [Nat.zero_add]
    exact Blk_10.cell h hu⟩⟩
theorem own_slice {α : Type} {E : Enc α} {w : World} {base : Nat} {v : Value} {l : List α} (h : OwnG E w base v l) : v.oneCell' = true ∧ v.cells = #[v] := by
  obtain ⟨A, m, c, rfl, _⟩ := h.sl
  exact ⟨rfl, rfl⟩
set_option maxHeartbeats 16000000 in
theorem rbuild_any (key : List UInt8) (hkey : key.length = 16) {p : Nat} (hp : SizeN p) {B n : Nat} {A : Option Addr} (c : Nat) {xs : List Shr} (hm : MayS xs) (hf : ∀ x, x ∈ xs → x.nm.length ≤ 60) (w : World) (hB : B ≤ w.heap.size) (h : RdG eS w B A n xs) :
    Calls Try.prog 16 #[keyC key, .int .i64 (p : Int), .slice A n c] w fun e w' => ∃ nv sv, e = .returned (tblV nv sv) ∧ OwnG eN w' w.heap.size nv ((riseL xs).map Shr.nm) ∧ OwnG eZ w' w.heap.size sv (slotL key p (riseL xs)) ∧ Below w.heap.size w w' := by
  obtain ⟨C0, hC0⟩ : ∃ C, (key.map v8).toArray = C := ⟨_, rfl⟩
  have HKE : Hid (keyC key = .agg C0) := Lib.hid (by rw [← hC0]; rfl)
  rw [HKE.out]
  obtain ⟨Y, hY⟩ : ∃ Y, w.alloc (.cells C0 22) = Y := ⟨_, rfl⟩
  have hYs : Y.heap.size = w.heap.size + 1 := by rw [← hY]; exact World.size_alloc ..
  have HK0 := Lib.hid (show Blk Y 22 w.heap.size (key.map v8) by rw [← hY, ← hC0]; exact Blk_10.new w _ _)
  have HB0 := Lib.hid (show Below w.heap.size w Y by rw [← hY]; exact (Below.refl w.heap.size w).alloc (Nat.le_refl _) _)
  obtain ⟨Z, hZ⟩ : ∃ Z, Y.alloc (.cells #[.slice none 0 0, .slice none 0 0] 30) = Z := ⟨_, rfl⟩
  have hZs : Z.heap.size = w.heap.size + 2 := by rw [← hZ, World.size_alloc, hYs]
  have HK1 := Lib.hid (show Blk Z 22 w.heap.size (key.map v8) by rw [← hZ]; exact Blk_10.alloc HK0.out _)
  have HB1 := Lib.hid (show Below w.heap.size w Z by rw [← hZ]; exact HB0.out.alloc (by omega) _)
  have HT6 := Lib.hid (show Blk Z 30 (w.heap.size + 1) [.slice none 0 0, .slice none 0 0] by rw [← hZ, ← hYs]; exact Blk_10.new Y _ [.slice none 0 0, .slice none 0 0])
  have hrz : RdG eS Z B A n xs := h.below (HB1.out.mono hB)
  obtain ⟨R, hR⟩ : ∃ R, riseL xs = R := ⟨_, rfl⟩
  have HRS := Lib.hid (rrise_any c (by rw [← h.len]; exact hm.few) Z (by omega) hrz)
  rw [hR] at HRS
  rw [hR]
  have HFU := Lib.hid (show Full R by rw [← hR]; exact hm.full)
  have HNM := Lib.hid (show ∀ x, x ∈ R → x.nm.length ≤ 60 by
    intro x hx
    rw [← hR] at hx
    exact hf x (riseL_mem.1 hx).1)
  have HY := Lib.hid hY
  have HZ := Lib.hid hZ
  have HZS := Lib.hid hZs
  have HKL := Lib.hid hkey
  have HP := Lib.hid hp
  clear hY hZ hYs hZs hrz hR h hB hm hf hC0 HB0 HK0 hkey hp HKE
  go_enter Try.func16, Try.ntmps16
  go_upto_region 1 with (fail)
  rw [HY.out, HZ.out]
  go_wp2_with (with_reducible refine HRS.out.mono ?_; rintro e w1 ⟨v7, rfl, hv7, hb1⟩; have HV7 := Lib.hid hv7; have HBW := Lib.hid hb1; clear hv7 hb1)
  obtain ⟨A7, l7, c7, rfl, hl7, hlc7, hcm7, hrd7, hg7⟩ := HV7.out.sl
  have HL7 := Lib.hid hl7
  have hl4 : l7 ≤ 1024 := by rw [hl7]; exact HFU.out.few
  have HRD := Lib.hid hrd7
  have HGG := Lib.hid hg7
  clear hl7 hrd7 hg7
  have HKZ : Hid (w.heap.size < w1.heap.size) := Lib.hid (by have h9 := HBW.out.size; have h8 := HZS.out; omega)
  have HKS : Hid (w.heap.size + 2 ≤ w1.heap.size) := Lib.hid (by have h9 := HBW.out.size; have h8 := HZS.out; omega)
  have HBA : Hid (∀ W, Below w1.heap.size w1 W → Below w.heap.size w W) := Lib.hid fun W hW => (HB1.out.trans (HBW.out.mono (by have h8 := HZS.out; omega))).trans (hW.mono (by have h9 := HKS.out; omega))
  have HK2 : Hid (Blk w1 22 w.heap.size (key.map v8)) := Lib.hid (Blk_10.below HK1.out (Blk_10.lt HK1.out) HBW.out)
  go_loopw [9, 10, 11] (fun cv gr i wr => ∃ (k : Nat) (nv cv2 : Value) (cs : List (Nat × Nat)), k ≤ l7 ∧ cv2 = cv ∧ i = .int .i64 (k : Int) ∧ gr = .int .i64 (bestL (R.take k)) ∧ L1 key p R w1 w1.heap.size ((R.take k).map Shr.nm) nv nv cv2 cs wr ∧ cs.length = k)
    (fun _ _ i _ => l7 - (intOf i).toNat)
  case atStart => exact ⟨0, _, _, [], Nat.zero_le _, rfl, rfl, rfl, L1.start w1, rfl⟩
  case round =>
    obtain ⟨k, nv, cv, cs, hk, rfl, rfl, rfl, hL, hcs⟩ := hrel
    have HL := Lib.hid hL
    have HCS := Lib.hid hcs
    clear hL hcs
    by_cases hlt : k < l7
    · have h1 : (k : Int) < (l7 : Int) := by omega
      have h0 : (0 : Int) ≤ (k : Int) := by omega
      obtain ⟨g7, rfl, hga, hgb⟩ := HGG.out (by omega)
      obtain ⟨x, hx⟩ : ∃ x, R[k]? = some x := ⟨_, List.getElem?_eq_getElem (by rw [← HL7.out]; exact hlt)⟩
      have HX := Lib.hid hx
      have HNA : Hid (∀ W, Below w1.heap.size w1 W → W.cell? ⟨g7, k * 2, none⟩ = some (.string ⟨x.nm.toArray⟩)) := Lib.hid fun W hW => by
        have h9 := ((HRD.out).below hW).name hx
        rwa [Nat.zero_add] at h9
      have HQA : Hid (∀ W, Below w1.heap.size w1 W → W.cell? ⟨g7, k * 2 + 1, none⟩ = some (.int .i64 x.q)) := Lib.hid fun W hW => by
        have h9 := ((HRD.out).below hW).quanta hx
        rwa [Nat.zero_add] at h9
      have HLN : Hid (((R.take k).map Shr.nm).length + 1 ≤ 100000000) := Lib.hid (by rw [List.length_map, List.length_take]; omega)
      have hk4 : k < 1024 := by omega
      have HLC : Hid (cs.length + 1 ≤ 100000000) := Lib.hid (by rw [HCS.out]; omega)
      have HXL : Hid (R[cs.length]? = some x) := Lib.hid (by rw [HCS.out]; exact hx)
      have HAL : Hid (∀ W : World, Calls Try.prog 31 #[keyC key, .string ⟨x.nm.toArray⟩, .int .i64 (p : Int)] W fun e W' => ∃ v, e = .returned v ∧ OwnG eZ W' W.heap.size v (chZ key p x) ∧ Below W.heap.size W W') := Lib.hid fun W => jrall_any key HKL.out ⟨x.nm.toArray⟩ (Nat.le_trans (HNM.out x (List.mem_of_getElem? hx)) (by decide)) p HP.out W
      have HLT := Lib.hid hlt
      clear hx hlt hk hga hgb
      go_wp2_with fail
      apply cut_b1 (H := fun W b => L1 key p R w1 w1.heap.size ((R.take k).map Shr.nm) nv nv cv cs W ∧ Blk W 9 b [strV x.nm])
      case h1 =>
        intro hc
        refine wp_region_held_drew (S := fun W => Below w1.heap.size w1 W) (by kernel_rfl) (HL.out.bel.drew) (fun hHeld => ?_)
        have HL1 := Lib.hid (HL.out.drewN 1)
        have HX1 : Hid (L1 key p R w1 w1.heap.size ((R.take k).map Shr.nm) nv nv cv cs wr.drew) := Lib.hid HL1.out
        clear HL1
        generalize wr.drew = X1 at HX1 hHeld ⊢
        refine tk 0 25 (.pointer (some ⟨w1.heap.size, 0, none⟩)) rfl hHeld ?_
        simp only [Act.put, sA, sZ, sS]
        refine tk 2 27 (.slice (some ⟨g7, 0, none⟩) l7 c7) rfl hHeld ?_
        simp only [Act.put, sA, sZ, sS]
        refine tk 3 28 (.int .i64 (k : Int)) rfl hHeld ?_
        simp only [Act.put, sA, sZ, sS]
        refine tk 4 29 (.pointer (some ⟨g7, k * 2, none⟩)) rfl hHeld ?_
        simp only [Act.put, sA, sZ, sS]
        refine tk 5 30 (.pointer (some ⟨g7, k * 2, none⟩)) rfl hHeld ?_
        simp only [Act.put, sA, sZ, sS]
        refine tkY 6 31 (.string ⟨x.nm.toArray⟩) rfl (Or.inl ⟨by rfl, fun W hW => by have hc := HNA.out W hW; go_simp⟩) hHeld ?_
        simp only [Act.put, sA, sZ, sS]
        refine wpAnyH_ready (rs := [1, 7]) (by kernel_rfl) (by simp) (AllReadyH.cons (o := ⟨some 26, _, _, _, _, _⟩) rfl (fun K hK => ?_) (AllReadyH.cons (o := ⟨some 32, _, _, _, _, _⟩) rfl (fun K hK => ?_) AllReadyH.nil))
        · have hc1 := Blk_10.cell HX1.out.t (i := 0) (v := nv) rfl
          go_simp
          clear hc1
          refine hK.out _ _ hHeld (fun hHeld => ?_)
          clear hK K
          refine wpAnyH_ready (rs := [7]) (by kernel_rfl) (by simp) (AllReadyH.cons (o := ⟨some 32, _, _, _, _, _⟩) rfl (fun K hK => ?_) AllReadyH.nil)
          go_simp
          have HX2 := Lib.hid (HX1.out.alloc (.cells #[.string ⟨x.nm.toArray⟩] 9))
          have HNB := Lib.hid (show Blk (X1.alloc (.cells #[.string ⟨x.nm.toArray⟩] 9)) 9 X1.heap.size [strV x.nm] from Blk_10.new X1 _ [strV x.nm])
          clear HX1
          generalize X1.alloc (.cells #[.string ⟨x.nm.toArray⟩] 9) = X2 at HX2 HNB ⊢
          generalize X1.heap.size = b1 at HNB ⊢
          have HX1 := HX2
          clear HX2
          refine hK.out _ _ HX1.out.bel (fun hHeld => ?_)
          clear hK K
          exact hc X2 b1 ⟨HX1.out, HNB.out⟩
        · go_simp
          have HX2 := Lib.hid (HX1.out.alloc (.cells #[.string ⟨x.nm.toArray⟩] 9))
          have HNB := Lib.hid (show Blk (X1.alloc (.cells #[.string ⟨x.nm.toArray⟩] 9)) 9 X1.heap.size [strV x.nm] from Blk_10.new X1 _ [strV x.nm])
          clear HX1
          generalize X1.alloc (.cells #[.string ⟨x.nm.toArray⟩] 9) = X2 at HX2 HNB ⊢
          generalize X1.heap.size = b1 at HNB ⊢
          have HX1 := HX2
          clear HX2
          refine hK.out _ _ HX1.out.bel (fun hHeld => ?_)
          clear hK K
          refine wpAnyH_ready (rs := [1]) (by kernel_rfl) (by simp) (AllReadyH.cons (o := ⟨some 26, _, _, _, _, _⟩) rfl (fun K hK => ?_) AllReadyH.nil)
          have hc1 := Blk_10.cell HX1.out.t (i := 0) (v := nv) rfl
          go_simp
          clear hc1
          refine hK.out _ _ hHeld (fun hHeld => ?_)
          clear hK K
          exact hc X2 b1 ⟨HX1.out, HNB.out⟩
      case h2 =>
        intro W b1 hHH
        have HX1 := Lib.hid hHH.1
        have HNR := Lib.hid (rd_name hHH.2)
        have hHeld : Below w1.heap.size w1 W := hHH.1.bel
        clear hHH
        refine wpAnyH_ready (rs := [8]) (by kernel_rfl) (by simp) (AllReadyH.cons (o := ⟨some 33, _, _, _, _, _⟩) rfl (fun K hK => ?_) AllReadyH.nil)
        refine step_appendG eN rfl (.tmp 26) (.tmp 32) rfl (w1.heap.size + 1) nv ((R.take k).map Shr.nm) (by rfl) HX1.out.names _ (some ⟨b1, 0, none⟩) 1 1 [x.nm] (by rfl) HNR.out HLN.out HX1.out.size ?_
        intro nv2 W2 hv2 hg2 ho2
        have HX2 := Lib.hid (HX1.out.appN hv2 hg2 ho2)
        clear hv2 hg2 ho2 HX1 HNR
        refine hK.out _ _ HX2.out.bel (fun hHeld => ?_)
        clear hK K
        refine tk 9 34 (.pointer (some ⟨w1.heap.size, 0, none⟩)) rfl hHeld ?_
        simp only [Act.put, sA, sZ, sS]
        refine wpAnyH_ready (rs := [10]) (by kernel_rfl) (by simp) (AllReadyH.cons (o := ⟨none, _, _, _, _, _⟩) rfl (fun K hK => ?_) AllReadyH.nil)
        refine step_storeB1 rfl 27 (.tmp 34) (.tmp 33) rfl w1.heap.size 0 (by rfl) nv2 (by rfl) 30 [nv, .slice none 0 0] HX2.out.t (by simp) size1_names ?_ ?_ ?_
        · exact (own_slice HX2.out.names).1
        · exact (own_slice HX2.out.names).2
        intro W3 hb3 hg3
        have HX3 := Lib.hid (HX2.out.store hb3 hg3)
        clear hb3 hg3 HX2
        refine hK.out _ _ HX3.out.bel (fun hHeld => ?_)
        clear hK K
        refine wpAnyH_done (by kernel_rfl) ?_ _
        clear hHeld HLN
        go_wp2_with fail
        refine wp_region_held_drew (S := fun W => Below w1.heap.size w1 W) (by kernel_rfl) (HX3.out.bel.drew) (fun hHeld => ?_)
        have HX4 : Hid (L1 key p R w1 w1.heap.size ((R.take k).map Shr.nm ++ [x.nm]) nv2 nv2 cv cs W3.drew) := Lib.hid (HX3.out.drewN 1)
        clear HX3
        generalize W3.drew = X4 at HX4 hHeld ⊢
        refine tk 0 35 (cv) rfl hHeld ?_
        simp only [Act.put, sA, sZ, sS]
        refine tkY 1 36 (keyC key) rfl (yields_keyp (by rfl) _ rfl w.heap.size rfl key HKL.out (fun W hW => Blk_10.below HK2.out HKZ.out hW)) hHeld ?_
        simp only [Act.put, sA, sZ, sS]
        refine tk 2 37 (.slice (some ⟨g7, 0, none⟩) l7 c7) rfl hHeld ?_
        simp only [Act.put, sA, sZ, sS]
        refine tk 3 38 (.int .i64 (k : Int)) rfl hHeld ?_
        simp only [Act.put, sA, sZ, sS]
        refine tk 4 39 (.pointer (some ⟨g7, k * 2, none⟩)) rfl hHeld ?_
        simp only [Act.put, sA, sZ, sS]
        refine tk 5 40 (.pointer (some ⟨g7, k * 2, none⟩)) rfl hHeld ?_
        simp only [Act.put, sA, sZ, sS]
        refine tkY 6 41 (.string ⟨x.nm.toArray⟩) rfl (Or.inl ⟨by rfl, fun W hW => by have hc := HNA.out W hW; go_simp⟩) hHeld ?_
        simp only [Act.put, sA, sZ, sS]
        refine tk 7 42 (.int .i64 (p : Int)) rfl hHeld ?_
        simp only [Act.put, sA, sZ, sS]
        refine wpAnyH_ready (rs := [8]) (by kernel_rfl) (by simp) (AllReadyH.cons (o := ⟨some 43, _, _, _, _, _⟩) rfl (fun K hK => ?_) AllReadyH.nil)
        go_simp
        refine (HAL.out X4).mono ?_
        rintro e W5 ⟨vz, rfl, hz, hb5⟩
        obtain ⟨gz, cz, hv5, _, _, hz5, _⟩ := hz.form (by rw [chZ_len]; have := HP.out.two; omega)
        rw [chZ_len] at hv5
        subst hv5
        have HX5 := Lib.hid (HX4.out.call hb5)
        have HZZ := Lib.hid (hz.base_le HX4.out.size)
        have HN5 := Lib.hid (show nv2.ownBlock ≠ some gz from fun e => by have := HX4.out.names.ltS gz e; omega)
        have HC5 := Lib.hid (show cv.ownBlock ≠ some gz from fun e => by have := HX4.out.cho.ltS gz e; omega)
        clear hz hb5 hz5 HX4
        refine hK.out _ _ HX5.out.bel (fun hHeld => ?_)
        clear hK K
        refine wpAnyH_ready (rs := [9]) (by kernel_rfl) (by simp) (AllReadyH.cons (o := ⟨some 44, _, _, _, _, _⟩) rfl (fun K hK => ?_) AllReadyH.nil)
        go_simp
        have HX6 := Lib.hid (HX5.out.alloc (.cells #[.slice (some ⟨gz, 0, none⟩) p cz] 28))
        have HZ6 := Lib.hid (HZZ.out.alloc (.cells #[.slice (some ⟨gz, 0, none⟩) p cz] 28))
        have HNB := Lib.hid (rd_ch (show Blk (W5.alloc (.cells #[.slice (some ⟨gz, 0, none⟩) p cz] 28)) 28 W5.heap.size [.slice (some ⟨gz, 0, none⟩) p cz] from Blk_10.new W5 _ [.slice (some ⟨gz, 0, none⟩) p cz]))
        clear HX5 HZZ
        generalize W5.alloc (.cells #[.slice (some ⟨gz, 0, none⟩) p cz] 28) = W6 at HX6 HZ6 HNB ⊢
        generalize W5.heap.size = b6 at HNB ⊢
        refine hK.out _ _ HX6.out.bel (fun hHeld => ?_)
        clear hK K
        refine wpAnyH_ready (rs := [10]) (by kernel_rfl) (by simp) (AllReadyH.cons (o := ⟨some 45, _, _, _, _, _⟩) rfl (fun K hK => ?_) AllReadyH.nil)
        refine step_appendG (eC p) rfl (.tmp 35) (.tmp 44) rfl (w1.heap.size + 1) cv cs (by rfl) HX6.out.cho _ (some ⟨b6, 0, none⟩) 1 1 [(gz, cz)] (by rfl) HNB.out HLC.out HX6.out.size ?_
        intro cv7 W7 hv7 hg7 ho7
        have HX7 := Lib.hid (HX6.out.appC HXL.out HZ6.out HN5.out HC5.out hv7 hg7 ho7)
        clear hv7 hg7 ho7 HX6 HZ6 HN5 HC5 HNB
        refine hK.out _ _ HX7.out.bel (fun hHeld => ?_)
        clear hK K
        refine tk 11 9 (cv7) rfl hHeld ?_
        simp only [Act.put, sA, sZ, sS]
        refine wpAnyH_done (by kernel_rfl) ?_ _
        clear hHeld
        have hqc := HQA.out W7 HX7.out.bel
        have HBS := Lib.hid (bestL_succ HX.out)
        have HNS := Lib.hid (names_succ HX.out)
        obtain ⟨q, hq⟩ : ∃ q, x.q = q := ⟨_, rfl⟩
        obtain ⟨gr, hgr⟩ : ∃ gr, bestL (R.take k) = gr := ⟨_, rfl⟩
        rw [hq] at hqc
        rw [hgr] at HBS ⊢
        by_cases hgt : gr < q
        · have HB2 : Hid (bestL (R.take (k + 1)) = q) := Lib.hid (by rw [HBS.out]; unfold bestF; rw [hq, if_pos hgt])
          clear hgr hq
          go_wp2_with fail
          go_roundw
          case rel => exact ⟨k + 1, _, _, _, HLT.out, rfl, (by have := HLT.out; go_num), by rw [HB2.out], by rw [HNS.out]; exact HX7.out, by rw [List.length_append, HCS.out]; rfl⟩
          case measure =>
            have := HLT.out
            simp [intOf]
            omega
        · have HB2 : Hid (bestL (R.take (k + 1)) = gr) := Lib.hid (by rw [HBS.out]; unfold bestF; rw [hq, if_neg hgt])
          clear hgr hq
          go_wp2_with fail
          go_roundw
          case rel => exact ⟨k + 1, _, _, _, HLT.out, rfl, (by have := HLT.out; go_num), by rw [HB2.out], by rw [HNS.out]; exact HX7.out, by rw [List.length_append, HCS.out]; rfl⟩
          case measure =>
            have := HLT.out
            simp [intOf]
            omega
    · obtain rfl : k = l7 := by omega
      have h1 : ¬ (k : Int) < (k : Int) := by omega
      have hrt : R.take k = R := by rw [HL7.out]; exact List.take_length
      rw [hrt] at HL ⊢
      have HNN := Lib.hid (HFU.out.none)
      clear hlt hk hrt
      by_cases hR0 : R = []
      · rw [HNN.out.2 hR0]
        have HR0 := Lib.hid hR0
        have H2 := Lib.hid (L2.start HL.out)
        have HT9 := Lib.hid (Blk_10.below HT6.out (by rw [HZS.out]; exact Nat.lt_succ_self _) (HBW.out.trans ((H2.out.bel).mono HBW.out.size)))
        clear hR0
        go_wp2_with (first
          | ((with_reducible show wpList _ _ _ (⟨some 60, _, _, _, _, _⟩ :: _) _ _); refine wpList_loadM (op := ⟨some 60, _, _, _, _, _⟩) 30 _ rfl (by rfl) w1.heap.size 0 (by rfl) [nv, .slice none 0 0] (Blk_10.range H2.out.t) _ Try.underlying30 rfl size2_table ?_)
          | ((with_reducible show wpList _ _ _ (⟨none, _, _, _, _, _⟩ :: _) _ _); refine wpList_storeBA (op := ⟨none, _, _, _, _, _⟩) rfl 30 (.tmp 6) (.tmp 60) rfl (w.heap.size + 1) (by rfl) [nv, .slice none 0 0] (by rfl) [.slice none 0 0, .slice none 0 0] HT9.out rfl size2_table (fun v hv => by rcases List.mem_cons.1 hv with rfl | hv; exact (own_slice H2.out.names).1; rw [List.mem_singleton.1 hv]; rfl) ?_; intro W9 hb9 hg9; have HB9 := Lib.hid hb9; have HG9 := Lib.hid hg9; clear hb9 hg9))
        refine bodyPost_ret (v := tblV nv (.slice none 0 0)) (results_tb rfl _ _ (w.heap.size + 1) (by rfl) nv (.slice none 0 0) HB9.out) rfl ?_
        have hsz := HKS.out
        refine ⟨nv, .slice none 0 0, rfl, (H2.out.names.kept HG9.out (.inr fun e => by have := H2.out.names.lt _ e; omega)).base_le (by omega), ?_, (HBA.out _ H2.out.bel).grown HG9.out (Nat.le_trans (by omega) H2.out.size) (fun b hb => by cases hb; omega)⟩
        rw [HR0.out]
        exact OwnG.nil_ eZ _ _
      · have hG := HFU.out.best hR0
        have H2 := Lib.hid (L2.start HL.out)
        obtain ⟨G, hGG⟩ : ∃ G, bestL R = G := ⟨_, rfl⟩
        rw [hGG] at hG ⊢
        have hG0 : (G == 0) = false := beq_eq_false_iff_ne.2 (by omega)
        have HG1 := Lib.hid hG
        have HGE := Lib.hid hGG
        have HRN := Lib.hid hR0
        have hp9 : p ≤ 65537 := HP.out.most
        clear hG hGG hR0 HNN HL
        go_wp2_with fail
        obtain ⟨w4, hw4⟩ : ∃ z, z = wr := ⟨_, rfl⟩
        subst hw4
        go_loopw [12] (fun i wr => ∃ (k : Nat) (sv : Value), k ≤ p ∧ i = .int .i64 (k : Int) ∧ L2 key p R w1 w1.heap.size nv cv cs sv sv (List.replicate k (-1)) wr)
          (fun i _ => p - (intOf i).toNat)
        case atStart => exact ⟨0, _, Nat.zero_le _, rfl, H2.out⟩
        case round =>
          obtain ⟨j, sv, hj, rfl, hL⟩ := hrel
          have H5 := Lib.hid hL
          clear hL
          by_cases hlt : j < p
          · have h4 : (j : Int) < (p : Int) := by omega
            have h5 : (0 : Int) ≤ (j : Int) := by omega
            have HJ := Lib.hid hlt
            have c1 := Blk_10.cell H5.out.t (i := 1) (v := sv) rfl
            have HJL : Hid ((List.replicate j (-1 : Int)).length + 1 ≤ 100000000) := Lib.hid (by rw [List.length_replicate]; omega)
            clear hlt hj
            go_wp2_with (first
              | (at_builtin; refine wpList_appendG eZ rfl _ _ rfl (w1.heap.size + 1) sv (List.replicate j (-1)) (by rfl) (H5.out.slots.alloc _) (wr.heap.size + 1) _ 1 1 [(-1 : Int)] (by rfl) (RdG.laid eZ wr [(-1 : Int)] 1 rfl _ rfl) HJL.out (H5.out.alloc (.cells #[.int .i64 (-1)] 3)).size ?_; intro sv6 W6 ho6 hg6 hv6; have H6 := Lib.hid ((H5.out.alloc (.cells #[.int .i64 (-1)] 3)).put ho6 hg6 hv6); clear ho6 hg6 hv6)
              | ((with_reducible show wpList _ _ _ (⟨none, _, _, _, _, _⟩ :: _) _ _); refine wpList_storeB1 (op := ⟨none, _, _, _, _, _⟩) rfl 28 (.tmp 70) (.tmp 69) rfl w1.heap.size 1 (by rfl) sv6 (by rfl) 30 [nv, sv] H6.out.t (by simp) size1_slots (own_slice H6.out.slots).1 (own_slice H6.out.slots).2 ?_; intro W7 hb7 hg7; have H7 := Lib.hid (H6.out.store hb7 hg7); clear hb7 hg7))
            refine ⟨⟨j + 1, sv6, HJ.out, (by have := HJ.out; go_num), ?_⟩, ?_⟩
            · rw [List.replicate_succ']
              exact H7.out
            · have := HJ.out
              simp [intOf]
              omega
          · obtain rfl : p = j := by omega
            have h4 : ¬ (p : Int) < (p : Int) := by omega
            clear hlt hj
            obtain ⟨T, hT⟩ : ∃ T, tbOf key p R = T := ⟨_, rfl⟩
            have HT := Lib.hid hT
            have HOK : Hid T.Ok := Lib.hid (by rw [← hT]; exact HFU.out.ok HRN.out key HP.out)
            have HTN : Hid (T.n = k) := Lib.hid (by rw [← hT]; exact HL7.out.symm)
            have HTM : Hid (T.m = p) := Lib.hid (by rw [← hT]; rfl)
            have HTG : Hid ((T.G : Int) = G) := Lib.hid (by rw [← hT, ← HGE.out]; have h9 := bestL_pos R; show ((bestL R).toNat : Int) = bestL R; omega)
            have H8 : Hid (L2 key p R w1 w1.heap.size nv cv cs sv sv (T.tab 0) wr) := Lib.hid (by rw [T.tab_zero, HTM.out]; exact H5.out)
            clear hT H5
            obtain ⟨w5, hmk, hown, hgm⟩ := run_makeG eZ 0 rfl k (by omega) (w1.heap.size + 1) wr H8.out.size
            have H9 := Lib.hid (L3.start H8.out hgm (show OwnG eZ w5 (w1.heap.size + 1) (.slice (some ⟨wr.heap.size, 0, none⟩) k k) (credL T 0) by rw [credL_zero, HTN.out]; exact hown) rfl)
            clear hown hgm H8
            generalize wr.heap.size = gk at hmk H9
            have hmk2 : (Instr.makeSlice 28 (.int .i64 (k : Int)) (.int .i64 (k : Int))).run Try.prog wr = .ok (.slice (some ⟨gk, 0, none⟩) k k) w5 := hmk
            clear hmk
            go_wp2_with fail
            clear hmk2
            have HK4 := Lib.hid hl4
            have HP9 := Lib.hid hp9
            clear hl4 hp9 h1 h4
            go_loopw [14] (fun lf wr => ∃ (v : Nat) (cl : List Int), lf = .int .i64 ((freeN (T.tab v) : Nat) : Int) ∧ L3 key p R w1 w1.heap.size nv cv cs sv (.slice (some ⟨gk, 0, none⟩) k k) (T.tab v) cl wr ∧ (0 < freeN (T.tab v) → ∃ r, v = r * T.n ∧ cl = credL T v))
              (fun lf _ => (intOf lf).toNat)
            case atStart => exact ⟨0, _, by rw [T.free_zero0, HTM.out], H9.out, fun _ => ⟨0, (Nat.zero_mul _).symm, rfl⟩⟩
            case round =>
              obtain ⟨v, cl, rfl, hL, hfr⟩ := hrel
              have HA := Lib.hid hL
              have hfm : freeN (T.tab v) ≤ p := by rw [← HTM.out, ← T.tab_len v]; exact List.countP_le_length
              obtain ⟨f, hf⟩ : ∃ f, freeN (T.tab v) = f := ⟨_, rfl⟩
              rw [hf] at hfm hfr ⊢
              have HFM := Lib.hid hfm
              have HF := Lib.hid hf
              clear hL hf hfm
              by_cases h0 : 0 < f
              · have h5 : 0 < (f : Int) := by omega
                obtain ⟨r, hr, hcl⟩ := hfr h0
                have HRR := Lib.hid hr
                have HCL := Lib.hid hcl
                have H00 := Lib.hid h0
                clear hr hcl hfr
                obtain ⟨wo, hwo⟩ : ∃ z, z = wr := ⟨_, rfl⟩
                subst hwo
                go_wp2_with fail
                clear h5 h0
                go_loopw [14, 15] (fun lf i wr => ∃ (j v2 : Nat) (cl2 : List Int), j ≤ k ∧ i = .int .i64 (j : Int) ∧ lf = .int .i64 ((freeN (T.tab v2) : Nat) : Int) ∧ L3 key p R w1 w1.heap.size nv cv cs sv (.slice (some ⟨gk, 0, none⟩) k k) (T.tab v2) cl2 wr ∧ freeN (T.tab v2) ≤ f ∧ (0 < freeN (T.tab v2) → v2 = r * T.n + j ∧ cl2 = credL T v2))
                  (fun _ i _ => k - (intOf i).toNat)
                case atStart => exact ⟨0, v, cl, Nat.zero_le _, rfl, by rw [HF.out], HA.out, by rw [HF.out]; exact Nat.le_refl _, fun _ => ⟨HRR.out, HCL.out⟩⟩
                case round =>
                  obtain ⟨j, v2, cl2, hj, rfl, rfl, hL, hle, hin⟩ := hrel
                  have HA2 := Lib.hid hL
                  clear hL
                  obtain ⟨f2, hf2⟩ : ∃ f2, freeN (T.tab v2) = f2 := ⟨_, rfl⟩
                  rw [hf2] at hle hin ⊢
                  have HF2 := Lib.hid hf2
                  clear hf2
                  by_cases hgo : j < k ∧ 0 < f2
                  · obtain ⟨hlt, hpos⟩ := hgo
                    obtain ⟨hv, hc⟩ := hin hpos
                    subst hv
                    subst hc
                    have hjn : j < T.n := by rw [HTN.out]; exact hlt
                    have HJN := Lib.hid hjn
                    have HC0 := Lib.hid (credL_at (t := T) (r := r) hjn)
                    have HCN := Lib.hid (credL_next (t := T) (r := r) hjn)
                    have HTK := Lib.hid (T.credit HOK.out (r := r) hjn)
                    have hqG := HOK.out.le j hjn
                    have hcG := Nat.mod_lt (r * T.q j) HOK.out.g0
                    have hG9 : T.G ≤ 1024000 := by have h9 := HG1.out; have h8 := HTG.out; omega
                    have hGI := HTG.out
                    obtain ⟨x, hx⟩ : ∃ x, R[j]? = some x := ⟨_, List.getElem?_eq_getElem (by rw [← HL7.out]; exact hlt)⟩
                    have hxq : x.q = ((T.q j : Nat) : Int) := by
                      have h9 := (HFU.out.qu x (List.mem_of_getElem? hx)).1
                      rw [← HT.out]
                      show x.q = ((atS R j).q.toNat : Int)
                      rw [atS_eq hx]
                      omega
                    obtain ⟨g7, hA7, hga, hgb⟩ := HGG.out (by omega)
                    subst hA7
                    obtain ⟨gs, cS, hsv, _⟩ := HA2.out.two.slots.form (by rw [T.tab_len, HTM.out]; have := HP.out.two; omega)
                    rw [T.tab_len, HTM.out] at hsv
                    subst hsv
                    obtain ⟨gc, cC, hcv, _⟩ := HA2.out.two.cho.form (by rw [HCS.out]; omega)
                    rw [HCS.out] at hcv
                    subst hcv
                    have HQ : Hid (∀ W, Below w1.heap.size w1 W → W.cell? ⟨g7, j * 2 + 1, none⟩ = some (.int .i64 ((T.q j : Nat) : Int))) := Lib.hid fun W hW => by
                      have h9 := ((HRD.out).below hW).quanta hx
                      rw [hxq] at h9
                      rwa [Nat.zero_add] at h9
                    obtain ⟨q, hq⟩ : ∃ q, T.q j = q := ⟨_, rfl⟩
                    rw [hq] at HQ HC0 HCN HTK hqG hcG
                    obtain ⟨c0, hc0⟩ : ∃ c0, r * q % T.G = c0 := ⟨_, rfl⟩
                    rw [hc0] at HC0 HTK hcG
                    obtain ⟨c1, hc1⟩ : ∃ c1, (r + 1) * q % T.G = c1 := ⟨_, rfl⟩
                    rw [hc1] at HCN HTK
                    have h6 : (j : Int) < (k : Int) := by omega
                    have h7 : 0 < (f2 : Int) := by omega
                    have h8 : (0 : Int) ≤ (j : Int) := by omega
                    have HJK := Lib.hid hlt
                    have HPO := Lib.hid hpos
                    have HLE := Lib.hid hle
                    have hf9 : f2 ≤ 65537 := by have := HFM.out; have := HP9.out; omega
                    have hj9 : j < 1024 := by have := HK4.out; omega
                    have HW1 : Hid (IntKind.i64.wrap ((c0 : Int) + (q : Int)) = (c0 : Int) + (q : Int)) := Lib.hid (wi64 (by omega) (by omega))
                    clear hx hxq hga hgb hq hc0 hc1 hlt hpos hin hle hj hjn
                    go_wp2_with fail
                    refine wp_region_held_drew (S := fun W => Below w1.heap.size w1 W) (by kernel_rfl) (HA2.out.two.bel.drew) (fun hHeld => ?_)
                    have HA3 := Lib.hid (HA2.out.drewN 1)
                    have HA4 : Hid (L3 key p R w1 w1.heap.size nv (.slice (some ⟨gc, 0, none⟩) k cC) cs (.slice (some ⟨gs, 0, none⟩) p cS) (.slice (some ⟨gk, 0, none⟩) k k) (T.tab (r * T.n + j)) (credL T (r * T.n + j)) wr.drew) := Lib.hid HA3.out
                    clear HA3 HA2
                    generalize wr.drew = X1 at HA4 hHeld ⊢
                    refine tk 0 87 (.slice (some ⟨gk, 0, none⟩) k k) rfl hHeld ?_
                    simp only [Act.put, sA, sZ, sS]
                    refine tk 1 88 (.int .i64 (j : Int)) rfl hHeld ?_
                    simp only [Act.put, sA, sZ, sS]
                    refine tk 2 89 (.slice (some ⟨gk, 0, none⟩) k k) rfl hHeld ?_
                    simp only [Act.put, sA, sZ, sS]
                    refine tk 3 90 (.int .i64 (j : Int)) rfl hHeld ?_
                    simp only [Act.put, sA, sZ, sS]
                    refine tk 4 91 (.pointer (some ⟨gk, j, none⟩)) rfl hHeld ?_
                    simp only [Act.put, sA, sZ, sS]
                    refine tk 6 93 (.slice (some ⟨g7, 0, none⟩) k c7) rfl hHeld ?_
                    simp only [Act.put, sA, sZ, sS]
                    refine tk 7 94 (.int .i64 (j : Int)) rfl hHeld ?_
                    simp only [Act.put, sA, sZ, sS]
                    refine tk 8 95 (.pointer (some ⟨g7, j * 2, none⟩)) rfl hHeld ?_
                    simp only [Act.put, sA, sZ, sS]
                    refine tk 9 96 (.pointer (some ⟨g7, j * 2 + 1, none⟩)) rfl hHeld ?_
                    simp only [Act.put, sA, sZ, sS]
                    refine tkY 10 97 (.int .i64 (q : Int)) rfl (Or.inl ⟨by rfl, fun W hW => by have hc := HQ.out W hW; go_simp⟩) hHeld ?_
                    simp only [Act.put, sA, sZ, sS]
                    refine wpAnyH_ready (rs := [5]) (by kernel_rfl) (by simp) (AllReadyH.cons (o := ⟨some 92, _, _, _, _, _⟩) rfl (fun K hK => ?_) AllReadyH.nil)
                    have hcc := HA4.out.credCell HC0.out
                    go_simp
                    clear hcc
                    refine hK.out _ _ hHeld (fun hHeld => ?_)
                    clear hK K
                    refine tk 11 98 (.int .i64 ((c0 : Int) + (q : Int))) rfl hHeld (hy := Or.inl ⟨by rfl, fun _ _ => by have hw1 := HW1.out; go_simp⟩) ?_
                    simp only [Act.put, sA, sZ, sS]
                    refine tk 12 99 (.pointer (some ⟨gk, j, none⟩)) rfl hHeld ?_
                    simp only [Act.put, sA, sZ, sS]
                    refine wpAnyH_ready (rs := [13]) (by kernel_rfl) (by simp) (AllReadyH.cons (o := ⟨none, _, _, _, _, _⟩) rfl (fun K hK => ?_) AllReadyH.nil)
                    refine step_storeG eZ rfl 3 (.tmp 99) (.tmp 98) rfl gk j 0 j (by show j = j * 1 + 0; omega) (by rfl) (.int .i64 ((c0 : Int) + (q : Int))) (by rfl) (credL T (r * T.n + j)) k k (w1.heap.size + 1) HA4.out.cred (c0 : Int) ((c0 : Int) + (q : Int)) HC0.out (by decide) rfl size1_int rfl rfl ?_
                    intro W2 ho2 hg2
                    have HA5 := Lib.hid (HA4.out.putK ho2 hg2)
                    clear ho2 hg2 HA4
                    refine hK.out _ _ HA5.out.two.bel (fun hHeld => ?_)
                    clear hK K
                    refine wpAnyH_done (by kernel_rfl) ?_ _
                    clear hHeld
                    have hc5 := HA5.out.credCell (show ((credL T (r * T.n + j)).set j ((c0 : Int) + (q : Int)))[j]? = some ((c0 : Int) + (q : Int)) by rw [List.getElem?_set_self (by rw [credL_len]; exact HJN.out)])
                    by_cases htk : T.G ≤ c0 + q
                    · have h9 : ¬ (c0 : Int) + (q : Int) < G := by omega
                      have hcv1 : (c1 : Int) = (c0 : Int) + (q : Int) - G := by
                        have h9 := HTK.out.2
                        rw [if_pos htk] at h9
                        omega
                      have htake : T.take (r * T.n + j) = true := by rw [HTK.out.1]; exact decide_eq_true htk
                      have hmod : (r * T.n + j) % T.n = j := visit_mod HJN.out
                      obtain ⟨kk, xx, hk1, hk2, hk3, hk4, hk5, hk6⟩ := T.visit_take HOK.out (by rw [HF2.out]; exact HPO.out) htake
                      rw [hmod] at hk2 hk4 hk5
                      rw [HF2.out] at hk6
                      obtain ⟨⟨cb, cd⟩, hcd⟩ : ∃ z, cs[j]? = some z := ⟨_, List.getElem?_eq_getElem (by rw [HCS.out]; exact HJK.out)⟩
                      have HCD := Lib.hid hcd
                      have HKP : Hid (kk < p) := Lib.hid (by rw [← HTM.out]; exact hk1)
                      obtain ⟨pl, hpl⟩ : ∃ pl, T.ch j kk = pl := ⟨_, rfl⟩
                      have HPL := Lib.hid hpl
                      rw [hpl] at hk2 hk5
                      have HXX := Lib.hid hk2
                      have hplp : pl < p := by
                        have h9 := (List.getElem?_eq_some_iff.1 hk2).1
                        rwa [T.tab_len, HTM.out] at h9
                      have HK4X := Lib.hid hk4
                      have HTN5 := Lib.hid hk5
                      have HFD := Lib.hid hk6
                      have hw2 : IntKind.i64.wrap ((c0 : Int) + (q : Int) - G) = (c0 : Int) + (q : Int) - G := wi64 (by omega) (by omega)
                      have hkk9 : kk < 65537 := by have := HKP.out; have := HP9.out; omega
                      clear hcd hpl hk1 hk2 hk4 hk5 hk6 htake hmod
                      go_wp2_with (first
                        | ((with_reducible show wpList _ _ _ (⟨none, _, _, _, _, _⟩ :: _) _ _); refine wpList_storeG eZ (op := ⟨none, _, _, _, _, _⟩) rfl 3 (.tmp 114) (.tmp 113) rfl gk j 0 j (by show j = j * 1 + 0; omega) (by rfl) (.int .i64 ((c0 : Int) + (q : Int) - G)) (by rfl) ((credL T (r * T.n + j)).set j ((c0 : Int) + (q : Int))) k k (w1.heap.size + 1) HA5.out.cred ((c0 : Int) + (q : Int)) ((c0 : Int) + (q : Int) - G) (by rw [List.getElem?_set_self (by rw [credL_len]; exact HJN.out)]) (by decide) rfl size1_int rfl rfl ?_; intro W4 ho4 hg4; have HB4 := Lib.hid (HA5.out.putK ho4 hg4); clear ho4 hg4))
                      have HB5 : Hid (L3 key p R w1 w1.heap.size nv (.slice (some ⟨gc, 0, none⟩) k cC) cs (.slice (some ⟨gs, 0, none⟩) p cS) (.slice (some ⟨gk, 0, none⟩) k k) (T.tab (r * T.n + j)) (credL T (r * T.n + j + 1)) W4) := Lib.hid (by
                        rw [← HCN.out, hcv1]
                        have h9 := HB4.out
                        rw [List.set_set] at h9
                        exact h9)
                      clear HB4 HA5 hc5 h9 hcv1 htk hw2
                      obtain ⟨wo2, hwo2⟩ : ∃ z, z = wr := ⟨_, rfl⟩
                      subst hwo2
                      go_loopw [16] (fun i wr => ∃ m : Nat, m ≤ kk ∧ i = .int .i64 (m : Int) ∧ L3 key p R w1 w1.heap.size nv (.slice (some ⟨gc, 0, none⟩) k cC) cs (.slice (some ⟨gs, 0, none⟩) p cS) (.slice (some ⟨gk, 0, none⟩) k k) (T.tab (r * T.n + j)) (credL T (r * T.n + j + 1)) wr)
                        (fun i _ => kk - (intOf i).toNat)
                      case atStart => exact ⟨0, Nat.zero_le _, rfl, HB5.out⟩
                      case round =>
                        obtain ⟨m, hm, rfl, hL⟩ := hrel
                        have HB6 := Lib.hid hL
                        clear hL
                        have hmp : m < p := by have := HKP.out; omega
                        have d1 := Blk_10.cell HB6.out.two.t (i := 1) (v := .slice (some ⟨gs, 0, none⟩) p cS) rfl
                        have d2 := HB6.out.choCell HCD.out
                        have d3 := HB6.out.pickCell HCD.out hmp
                        rw [HT.out] at d3
                        have e1 : (m : Int) < (p : Int) := by omega
                        have e2 : (0 : Int) ≤ (m : Int) := by omega
                        by_cases hmk : m < kk
                        · obtain ⟨y, hy, hy0⟩ := HK4X.out m hmk
                          have d4 := HB6.out.slotCell hy
                          have hyl := (List.getElem?_eq_some_iff.1 hy).1
                          rw [T.tab_len, HTM.out] at hyl
                          obtain ⟨pm, hpm⟩ : ∃ pm, T.ch j m = pm := ⟨_, rfl⟩
                          rw [hpm] at d3 d4 hyl
                          have e3 : (pm : Int) < (p : Int) := by omega
                          have HMK := Lib.hid hmk
                          have hm9 : m < 65537 := by omega
                          clear hy hpm hmk hm
                          go_wp2_with fail
                          go_quiet (fail)
                          go_wp2_with fail
                          go_roundw
                          case rel => exact ⟨m + 1, HMK.out, by go_num, HB6.out.drewN _⟩
                          case measure =>
                            have := HMK.out
                            simp [intOf]
                            omega
                        · obtain rfl : kk = m := by omega
                          have d4 := HB6.out.slotCell HXX.out
                          rw [HPL.out] at d3
                          have e3 : (pl : Int) < (p : Int) := by omega
                          have e4 : ¬ (0 : Int) ≤ xx := by omega
                          clear hmk hm
                          go_wp2_with fail
                          go_quiet (fail)
                          go_wp2_with fail
                          have HBQ := Lib.hid (HB6.out.drewN nq)
                          clear HB6 d1 d2 d3 d4
                          generalize wr.drewN nq = WQ at HBQ ⊢
                          have HB6 := HBQ
                          clear HBQ
                          refine wp_region_held_drew (S := fun W => ∃ sl, L3 key p R w1 w1.heap.size nv (.slice (some ⟨gc, 0, none⟩) k cC) cs (.slice (some ⟨gs, 0, none⟩) p cS) (.slice (some ⟨gk, 0, none⟩) k k) sl (credL T (r * T.n + j + 1)) W) (by kernel_rfl) ⟨_, HB6.out.drewN 1⟩ (fun hHeld => ?_)
                          have HB7 : Hid (L3 key p R w1 w1.heap.size nv (.slice (some ⟨gc, 0, none⟩) k cC) cs (.slice (some ⟨gs, 0, none⟩) p cS) (.slice (some ⟨gk, 0, none⟩) k k) (T.tab (r * T.n + j)) (credL T (r * T.n + j + 1)) WQ.drew) := Lib.hid (HB6.out.drewN 1)
                          clear HB6
                          generalize WQ.drew = X5 at HB7 hHeld ⊢
                          refine tk 0 129 (.pointer (some ⟨w1.heap.size, 1, none⟩)) rfl hHeld ?_
                          simp only [Act.put, sA, sZ, sS]
                          refine tkY 1 130 (.slice (some ⟨gs, 0, none⟩) p cS) rfl (Or.inl ⟨by rfl, fun W hW => by obtain ⟨sl, hW⟩ := hW; have hc := Blk_10.cell hW.two.t (i := 1) (v := .slice (some ⟨gs, 0, none⟩) p cS) rfl; go_simp⟩) hHeld ?_
                          simp only [Act.put, sA, sZ, sS]
                          refine tk 2 131 (.slice (some ⟨gc, 0, none⟩) k cC) rfl hHeld ?_
                          simp only [Act.put, sA, sZ, sS]
                          refine tk 3 132 (.int .i64 (j : Int)) rfl hHeld ?_
                          simp only [Act.put, sA, sZ, sS]
                          refine tk 4 133 (.pointer (some ⟨gc, j, none⟩)) rfl hHeld ?_
                          simp only [Act.put, sA, sZ, sS]
                          refine tkY 5 134 (.slice (some ⟨cb, 0, none⟩) p cd) rfl (Or.inl ⟨by rfl, fun W hW => by obtain ⟨sl, hW⟩ := hW; have hc := hW.choCell HCD.out; go_simp⟩) hHeld ?_
                          simp only [Act.put, sA, sZ, sS]
                          refine tk 6 135 (.int .i64 (kk : Int)) rfl hHeld ?_
                          simp only [Act.put, sA, sZ, sS]
                          refine tk 7 136 (.pointer (some ⟨cb, kk, none⟩)) rfl hHeld ?_
                          simp only [Act.put, sA, sZ, sS]
                          refine tkY 8 137 (.int .i64 (pl : Nat)) rfl (Or.inl ⟨by rfl, fun W hW => by obtain ⟨sl, hW⟩ := hW; have hc := hW.pickCell HCD.out HKP.out; rw [HT.out, HPL.out] at hc; go_simp⟩) hHeld ?_
                          simp only [Act.put, sA, sZ, sS]
                          refine tk 9 138 (.int .i64 (j : Int)) rfl hHeld ?_
                          simp only [Act.put, sA, sZ, sS]
                          refine tk 10 139 (.pointer (some ⟨gs, pl, none⟩)) rfl hHeld ?_
                          simp only [Act.put, sA, sZ, sS]
                          refine wpAnyH_ready (rs := [11]) (by kernel_rfl) (by simp) (AllReadyH.cons (o := ⟨none, _, _, _, _, _⟩) rfl (fun K hK => ?_) AllReadyH.nil)
                          refine step_storeG eZ rfl 3 (.tmp 139) (.tmp 138) rfl gs pl 0 pl (by show pl = pl * 1 + 0; omega) (by rfl) (.int .i64 (j : Int)) (by rfl) (T.tab (r * T.n + j)) p cS (w1.heap.size + 1) HB7.out.two.slots xx (j : Int) HXX.out (by decide) rfl size1_int rfl rfl ?_
                          intro W8 ho8 hg8
                          have HB8 := Lib.hid (HB7.out.putS ho8 hg8)
                          clear ho8 hg8 HB7
                          refine hK.out _ _ ⟨_, HB8.out⟩ (fun hHeld => ?_)
                          clear hK K
                          refine wpAnyH_done (by kernel_rfl) ?_ _
                          clear hHeld
                          go_wp2_with fail
                          go_roundw
                          case rel => exact ⟨j + 1, r * T.n + j + 1, _, HJK.out, (by have := HJK.out; go_num), (by have h9 := HFD.out; have h5 := HPO.out; rw [show freeN (T.tab (r * T.n + j + 1)) = f2 - 1 by omega, Int.natCast_sub h5]; rfl), (by rw [HTN5.out]; exact HB8.out), (by have h9 := HFD.out; have := HLE.out; omega), fun _ => ⟨Nat.add_assoc _ _ _, rfl⟩⟩
                          case measure =>
                            have := HJK.out
                            simp [intOf]
                            omega
                    · have h9 : (c0 : Int) + (q : Int) < G := by omega
                      have hcv1 : (c1 : Int) = (c0 : Int) + (q : Int) := by
                        have h9 := HTK.out.2
                        rw [if_neg htk] at h9
                        omega
                      have HTI := Lib.hid (T.tab_idle (v := r * T.n + j) (by rw [HTK.out.1]; exact decide_eq_false htk))
                      have HA6 : Hid (L3 key p R w1 w1.heap.size nv (.slice (some ⟨gc, 0, none⟩) k cC) cs (.slice (some ⟨gs, 0, none⟩) p cS) (.slice (some ⟨gk, 0, none⟩) k k) (T.tab (r * T.n + j + 1)) (credL T (r * T.n + j + 1)) W2) := Lib.hid (by
                        rw [← HCN.out, hcv1, HTI.out]
                        exact HA5.out)
                      clear HA5 hcv1 htk
                      go_wp2_with fail
                      go_roundw
                      case rel => exact ⟨j + 1, r * T.n + j + 1, _, HJK.out, (by have := HJK.out; go_num), (by rw [HTI.out, HF2.out]), HA6.out, (by rw [HTI.out, HF2.out]; exact HLE.out), fun _ => ⟨Nat.add_assoc _ _ _, rfl⟩⟩
                      case measure =>
                        have := HJK.out
                        simp [intOf]
                        omega
                  · have HIN := Lib.hid hin
                    by_cases hjk : j < k
                    · obtain rfl : f2 = 0 := by omega
                      have h6 : (j : Int) < (k : Int) := by omega
                      have h00 := H00.out
                      clear hgo hin
                      go_wp2_with fail
                      go_roundw
                      case rel => exact ⟨v2, cl2, by rw [HF2.out], HA2.out, fun h => absurd h (by rw [HF2.out]; omega)⟩
                      case measure =>
                        have := H00.out
                        simp [intOf]
                        omega
                    · obtain rfl : k = j := by omega
                      have h6 : ¬ (k : Int) < (k : Int) := by omega
                      have HLT2 : Hid (f2 < f) := Lib.hid (by
                        rcases Nat.eq_zero_or_pos f2 with h9 | h9
                        · have := H00.out
                          omega
                        · have h8 := (hin h9).1
                          have h7 := T.free_round HOK.out (r := r) (by rw [← HRR.out, HF.out]; exact H00.out)
                          rw [← HRR.out, HF.out, HRR.out] at h7
                          have h6 := HF2.out
                          rw [h8, ← HTN.out] at h6
                          rw [← h6]
                          exact h7)
                      clear hgo hjk hj hle hin
                      go_wp2_with fail
                      go_roundw
                      case rel => exact ⟨v2, cl2, by rw [HF2.out], HA2.out, fun h => ⟨r + 1, by rw [(HIN.out (by rw [← HF2.out]; exact h)).1, Nat.add_mul, Nat.one_mul, HTN.out], (HIN.out (by rw [← HF2.out]; exact h)).2⟩⟩
                      case measure =>
                        have := HLT2.out
                        simp [intOf]
                        omega
              · have h5 : ¬ 0 < (f : Int) := by omega
                have HE := Lib.hid (T.full_out HOK.out (show freeN (T.tab v) = 0 by have := HF.out; omega))
                have HT9 := Lib.hid (Blk_10.below HT6.out (by rw [HZS.out]; exact Nat.lt_succ_self _) (HBW.out.trans ((HA.out.two.bel).mono HBW.out.size)))
                clear hfr h0
                go_wp2_with (first
                  | ((with_reducible show wpList _ _ _ (⟨some 142, _, _, _, _, _⟩ :: _) _ _); refine wpList_loadM (op := ⟨some 142, _, _, _, _, _⟩) 30 _ rfl (by rfl) w1.heap.size 0 (by rfl) [nv, sv] (Blk_10.range HA.out.two.t) _ Try.underlying30 rfl size2_table ?_)
                  | ((with_reducible show wpList _ _ _ (⟨none, _, _, _, _, _⟩ :: _) _ _); refine wpList_storeBA (op := ⟨none, _, _, _, _, _⟩) rfl 30 (.tmp 6) (.tmp 142) rfl (w.heap.size + 1) (by rfl) [nv, sv] (by rfl) [.slice none 0 0, .slice none 0 0] HT9.out rfl size2_table (fun v hv => by rcases List.mem_cons.1 hv with rfl | hv; exact (own_slice HA.out.two.names).1; rw [List.mem_singleton.1 hv]; exact (own_slice HA.out.two.slots).1) ?_; intro W9 hb9 hg9; have HB9 := Lib.hid hb9; have HG9 := Lib.hid hg9; clear hb9 hg9))
                refine bodyPost_ret (v := tblV nv sv) (results_tb rfl _ _ (w.heap.size + 1) (by rfl) nv sv HB9.out) rfl ?_
                have hsz := HKS.out
                refine ⟨nv, sv, rfl, (HA.out.two.names.kept HG9.out (.inr fun e => by have := HA.out.two.names.lt _ e; omega)).base_le (by omega), ?_, (HBA.out _ HA.out.two.bel).grown HG9.out (Nat.le_trans (by omega) HA.out.two.size) (fun b hb => by cases hb; omega)⟩
                have hsl : slotL key p R = T.tab v := by
                  unfold slotL
                  rw [if_neg HRN.out, HE.out, HT.out]
                rw [hsl]
                exact (HA.out.two.slots.kept HG9.out (.inr fun e => by have := HA.out.two.slots.lt _ e; omega)).base_le (by omega)
end Go.Proofs.Ytmngagcekhlppaa
