/-
  MaglevTwice: its walk, the program's contracts a premise.
-/
import Derived.Test.YtmngagcekhlppaaVRight
import Derived.Deep.DeepCutAuto
namespace Go.Proofs.Ytmngagcekhlppaa
set_option maxRecDepth 100000
open Go.RowKit Go.Lib Go.ChangeShapes Go.WideShapes Go.ChangeAt

theorem times_nm (k : Nat) (R : List Shr) : (R.map (Shr.times k)).map Shr.nm = R.map Shr.nm := by
  rw [List.map_map]
  rfl
set_option maxHeartbeats 16000000 in
theorem maglevTwice_walkW (S : MagC) (key : List UInt8) (hk : key.length = 16) (n : Nat) (hn : n < 256) (A : Option Addr) (len cap : Nat) (xs : List Shr) (hc : len ≤ cap) (hm : cap ≤ maxLen) (_hX : ∀ x, x ∈ xs → x.nm.length ≤ maxLen ∧ -9223372036854775808 ≤ x.q ∧ x.q ≤ 9223372036854775807) (by_ : Nat) (hby : by_ < 256) (w : World) (hI : RdG eS w w.heap.size A len xs) :
    Calls Try.prog 7 #[keyC key, .int .u8 (n : Int), .slice A len cap, .int .u8 (by_ : Int)] w fun e w' => e = .returned (.bool true) ∧ Below w.heap.size w w' := by
  obtain ⟨C0, hC0⟩ : ∃ C, (key.map v8).toArray = C := ⟨_, rfl⟩
  obtain ⟨Y, hY⟩ : ∃ Y, w.alloc (.cells C0 22) = Y := ⟨_, rfl⟩
  have HK0 := Lib.hid (show Blk Y 22 w.heap.size (key.map v8) by rw [← hY, ← hC0]; exact Blk_10.new w _ _)
  have HB0 := Lib.hid (show Below w.heap.size w Y by rw [← hY]; exact (Below.refl w.heap.size w).alloc (Nat.le_refl _) _)
  have HY := Lib.hid hY
  have HKE : Hid (keyC key = .agg C0) := Lib.hid (by rw [← hC0]; rfl)
  rw [HKE.out]
  have HKL := Lib.hid hk
  have HI := Lib.hid hI
  have HLE := Lib.hid hI.len
  have HCP := Lib.hid hc
  have HCM := Lib.hid hm
  have HAW := Lib.hid (fun W => awake_any S W)
  have HSS := Lib.hid S
  have hlb : len ≤ 9223372036854775807 := by unfold maxLen at hm; omega
  have HLB := Lib.hid hlb
  have HF0 : Hid (∀ W, Below w.heap.size w W → Calls Try.prog 11 #[.slice A len cap] W fun e w' => e = .returned (.bool (fewB xs)) ∧ w' = W) := Lib.hid (fun W hW => rfew_any cap HLB.out W (HI.out.below hW))
  have HM0 : Hid (∀ W, Below w.heap.size w W → Calls Try.prog 14 #[.slice A len cap] W fun e w' => e = .returned (.bool (mayB xs)) ∧ Below W.heap.size W w') := Lib.hid (fun W hW => rmay_any cap W (HI.out.below hW))
  clear hY hC0 hk hI hc hm hlb S _hX
  obtain ⟨F, hF⟩ : ∃ F, fewB xs = F := ⟨_, rfl⟩
  obtain ⟨M, hM⟩ : ∃ M, mayB xs = M := ⟨_, rfl⟩
  rw [hF] at HF0
  rw [hM] at HM0
  have HFE := Lib.hid hF
  have HME := Lib.hid hM
  clear hF hM
  go_enter Try.func7, Try.ntmps7
  go_wp2_with fail
  rw [HY.out]
  refine (HAW.out Y).mono ?_
  rintro e W1 ⟨rfl, hb⟩
  have D1 := Lib.hid (HB0.out.trans (hb.mono HB0.out.size))
  have HK1 := Lib.hid (Blk_10.below HK0.out (Blk_10.lt HK0.out) hb)
  clear hb
  cases F
  · go_wp2_with ((with_reducible refine (HF0.out W1 D1.out).mono ?_); rintro e W2 ⟨rfl, rfl⟩)
    refine (HAW.out _).mono ?_
    rintro e W3 ⟨rfl, hb⟩
    go_wp2_with fail
    go_ret
    exact ⟨rfl, D1.out.trans (hb.mono D1.out.size)⟩
  · cases M
    · go_wp2_with (first
        | ((with_reducible refine (HF0.out W1 D1.out).mono ?_); rintro e W2 ⟨rfl, rfl⟩)
        | ((with_reducible refine (HM0.out _ D1.out).mono ?_); rintro e W3 ⟨rfl, hb⟩; have D3 := Lib.hid (D1.out.trans (hb.mono D1.out.size)); clear hb))
      refine (HAW.out _).mono ?_
      rintro e W4 ⟨rfl, hb⟩
      go_wp2_with fail
      go_ret
      exact ⟨rfl, D3.out.trans (hb.mono D3.out.size)⟩
    · have HMS := Lib.hid ((mayB_iff xs).1 HME.out)
      have HN3 := Lib.hid (fewB_n HFE.out HLE.out)
      have HSH := Lib.hid (fewB_s HFE.out)
      have hnx := rnext_any (n : Int) (by omega) (by omega)
      obtain ⟨hsz, _, _⟩ := nextN_size (z := (n : Int)) (by omega)
      obtain ⟨p, hp⟩ : ∃ p, nextN (n : Int) = p := ⟨_, rfl⟩
      rw [hp] at hnx hsz
      have HNX := Lib.hid hnx
      have HSZ := Lib.hid hsz
      obtain ⟨R, hR⟩ : ∃ R, riseL xs = R := ⟨_, rfl⟩
      have HR := Lib.hid hR
      have HFU := Lib.hid (show Full R by rw [← hR]; exact HMS.out.full)
      obtain ⟨N, hN⟩ : ∃ N, R.map Shr.nm = N := ⟨_, rfl⟩
      have HN := Lib.hid hN
      obtain ⟨L, hL⟩ : ∃ L, slotL key p R = L := ⟨_, rfl⟩
      have HL := Lib.hid hL
      clear hnx hsz hp hR hN hL
      obtain ⟨kb, hkb⟩ : ∃ k, by_ % 9 = k := ⟨_, rfl⟩
      obtain ⟨k, hkk⟩ : ∃ k, 1 + kb = k := ⟨_, rfl⟩
      have hk9 : k ≤ 9 := by omega
      have hk0 : 0 < k := by omega
      have hm1 : (by_ : Int) % 9 = (kb : Int) := by omega
      have hm2 : Int.tmod (by_ : Int) 9 = (kb : Int) := by rw [Int.tmod_eq_emod_of_nonneg (by omega)]; exact hm1
      have hm3 : (1 : Int) + (kb : Int) = (k : Int) := by omega
      have HK9 := Lib.hid hk9
      have HK0P := Lib.hid hk0
      have HIW : Hid (∀ W, Below w.heap.size w W → RdG eS W w.heap.size A len xs) := Lib.hid (fun W hW => HI.out.below hW)
      clear hkb hkk hk9 hk0
      go_wp2_with (first
        | ((with_reducible refine (HF0.out W1 D1.out).mono ?_); rintro e W2 ⟨rfl, rfl⟩)
        | ((with_reducible refine (HM0.out _ D1.out).mono ?_); rintro e W3 ⟨rfl, hb⟩; have D3 := Lib.hid (D1.out.trans (hb.mono D1.out.size)); have HK3 := Lib.hid (Blk_10.below HK1.out (Blk_10.lt HK1.out) hb); clear hb)
        | ((with_reducible refine (HNX.out _).mono ?_); rintro e W4 ⟨rfl, rfl⟩))
      clear hm1 hm2 hm3
      have HB4 := Lib.hid (show w.heap.size ≤ W3.heap.size from D3.out.size)
      go_loopw [11, 12] (fun v i wr => ∃ (j : Nat) (vv : Value), j ≤ len ∧ vv = v ∧ i = .int .i64 (j : Int) ∧ OwnG eS wr W3.heap.size vv ((xs.take j).map (Shr.times k)) ∧ Below W3.heap.size W3 wr ∧ (∀ x, x ∈ xs.take j → x.q * (k : Int) ≤ 1024000))
        (fun _ i _ => len - (intOf i).toNat)
      case atStart => exact ⟨0, _, Nat.zero_le _, rfl, rfl, by rw [List.take_zero]; exact OwnG.nil_ eS _ _, Below.refl _ _, by rw [List.take_zero]; exact fun x hx => by cases hx⟩
      case round =>
        obtain ⟨j, vv, hj, rfl, rfl, hown, hbel, hall⟩ := hrel
        have HO := Lib.hid hown
        have HBE := Lib.hid hbel
        have HAL := Lib.hid hall
        clear hown hbel hall
        have h30 : len ≤ 30 := HN3.out
        by_cases hlt : j < len
        · have h1 : (j : Int) < (len : Int) := by omega
          have h0 : (0 : Int) ≤ (j : Int) := by omega
          obtain ⟨x, hx⟩ : ∃ x, xs[j]? = some x := ⟨_, List.getElem?_eq_getElem (by rw [HLE.out]; exact hlt)⟩
          have HX := Lib.hid hx
          have hxq := HMS.out.qu x (List.mem_of_getElem? hx)
          have hD := D3.out.trans (HBE.out.mono HB4.out)
          obtain ⟨b, off, rfl, _⟩ := (HIW.out wr hD).addr (by omega)
          have HNA : Hid (∀ W, Below W3.heap.size W3 W → W.cell? ⟨b, off + j * 2, none⟩ = some (.string ⟨x.nm.toArray⟩)) := Lib.hid (fun W hW => (HIW.out W (D3.out.trans (hW.mono HB4.out))).name HX.out)
          have HQA : Hid (∀ W, Below W3.heap.size W3 W → W.cell? ⟨b, off + j * 2 + 1, none⟩ = some (.int .i64 x.q)) := Lib.hid (fun W hW => (HIW.out W (D3.out.trans (hW.mono HB4.out))).quanta HX.out)
          have hq0 := HQA.out wr HBE.out
          obtain ⟨y, hy⟩ : ∃ y, x.q * (k : Int) = y := ⟨_, rfl⟩
          have hyb : 0 ≤ y ∧ y ≤ 9216000 := by
            rw [← hy]
            have h9 := HK9.out
            have h8 : (k : Int) ≤ 9 := by omega
            have h7 : (0 : Int) ≤ (k : Int) := by omega
            exact ⟨Int.mul_nonneg hxq.1 h7, Int.le_trans (Int.mul_le_mul hxq.2 h8 h7 (by omega)) (by omega)⟩
          have hw : IntKind.i64.wrap (x.q * (k : Int)) = y := by rw [hy]; exact wi64 (by omega) (by omega)
          have HY2 := Lib.hid hy
          have HTK : Hid (xs.take (j + 1) = xs.take j ++ [x]) := Lib.hid (by rw [List.take_add_one, HX.out]; rfl)
          clear hx hxq hD hy hj
          by_cases hgt : 1024000 < y
          · go_wp2_with fail
            go_ret
            exact ⟨rfl, D3.out.trans (HBE.out.mono HB4.out)⟩
          · have HYB : Hid (x.q * (k : Int) ≤ 1024000) := Lib.hid (by rw [HY2.out]; omega)
            have HW := Lib.hid hw
            have HLT := Lib.hid hlt
            have hngt : ¬ 1024000 < y := hgt
            clear hgt hlt
            go_wp2_with fail
            clear hq0
            refine wp_region_held_drew (S := fun W => Below W3.heap.size W3 W) (by kernel_rfl) (HBE.out.drew) (fun hHeld => ?_)
            have HO1 : Hid (OwnG eS wr.drew W3.heap.size vv ((xs.take j).map (Shr.times k))) := Lib.hid HO.out
            obtain ⟨X1, hX⟩ : ∃ X, wr.drew = X := ⟨_, rfl⟩
            rw [hX] at hHeld HO1 ⊢
            clear hX
            refine tk 0 51 vv rfl hHeld ?_
            simp only [Act.put, sA, sZ, sS]
            refine tk 1 52 (.slice (some ⟨b, off, none⟩) len cap) rfl hHeld ?_
            simp only [Act.put, sA, sZ, sS]
            refine tk 2 53 (.int .i64 (j : Int)) rfl hHeld ?_
            simp only [Act.put, sA, sZ, sS]
            refine tk 3 54 (.pointer (some ⟨b, off + j * 2, none⟩)) rfl hHeld ?_
            simp only [Act.put, sA, sZ, sS]
            refine tk 4 55 (.pointer (some ⟨b, off + j * 2, none⟩)) rfl hHeld ?_
            simp only [Act.put, sA, sZ, sS]
            refine tkY 5 56 (.string ⟨x.nm.toArray⟩) rfl (Or.inl ⟨by rfl, fun W hW => by have hc := HNA.out W hW; go_simp⟩) hHeld ?_
            simp only [Act.put, sA, sZ, sS]
            refine tk 6 57 (.slice (some ⟨b, off, none⟩) len cap) rfl hHeld ?_
            simp only [Act.put, sA, sZ, sS]
            refine tk 7 58 (.int .i64 (j : Int)) rfl hHeld ?_
            simp only [Act.put, sA, sZ, sS]
            refine tk 8 59 (.pointer (some ⟨b, off + j * 2, none⟩)) rfl hHeld ?_
            simp only [Act.put, sA, sZ, sS]
            refine tk 9 60 (.pointer (some ⟨b, off + j * 2 + 1, none⟩)) rfl hHeld ?_
            simp only [Act.put, sA, sZ, sS]
            refine tkY 10 61 (.int .i64 x.q) rfl (Or.inl ⟨by rfl, fun W hW => by have hc := HQA.out W hW; go_simp⟩) hHeld ?_
            simp only [Act.put, sA, sZ, sS]
            refine tk 11 62 (.int .i64 (k : Int)) rfl hHeld ?_
            simp only [Act.put, sA, sZ, sS]
            refine tk 12 63 (.int .i64 y) rfl hHeld ?_
            simp only [Act.put, sA, sZ, sS]
            refine tk 13 64 (.agg #[.string ⟨x.nm.toArray⟩, .int .i64 y]) rfl hHeld ?_
            simp only [Act.put, sA, sZ, sS]
            refine wpAnyH_ready (rs := [14]) (by kernel_rfl) (by simp) (AllReadyH.cons (o := ⟨some 65, _, _, _, _, _⟩) rfl (fun K hK => ?_) AllReadyH.nil)
            go_simp
            have HXS := Lib.hid (show Blk (X1.alloc (.cells #[.string ⟨x.nm.toArray⟩, .int .i64 y] 48)) 48 X1.heap.size (eS.f (x.times k)) by have e : eS.f (x.times k) = [.string ⟨x.nm.toArray⟩, .int .i64 y] := (by rw [← HY2.out]; rfl); rw [e]; exact Blk_10.new X1 _ [.string ⟨x.nm.toArray⟩, .int .i64 y])
            have HB1 := Lib.hid (hHeld.alloc hHeld.size (.cells #[.string ⟨x.nm.toArray⟩, .int .i64 y] 48))
            have HO2 := Lib.hid (HO1.out.alloc (.cells #[.string ⟨x.nm.toArray⟩, .int .i64 y] 48))
            generalize X1.alloc (.cells #[.string ⟨x.nm.toArray⟩, .int .i64 y] 48) = X2 at HXS HB1 HO2 ⊢
            generalize X1.heap.size = bx at HXS ⊢
            have HRX := Lib.hid (rd_blk HXS.out)
            refine hK.out _ _ HB1.out (fun hHeld => ?_)
            clear hK K HO1
            refine wpAnyH_ready (rs := [15]) (by kernel_rfl) (by simp) (AllReadyH.cons (o := ⟨some 66, _, _, _, _, _⟩) rfl (fun K hK => ?_) AllReadyH.nil)
            refine step_appendG eS rfl (.tmp 51) (.tmp 65) rfl W3.heap.size vv ((xs.take j).map (Shr.times k)) (by rfl) HO2.out _ (some ⟨bx, 0, none⟩) 1 1 [x.times k] (by rfl) HRX.out (by rw [List.length_map, List.length_take]; have := HLT.out; omega) hHeld.size ?_
            intro v2 X3 hv2 hg2 _
            have HB2 := Lib.hid (hHeld.grown hg2 hHeld.size HO2.out.lt)
            have HV2 := Lib.hid hv2
            clear hv2 hg2
            refine hK.out _ _ HB2.out (fun hHeld => ?_)
            clear hK K
            refine tk 16 11 v2 rfl hHeld ?_
            simp only [Act.put, sA, sZ, sS]
            refine wpAnyH_done (by kernel_rfl) ?_ _
            clear hHeld
            go_wp2_with fail
            go_roundw
            case rel => exact ⟨j + 1, v2, HLT.out, rfl, (by have := HLT.out; go_num), (by rw [HTK.out, List.map_append]; exact HV2.out), HB2.out, (by rw [HTK.out]; intro z hz; rcases List.mem_append.1 hz with h | h; exact HAL.out z h; rw [List.mem_singleton.1 h]; exact HYB.out)⟩
            case measure =>
              have := HLT.out
              simp [intOf]
              omega
        · obtain rfl : j = len := by omega
          have h1 : ¬ (j : Int) < (j : Int) := by omega
          have HTA : Hid (xs.take j = xs) := Lib.hid (by rw [← HLE.out]; exact List.take_length)
          have HO1 : Hid (OwnG eS wr W3.heap.size vv (xs.map (Shr.times k))) := Lib.hid (by have h9 := HO.out; rw [HTA.out] at h9; exact h9)
          have HAQ : Hid (∀ x, x ∈ xs → x.q * (k : Int) ≤ 1024000) := Lib.hid (by have h9 := HAL.out; rw [HTA.out] at h9; exact h9)
          clear HO HAL
          obtain ⟨A9, m9, c9, rfl, e9, k9, l9, _⟩ := HO1.out.sl
          rw [List.length_map, HLE.out] at e9
          subst m9
          have HV9 := Lib.hid HO1.out.rd
          have HK9' := Lib.hid k9
          have HL9 := Lib.hid l9
          have D4 := Lib.hid (D3.out.trans (HBE.out.mono HB4.out))
          have HK4 := Lib.hid (Blk_10.below HK3.out (Blk_10.lt HK3.out) HBE.out)
          have HRT : Hid (riseL (xs.map (Shr.times k)) = R.map (Shr.times k)) := Lib.hid (by rw [riseL_times HK0P.out, HR.out])
          have P1 : Hid (∀ W, Below w.heap.size w W → Calls Try.prog 12 #[.agg (key.map v8).toArray, .int .i64 (p : Int), .slice A j cap] W (BuildGave N L W)) := Lib.hid (fun W hW => build_gave HSS.out key HKL.out p HSZ.out A j cap xs HMS.out HN3.out HSH.out HCP.out HCM.out W _ hW.size (HIW.out W hW) N (by rw [HR.out, HN.out]) L (by rw [HR.out, HL.out]))
          have P2 : Hid (∀ W, Below wr.heap.size wr W → Calls Try.prog 12 #[.agg (key.map v8).toArray, .int .i64 (p : Int), .slice A9 j c9] W (BuildGave N L W)) := Lib.hid (fun W hW => build_gave HSS.out key HKL.out p HSZ.out A9 j c9 (xs.map (Shr.times k)) (HMS.out.times HAQ.out) HN3.out (fun x hx => by obtain ⟨z, hz, rfl⟩ := List.mem_map.1 hx; exact HSH.out z hz) HK9'.out HL9.out W _ (hW.size) (HV9.out.below hW) N (by rw [HRT.out, times_nm, HN.out]) L (by rw [HRT.out, slotL_times HFU.out key HK0P.out, HL.out]))
          clear k9 l9
          go_wp2_with (first
            | ((with_reducible show wpList _ _ _ (⟨some 68, _, _, _, _, _⟩ :: _) _ _); refine wpList_loadM (op := ⟨some 68, _, _, _, _, _⟩) 22 _ rfl (by rfl) w.heap.size 0 (by rfl) (key.map v8) (Blk_10.range HK4.out) _ Try.underlying22 rfl (keyp_size HKL.out) ?_)
            | ((with_reducible refine (P1.out wr D4.out).mono ?_); rintro e W5 ⟨A1, c1, A2, c2, rfl, k1, k2, k3, k4, ho1, ho2, hb⟩; have HO2 := Lib.hid ho1; have HO3 := Lib.hid ho2; have HB5 := Lib.hid hb; clear ho1 ho2 hb k1 k2 k3 k4)
            | (obtain ⟨Z5, hZ5⟩ : ∃ Z, W5.alloc (.cells #[.slice A1 N.length c1, .slice A2 L.length c2] 30) = Z := ⟨_, rfl⟩; rw [hZ5]; have HZ5 := Lib.hid hZ5; clear hZ5; have HT5 : Hid (Blk Z5 30 W5.heap.size [.slice A1 N.length c1, .slice A2 L.length c2]) := Lib.hid (by rw [← HZ5.out]; exact tbl_new _ _ _); have HB6 : Hid (Below wr.heap.size wr Z5) := Lib.hid (below_zed HB5.out HZ5.out); have HK5 := Lib.hid (Blk_10.below HK4.out (Blk_10.lt HK4.out) HB6.out); ((with_reducible show wpList _ _ _ (⟨some 75, _, _, _, _, _⟩ :: _) _ _); refine wpList_loadM (op := ⟨some 75, _, _, _, _, _⟩) 22 _ rfl (by rfl) w.heap.size 0 (by rfl) (key.map v8) (Blk_10.range HK5.out) _ Try.underlying22 rfl (keyp_size HKL.out) ?_))
            | ((with_reducible refine (P2.out Z5 HB6.out).mono ?_); rintro e W6 ⟨A3, c3, A4, c4, rfl, k1, k2, k3, k4, ho1, ho2, hb⟩; have HO4 := Lib.hid ho1; have HO5 := Lib.hid ho2; have HB7 := Lib.hid hb; clear ho1 ho2 hb k1 k2 k3 k4; have HB8 := Lib.hid (HB7.out.alloc HB7.out.size (.cells #[.slice A3 N.length c3, .slice A4 L.length c4] 30)); have HT5' := Lib.hid (Blk_10.below HT5.out (Blk_10.lt HT5.out) HB8.out); have HT6 := Lib.hid (tbl_new W6 (.slice A3 N.length c3) (.slice A4 L.length c4)); have a1 : (W6.alloc (.cells #[.slice A3 N.length c3, .slice A4 L.length c4] 30)).cell? ⟨W5.heap.size, 0, none⟩ = some (.slice A1 N.length c1) := Blk_10.cell HT5'.out rfl; have b1 : (W6.alloc (.cells #[.slice A3 N.length c3, .slice A4 L.length c4] 30)).cell? ⟨W5.heap.size, 1, none⟩ = some (.slice A2 L.length c2) := Blk_10.cell HT5'.out rfl; have a2 : (W6.alloc (.cells #[.slice A3 N.length c3, .slice A4 L.length c4] 30)).cell? ⟨W6.heap.size, 0, none⟩ = some (.slice A3 N.length c3) := Blk_10.cell HT6.out rfl; have b2 : (W6.alloc (.cells #[.slice A3 N.length c3, .slice A4 L.length c4] 30)).cell? ⟨W6.heap.size, 1, none⟩ = some (.slice A4 L.length c4) := Blk_10.cell HT6.out rfl)
            | (go_at_call 15; clear a1 b1 a2 b2; have h5 : OwnG eN Z5 wr.heap.size (.slice A1 N.length c1) N := (by rw [← HZ5.out]; exact HO2.out.alloc _); have h6 : OwnG eZ Z5 wr.heap.size (.slice A2 L.length c2) L := (by rw [← HZ5.out]; exact HO3.out.alloc _); refine (same_tbl (by rw [← HN.out, List.length_map, ← HR.out]; exact rise_len HN3.out HLE.out) (by rw [← HL.out]; exact slotL_most key HSZ.out R) (h5.below HB8.out) (h6.below HB8.out) (HO4.out.alloc _) (HO5.out.alloc _)).mono ?_; rintro e W9 ⟨rfl, hb⟩; have HB10 := Lib.hid (HB8.out.trans (hb.mono HB8.out.size)); clear hb h5 h6))
          go_ret
          have h8 := D4.out.trans (HB6.out.mono D4.out.size)
          exact ⟨rfl, h8.trans (HB10.out.mono h8.size)⟩
end Go.Proofs.Ytmngagcekhlppaa
