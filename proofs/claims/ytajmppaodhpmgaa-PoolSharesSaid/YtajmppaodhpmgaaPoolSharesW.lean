/-
  PoolShares: its walk, the program's contracts a premise.
-/
import Derived.Test.YtajmppaodhpmgaaULaw
import Derived.Deep.DeepCutAuto
namespace Go.Proofs.Ytajmppaodhpmgaa
set_option maxRecDepth 100000
open Go.RowKit Go.Lib

theorem shares_get (ds : List (List UInt8)) {l : List Bk} {k : Nat} {x : Bk} (h : l[k]? = some x) : (sharesL ds l)[k]? = some (shrB ds x) := by
  unfold sharesL
  rw [List.getElem?_map, h]
  rfl
theorem shares_len (ds : List (List UInt8)) (l : List Bk) : (sharesL ds l).length = l.length := List.length_map ..
set_option maxHeartbeats 16000000 in
theorem poolShares_walkW (S : PoolC) (V : Int) (_hva : -9223372036854775808 ≤ V) (_hvb : V ≤ 9223372036854775807) (A : Option Addr) (len cap : Nat) (xs : List Bk) (hc : len ≤ cap) (hm : cap ≤ maxLen) (_hX : ∀ x, x ∈ xs → BkOk x) (A2 : Option Addr) (len2 cap2 : Nat) (ds : List (List UInt8)) (hc2 : len2 ≤ cap2) (hm2 : cap2 ≤ maxLen) (hX2 : ∀ x, x ∈ ds → x.length ≤ maxLen) (w : World) (hI : RdG eB w w.heap.size A len xs) (hI2 : RdG eN w w.heap.size A2 len2 ds) :
    Calls Try.prog 7 #[.agg #[.int .i64 V, .slice A len cap], .slice A2 len2 cap2] w fun e w' => e = .returned (.bool true) ∧ Below w.heap.size w w' := by
  obtain ⟨Y, hY⟩ : ∃ Y, w.alloc (.cells #[.int .i64 V, .slice A len cap] 24) = Y := ⟨_, rfl⟩
  have hT : Blk Y 24 w.heap.size [.int .i64 V, .slice A len cap] := by rw [← hY]; exact Blk_10.new w _ [.int .i64 V, .slice A len cap]
  have hB : Below w.heap.size w Y := by rw [← hY]; exact (Below.refl w.heap.size w).alloc (Nat.le_refl _) _
  have HCP2 := Lib.hid hc2
  have HCM2 := Lib.hid hm2
  have HLB2 := Lib.hid (big_max hc2 hm2)
  have HD := Lib.hid (hI2.below hB)
  have DR : Hid (∀ W, Below Y.heap.size Y W → RdG eN W w.heap.size A2 len2 ds) := Lib.hid (fun W h => HD.out.below (h.mono hB.size))
  have HSS := Lib.hid S
  have HLE := Lib.hid hI.len
  have HCP := Lib.hid hc
  have HCM := Lib.hid hm
  have HLB := Lib.hid (big_max hc hm)
  have HT := Lib.hid hT
  have HB := Lib.hid hB
  have HR := Lib.hid (hI.below hB)
  have HY := Lib.hid hY
  have HLT := Lib.hid (Blk_10.lt hT)
  have PC : Hid (∀ W, Below Y.heap.size Y W → W.cell? ⟨w.heap.size, 0, none⟩ = some (.int .i64 V) ∧ W.cell? ⟨w.heap.size, 1, none⟩ = some (.slice A len cap)) := Lib.hid (fun W h => ⟨(h.cell (p := ⟨w.heap.size, 0, none⟩) HLT.out).trans (Blk_10.cell HT.out (i := 0) rfl), (h.cell (p := ⟨w.heap.size, 1, none⟩) HLT.out).trans (Blk_10.cell HT.out (i := 1) rfl)⟩)
  have PR : Hid (∀ W, Below Y.heap.size Y W → RdG eB W w.heap.size A len xs) := Lib.hid (fun W h => HR.out.below (h.mono HB.out.size))
  have PS : Hid (∀ W : World, Below Y.heap.size Y W → w.heap.size ≤ W.heap.size) := Lib.hid (fun W h => Nat.le_trans HB.out.size h.size)
  have HAW := Lib.hid (fun W => awake_any S W)
  obtain ⟨F, hF⟩ : ∃ F, fewU xs = F := ⟨_, rfl⟩
  have HFE := Lib.hid hF
  have HFW : Hid (∀ W, Below Y.heap.size Y W → Calls Try.prog 11 #[.agg #[.int .i64 V, .slice A len cap]] W fun e w' => e = .returned (.bool F) ∧ Below W.heap.size W w') := Lib.hid (by rw [← hF]; exact fun W h => rfewU_any cap HLB.out V W (PS.out W h) (PR.out W h))
  clear hF hc hm _hX hI hT hB hY S
  have HX2 := Lib.hid hX2
  clear _hva _hvb hc2 hm2 hX2 hI2
  cases F
  · skip
    go_enter Try.func7, Try.ntmps7
    go_upto_region 1 with (fail)
    rw [HY.out]
    go_wp2_with (first | ((with_reducible refine (HAW.out Y).mono ?_); rintro e w1 ⟨rfl, hb⟩; have D1 := Lib.hid hb; obtain ⟨p0, p1⟩ := PC.out w1 hb; clear hb) | ((with_reducible refine (HFW.out w1 D1.out).mono ?_); rintro e w2 ⟨rfl, hb⟩; have D2 := Lib.hid (bel2 D1.out hb); clear p0 p1 hb; obtain ⟨p0, p1⟩ := PC.out w2 D2.out))
    refine (HAW.out _).mono ?_
    rintro e wz ⟨rfl, hz⟩
    go_wp2_with fail
    go_ret
    exact ⟨rfl, HB.out.trans ((bel2 D2.out hz).mono HB.out.size)⟩
  · skip
    have HN := Lib.hid (few_n HFE.out HLE.out)
    have HSH := Lib.hid (few_s HFE.out)
    by_cases hrp : RightP ⟨V, xs⟩
    · have HRW : Hid (∀ W, Below Y.heap.size Y W → Calls Try.prog 15 #[.agg #[.int .i64 V, .slice A len cap]] W fun e w' => e = .returned (.bool true) ∧ Below W.heap.size W w') := Lib.hid (fun W h => (rright18_any cap (p := ⟨V, xs⟩) HLB.out (fun x hx => Nat.le_trans (HSH.out x hx) (by decide)) W (PS.out W h) (PR.out W h)).mono (fun e w' ⟨r, he, hr, hb⟩ => ⟨by rw [he]; congr 2; exact hr.2 hrp, hb⟩))
      have HRP := Lib.hid hrp
      clear hrp
      by_cases g1 : 100 < len2
      · have g1i : (100 : Int) < (len2 : Int) := by omega
        clear g1
        go_enter Try.func7, Try.ntmps7
        go_upto_region 1 with (fail)
        rw [HY.out]
        go_wp2_with (first | ((with_reducible refine (HAW.out Y).mono ?_); rintro e w1 ⟨rfl, hb⟩; have D1 := Lib.hid hb; obtain ⟨p0, p1⟩ := PC.out w1 hb; clear hb) | ((with_reducible refine (HFW.out w1 D1.out).mono ?_); rintro e w2 ⟨rfl, hb⟩; have D2 := Lib.hid (bel2 D1.out hb); clear p0 p1 hb; obtain ⟨p0, p1⟩ := PC.out w2 D2.out) | ((with_reducible refine (HRW.out w2 D2.out).mono ?_); rintro e w3 ⟨rfl, hb⟩; have D3 := Lib.hid (bel2 D2.out hb); clear p0 p1 hb; obtain ⟨p0, p1⟩ := PC.out w3 D3.out))
        refine (HAW.out _).mono ?_
        rintro e wz ⟨rfl, hz⟩
        go_wp2_with fail
        go_ret
        exact ⟨rfl, HB.out.trans ((bel2 D3.out hz).mono HB.out.size)⟩
      · have g1i : ¬ (100 : Int) < (len2 : Int) := by omega
        have HN2 := Lib.hid (show len2 ≤ 100 by omega)
        have g1d : decide ((100 : Int) < (len2 : Int)) = false := decide_eq_false g1i
        clear g1 g1i
        go_enter Try.func7, Try.ntmps7
        go_upto_region 1 with (fail)
        rw [HY.out]
        have HSA : Hid (∀ W, Below Y.heap.size Y W → Calls Try.prog 23 #[.agg #[.int .i64 V, .slice A len cap], .slice A2 len2 cap2] W fun e w' => ∃ r, e = .returned r ∧ OwnG eS w' W.heap.size r (sharesL ds xs) ∧ Below W.heap.size W w') := Lib.hid (fun W h => HSS.out.shares (p := ⟨V, xs⟩) cap cap2 HCP.out HCM.out HCP2.out HCM2.out HRP.out (Nat.le_trans HN.out (by decide)) HN2.out HX2.out W (PS.out W h) (PR.out W h) (DR.out W h))
        have HSB : Hid (∀ W, Below Y.heap.size Y W → Calls Try.prog 24 #[.agg #[.int .i64 V, .slice A len cap], .slice A2 len2 cap2] W fun e w' => ∃ r, e = .returned r ∧ OwnG eS w' W.heap.size r (sharesL ds xs) ∧ Below W.heap.size W w') := Lib.hid (fun W h => rshares18_any cap cap2 (Nat.le_trans HN.out (by decide)) (Nat.le_trans HN2.out (by decide)) V W (PS.out W h) (PR.out W h) (DR.out W h))
        have HSL := Lib.hid (shares_len ds xs)
        have HSG := Lib.hid (fun k x (h : xs[k]? = some x) => shares_get ds h)
        have HSH2 := Lib.hid HN2.out
        have hll : ((len : Int) != (len : Int)) = false := by simp
        go_wp2_with (first | ((with_reducible refine (HAW.out Y).mono ?_); rintro e w1 ⟨rfl, hb⟩; have D1 := Lib.hid hb; obtain ⟨p0, p1⟩ := PC.out w1 hb; clear hb) | ((with_reducible refine (HFW.out w1 D1.out).mono ?_); rintro e w2 ⟨rfl, hb⟩; have D2 := Lib.hid (bel2 D1.out hb); clear p0 p1 hb; obtain ⟨p0, p1⟩ := PC.out w2 D2.out) | ((with_reducible refine (HRW.out w2 D2.out).mono ?_); rintro e w3 ⟨rfl, hb⟩; have D3 := Lib.hid (bel2 D2.out hb); clear p0 p1 hb; obtain ⟨p0, p1⟩ := PC.out w3 D3.out) | ((with_reducible refine (HSA.out w3 D3.out).mono ?_); rintro e w4 ⟨v4, rfl, ho, hb⟩; obtain ⟨A4, n4, c4, rfl, e4, q4, m4, r4, _⟩ := own_any ho; rw [HSL.out, HLE.out] at e4; subst n4; have HR4 := Lib.hid r4; have D4 := Lib.hid (bel2 D3.out hb); clear p0 p1 ho q4 m4 r4 hb; obtain ⟨p0, p1⟩ := PC.out w4 D4.out) | ((with_reducible refine (HSB.out w4 D4.out).mono ?_); rintro e w5 ⟨v5, rfl, ho, hb⟩; obtain ⟨A5, n5, c5, rfl, e5, q5, m5, r5, _⟩ := own_any ho; rw [HSL.out, HLE.out] at e5; subst n5; have HR5 := Lib.hid r5; have HB45 := Lib.hid hb; have D5 := Lib.hid (bel2 D4.out hb); clear p0 p1 ho q5 m5 r5 hb; obtain ⟨p0, p1⟩ := PC.out w5 D5.out))
        clear p0 p1
        go_loopw [7] (fun i wr => ∃ k : Nat, k ≤ len ∧ i = .int .i64 (k : Int) ∧ Below w5.heap.size w5 wr) (fun i _ => len - (RowKit.intOf i).toNat)
        case atStart => exact ⟨0, Nat.zero_le _, rfl, Below.refl _ _⟩
        case round =>
          obtain ⟨k, hk, rfl, hw⟩ := hrel
          have HW := Lib.hid (bel2 D5.out hw)
          have HW5 := Lib.hid hw
          clear hw
          obtain ⟨p0, p1⟩ := PC.out wr HW.out
          by_cases hlt : k < len
          · have h1 : (k : Int) < (len : Int) := by omega
            have h0 : (0 : Int) ≤ (k : Int) := by omega
            obtain ⟨b, off, rfl, _⟩ := (PR.out wr HW.out).addr (Nat.lt_of_le_of_lt (Nat.zero_le _) hlt)
            obtain ⟨gx, ox, rfl, _⟩ := HR4.out.addr (Nat.lt_of_le_of_lt (Nat.zero_le _) hlt)
            obtain ⟨gy, oy, rfl, _⟩ := HR5.out.addr (Nat.lt_of_le_of_lt (Nat.zero_le _) hlt)
            obtain ⟨x, hx⟩ : ∃ x, xs[k]? = some x := ⟨_, List.getElem?_eq_getElem (by rw [HLE.out]; exact hlt)⟩
            have RX := Lib.hid ((PR.out wr HW.out).range hx)
            have HXX := Lib.hid hx
            have HGS := Lib.hid (HSG.out k x hx)
            have HMX := Lib.hid (List.mem_of_getElem? hx)
            obtain ⟨LX, hLX⟩ : ∃ L, (bkL x).toArray = L := ⟨_, rfl⟩
            have HLX := Lib.hid hLX
            have HLTN := Lib.hid hlt
            have hk9 : k < 9223372036854775807 := by have := HN.out; omega
            clear hLX hx hlt
            go_upto_region 11 with (first
              | ((with_reducible show wpList _ _ _ (⟨some 60, _, _, _, _, _⟩ :: _) _ _); refine wpList_loadBk (op := ⟨some 60, _, _, _, _, _⟩) _ rfl (by rfl) b (off + k * 27) (by rfl) x RX.out _ HLX.out ?_)
              | ((with_reducible show wpList _ _ _ (⟨none, _, _, _, _, _⟩ :: _) _ _); refine wpList_storeNewG rfl 36 _ _ rfl (by rfl) (bkL x) (by rw [HLX.out]; rfl) (by rw [bkL_len]; rfl) (by rw [bkL_len]; exact sizeBk) (bkL_one x) ?_; intro w6 hb6 hB6 hz6))
            have HK6 := Lib.hid hb6
            have D6 := Lib.hid (bel2 HW.out hB6)
            have HW6 := Lib.hid (bel2 HW5.out hB6)
            have L6 := Lib.hid (Blk_10.lt hb6)
            have d4 : w6.cell? ⟨wr.heap.size, 25, none⟩ = some (.float .f64 x.wt) := Blk_10.cell hb6 (bk_wt x)
            have HQ := Lib.hid (rqu_any x.hw w6)
            clear hb6 hB6 hz6 p0 p1
            obtain ⟨s, hs⟩ : ∃ s, shrB ds x = s := ⟨_, rfl⟩
            rw [hs] at HGS
            have hsn : s.nm = x.nm := by rw [← hs]; rfl
            have HSH3 : Hid (s.q ≠ 0 → x.dr = false ∧ x.nm ∉ ds ∧ s.q = (quW x.wt : Int)) := Lib.hid (by rw [← hs]; unfold shrB; intro h; by_cases hd : x.dr = true ∨ x.nm ∈ ds; (rw [if_pos hd] at h; exact absurd rfl h); (rw [if_neg hd]; exact ⟨by cases hdr : x.dr with | true => exact absurd (.inl hdr) hd | false => rfl, fun h => hd (.inr h), rfl⟩))
            have SX : Hid (∀ W, Below w6.heap.size w6 W → W.cell? ⟨gx, ox + k * 2, none⟩ = some (.string ⟨s.nm.toArray⟩) ∧ W.cell? ⟨gx, ox + k * 2 + 1, none⟩ = some (.int .i64 s.q)) := Lib.hid (fun W h => ⟨(HR4.out.below (bel2 (bel2 HB45.out HW6.out) h)).name HGS.out, (HR4.out.below (bel2 (bel2 HB45.out HW6.out) h)).quanta HGS.out⟩)
            have SY : Hid (∀ W, Below w6.heap.size w6 W → W.cell? ⟨gy, oy + k * 2, none⟩ = some (.string ⟨s.nm.toArray⟩) ∧ W.cell? ⟨gy, oy + k * 2 + 1, none⟩ = some (.int .i64 s.q)) := Lib.hid (fun W h => ⟨(HR5.out.below (bel2 HW6.out h)).name HGS.out, (HR5.out.below (bel2 HW6.out h)).quanta HGS.out⟩)
            have FX : Hid (∀ W, Below w6.heap.size w6 W → W.cell? ⟨wr.heap.size, 0, none⟩ = some (.string ⟨x.nm.toArray⟩) ∧ W.cell? ⟨wr.heap.size, 26, none⟩ = some (.bool x.dr)) := Lib.hid (fun W h => ⟨Blk_10.cell (Blk_10.below HK6.out L6.out h) (bk_nm x), Blk_10.cell (Blk_10.below HK6.out L6.out h) (bk_dr x)⟩)
            have HHAS : Hid (∀ W, Below w6.heap.size w6 W → Calls Try.prog 26 #[.slice A2 len2 cap2, .string ⟨x.nm.toArray⟩] W fun e w' => e = .returned (.bool (decide (x.nm ∈ ds))) ∧ w' = W) := Lib.hid (fun W h => rhas_any cap2 HLB2.out x.nm W (DR.out W (bel2 D6.out h)))
            clear hs
            obtain ⟨q, hq⟩ : ∃ q, quW x.wt = q := ⟨_, rfl⟩
            rw [hq] at HQ HSH3
            clear hq
            go_upto_region 12 with ((with_reducible refine HQ.out.mono ?_); rintro e w7 ⟨rfl, h7⟩; obtain rfl := h7)
            clear d4
            go_cut [102] (fun s wx => s = .bool false ∧ Below w6.heap.size w6 wx)
            case first =>
              refine wp_region_held_drew (S := fun W => Below w6.heap.size w6 W) (by kernel_rfl) ((Below.refl _ _).drew) (fun hHeld => ?_)
              refine tk 0 67 (.slice (some ⟨gx, ox, none⟩) len c4) rfl hHeld ?_
              simp only [Act.put, sA, sZ, sS]
              refine tk 1 68 (.int .i64 (k : Int)) rfl hHeld ?_
              simp only [Act.put, sA, sZ, sS]
              refine tk 2 69 (.pointer (some ⟨gx, ox + k * 2, none⟩)) rfl hHeld ?_
              simp only [Act.put, sA, sZ, sS]
              refine tkY 3 70 (.agg #[.string ⟨s.nm.toArray⟩, .int .i64 s.q]) rfl (Or.inl ⟨by rfl, fun W hW => by obtain ⟨h1, h2⟩ := SX.out W hW; go_simp⟩) hHeld ?_
              simp only [Act.put, sA, sZ, sS]
              refine tk 4 71 (.slice (some ⟨gy, oy, none⟩) len c5) rfl hHeld ?_
              simp only [Act.put, sA, sZ, sS]
              refine tk 5 72 (.int .i64 (k : Int)) rfl hHeld ?_
              simp only [Act.put, sA, sZ, sS]
              refine tk 6 73 (.pointer (some ⟨gy, oy + k * 2, none⟩)) rfl hHeld ?_
              simp only [Act.put, sA, sZ, sS]
              refine tkY 7 74 (.agg #[.string ⟨s.nm.toArray⟩, .int .i64 s.q]) rfl (Or.inl ⟨by rfl, fun W hW => by obtain ⟨h1, h2⟩ := SY.out W hW; go_simp⟩) hHeld ?_
              simp only [Act.put, sA, sZ, sS]
              refine tk 8 75 (.bool false) rfl hHeld ?_
              simp only [Act.put, sA, sZ, sS]
              refine tk 9 76 (.bool false) rfl hHeld ?_
              simp only [Act.put, sA, sZ, sS]
              refine tk 10 77 (.slice (some ⟨gx, ox, none⟩) len c4) rfl hHeld ?_
              simp only [Act.put, sA, sZ, sS]
              refine tk 11 78 (.int .i64 (k : Int)) rfl hHeld ?_
              simp only [Act.put, sA, sZ, sS]
              refine tk 12 79 (.pointer (some ⟨gx, ox + k * 2, none⟩)) rfl hHeld ?_
              simp only [Act.put, sA, sZ, sS]
              refine tk 13 80 (.pointer (some ⟨gx, ox + k * 2 + 1, none⟩)) rfl hHeld ?_
              simp only [Act.put, sA, sZ, sS]
              refine tkY 14 81 (.int .i64 s.q) rfl (Or.inl ⟨by rfl, fun W hW => by obtain ⟨h1, h2⟩ := SX.out W hW; go_simp⟩) hHeld ?_
              simp only [Act.put, sA, sZ, sS]
              by_cases hz : s.q = 0
              · have hzb : (s.q != 0) = false := by rw [hz]; rfl
                refine tk 15 82 (.bool false) rfl hHeld ?_
                simp only [Act.put, sA, sZ, sS]
                refine tk 16 83 (.bool false) rfl hHeld ?_
                simp only [Act.put, sA, sZ, sS]
                refine tkN 17 84 rfl hHeld ?_
                simp only [Act.put, sA, sZ, sS]
                refine tkN 18 85 rfl hHeld ?_
                simp only [Act.put, sA, sZ, sS]
                refine tkN 19 86 rfl hHeld ?_
                simp only [Act.put, sA, sZ, sS]
                refine tkN 20 87 rfl hHeld ?_
                simp only [Act.put, sA, sZ, sS]
                refine tkN 21 88 rfl hHeld ?_
                simp only [Act.put, sA, sZ, sS]
                refine tkN 22 89 rfl hHeld ?_
                simp only [Act.put, sA, sZ, sS]
                refine tkN 23 90 rfl hHeld ?_
                simp only [Act.put, sA, sZ, sS]
                refine tkN 24 91 rfl hHeld ?_
                simp only [Act.put, sA, sZ, sS]
                refine tkN 25 92 rfl hHeld ?_
                simp only [Act.put, sA, sZ, sS]
                refine tkN 26 93 rfl hHeld ?_
                simp only [Act.put, sA, sZ, sS]
                refine tkN 27 94 rfl hHeld ?_
                simp only [Act.put, sA, sZ, sS]
                refine tkN 28 95 rfl hHeld ?_
                simp only [Act.put, sA, sZ, sS]
                refine tkN 29 96 rfl hHeld ?_
                simp only [Act.put, sA, sZ, sS]
                refine tkN 30 97 rfl hHeld ?_
                simp only [Act.put, sA, sZ, sS]
                refine tkN 31 98 rfl hHeld ?_
                simp only [Act.put, sA, sZ, sS]
                refine tkN 32 99 rfl hHeld ?_
                simp only [Act.put, sA, sZ, sS]
                refine tkN 33 100 rfl hHeld ?_
                simp only [Act.put, sA, sZ, sS]
                refine tk 34 101 (.bool false) rfl hHeld ?_
                simp only [Act.put, sA, sZ, sS]
                refine tk 35 102 (.bool false) rfl hHeld ?_
                simp only [Act.put, sA, sZ, sS]
                refine wpAnyH_done (by kernel_rfl) ?_ _
                go_wp2_with fail
                go_meet
                case rel => exact ⟨rfl, hHeld⟩
              · have hzb : (s.q != 0) = true := by rw [bne, beq_eq_false_iff_ne.2 hz]; rfl
                obtain ⟨z1, z2, z3⟩ := HSH3.out hz
                rw [z1] at FX
                have HHB := Lib.hid (fun W (h : Below w6.heap.size w6 W) => HHAS.out W h)
                rw [decide_eq_false z2] at HHB
                have hqq : (s.q != (q : Int)) = false := by rw [z3]; simp
                clear z1 z2 z3 hz
                refine tk 15 82 (.bool true) rfl hHeld ?_
                simp only [Act.put, sA, sZ, sS]
                refine tk 16 83 (.bool true) rfl hHeld ?_
                simp only [Act.put, sA, sZ, sS]
                refine tk 17 84 (.pointer (some ⟨wr.heap.size, 26, none⟩)) rfl hHeld ?_
                simp only [Act.put, sA, sZ, sS]
                refine tkY 18 85 (.bool false) rfl (Or.inl ⟨by rfl, fun W hW => by obtain ⟨h1, h2⟩ := FX.out W hW; go_simp⟩) hHeld ?_
                simp only [Act.put, sA, sZ, sS]
                refine tk 19 86 (.bool false) rfl hHeld ?_
                simp only [Act.put, sA, sZ, sS]
                refine tk 20 87 (.slice A2 len2 cap2) rfl hHeld ?_
                simp only [Act.put, sA, sZ, sS]
                refine tk 21 88 (.pointer (some ⟨wr.heap.size, 0, none⟩)) rfl hHeld ?_
                simp only [Act.put, sA, sZ, sS]
                refine tkY 22 89 (.string ⟨x.nm.toArray⟩) rfl (Or.inl ⟨by rfl, fun W hW => by obtain ⟨h1, h2⟩ := FX.out W hW; go_simp⟩) hHeld ?_
                simp only [Act.put, sA, sZ, sS]
                refine wpAnyH_ready (rs := [23]) (by kernel_rfl) (by simp) (AllReadyH.cons (o := ⟨some 90, _, _, _, _, _⟩) rfl (fun K hK => ?_) AllReadyH.nil)
                go_simp
                refine (HHB.out _ hHeld).mono ?_
                rintro e wx ⟨rfl, hbx⟩
                obtain rfl := hbx
                refine hK.out _ _ (hHeld) (fun hHeld => ?_)
                clear hK K 
                refine tk 24 91 (.bool false) rfl hHeld ?_
                simp only [Act.put, sA, sZ, sS]
                refine tk 25 92 (.bool false) rfl hHeld ?_
                simp only [Act.put, sA, sZ, sS]
                refine tk 26 93 (.slice (some ⟨gx, ox, none⟩) len c4) rfl hHeld ?_
                simp only [Act.put, sA, sZ, sS]
                refine tk 27 94 (.int .i64 (k : Int)) rfl hHeld ?_
                simp only [Act.put, sA, sZ, sS]
                refine tk 28 95 (.pointer (some ⟨gx, ox + k * 2, none⟩)) rfl hHeld ?_
                simp only [Act.put, sA, sZ, sS]
                refine tk 29 96 (.pointer (some ⟨gx, ox + k * 2 + 1, none⟩)) rfl hHeld ?_
                simp only [Act.put, sA, sZ, sS]
                refine tkY 30 97 (.int .i64 s.q) rfl (Or.inl ⟨by rfl, fun W hW => by obtain ⟨h1, h2⟩ := SX.out W hW; go_simp⟩) hHeld ?_
                simp only [Act.put, sA, sZ, sS]
                refine tk 31 98 (.int .i64 (q : Int)) rfl hHeld ?_
                simp only [Act.put, sA, sZ, sS]
                refine tk 32 99 (.bool false) rfl hHeld ?_
                simp only [Act.put, sA, sZ, sS]
                refine tk 33 100 (.bool false) rfl hHeld ?_
                simp only [Act.put, sA, sZ, sS]
                refine tk 34 101 (.bool false) rfl hHeld ?_
                simp only [Act.put, sA, sZ, sS]
                refine tk 35 102 (.bool false) rfl hHeld ?_
                simp only [Act.put, sA, sZ, sS]
                refine wpAnyH_done (by kernel_rfl) ?_ _
                go_wp2_with fail
                go_meet
                case rel => exact ⟨rfl, hHeld⟩
            case rest =>
              obtain ⟨rfl, hcw⟩ := hcut
              have HC6 := Lib.hid hcw
              have DC := Lib.hid (bel2 D6.out hcw)
              clear hcw
              obtain ⟨p0, p1⟩ := PC.out wc DC.out
              obtain ⟨bn, _⟩ := FX.out wc HC6.out
              have HFI : Hid (Calls Try.prog 21 #[.agg #[.int .i64 V, .slice (some ⟨b, off, none⟩) len cap], .string ⟨x.nm.toArray⟩] wc fun e w' => e = .returned (.tuple #[.agg LX, .bool true]) ∧ Below wc.heap.size wc w') := Lib.hid (by
                have h := HSS.out.find (p := ⟨V, xs⟩) cap HCP.out HCM.out HRP.out (Nat.le_trans HN.out (by decide)) x.nm (Nat.le_trans (right_name HRP.out HMX.out) (by decide)) wc (PS.out wc DC.out) (PR.out wc DC.out)
                rw [find_of HRP.out.rise HMX.out] at h
                have h2 : fndV (some x) = .agg LX := by show Value.agg (bkL x).toArray = _; rw [HLX.out]
                rw [h2] at h
                exact h)
              go_upto_region 15 with (first | ((with_reducible refine HFI.out.mono ?_); rintro e w8 ⟨rfl, hb⟩; have HB8 := Lib.hid hb; clear hb p0 p1 bn) | ((with_reducible show wpList _ _ _ (⟨none, .store 36 (.tmp 11) _, _, _, _, _⟩ :: _) _ _); refine wpList_storeNewG rfl 36 (.tmp 11) _ rfl (by rfl) (bkL x) (by rw [HLX.out]; rfl) (by rw [bkL_len]; rfl) (by rw [bkL_len]; exact sizeBk) (bkL_one x) ?_; intro w9 hb hB hz; have HK9 := Lib.hid hb; have HB9 := Lib.hid hB; clear hb hB hz))
              have HC9 := Lib.hid (bel2 HC6.out (bel2 HB8.out HB9.out))
              have R6 := Lib.hid (Blk_10.range (Blk_10.below HK6.out L6.out HC9.out))
              have HSO := Lib.hid (rsame1_any x x w9)
              rw [bkQ_self] at HSO
              unfold bkC at HSO
              rw [HLX.out] at HSO
              go_wp2_with (first | ((with_reducible show wpList _ _ _ (⟨some 113, _, _, _, _, _⟩ :: _) _ _); refine wpList_loadBk (op := ⟨some 113, _, _, _, _, _⟩) _ rfl (by rfl) wr.heap.size 0 (by rfl) x R6.out _ HLX.out ?_) | ((with_reducible show wpList _ _ _ (⟨some 114, _, _, _, _, _⟩ :: _) _ _); refine wpList_loadBk (op := ⟨some 114, _, _, _, _, _⟩) _ rfl (by rfl) w8.heap.size 0 (by rfl) x (Blk_10.range HK9.out) _ HLX.out ?_) | ((with_reducible refine HSO.out.mono ?_); rintro e wa ⟨rfl, hb⟩; have HBa := Lib.hid (bel2 HC9.out hb); clear hb))
              refine ⟨⟨k + 1, HLTN.out, by go_num, bel2 HW6.out HBa.out⟩, ?_⟩
              have := HLTN.out
              simp [RowKit.intOf]
              omega
          · obtain rfl : k = len := by omega
            have h1 : ¬ (k : Int) < (k : Int) := by omega
            clear hlt
            go_wp2_with fail
            go_ret
            exact ⟨rfl, HB.out.trans (HW.out.mono HB.out.size)⟩
    · have HRW : Hid (∀ W, Below Y.heap.size Y W → Calls Try.prog 15 #[.agg #[.int .i64 V, .slice A len cap]] W fun e w' => e = .returned (.bool false) ∧ Below W.heap.size W w') := Lib.hid (fun W h => (rright18_any cap (p := ⟨V, xs⟩) HLB.out (fun x hx => Nat.le_trans (HSH.out x hx) (by decide)) W (PS.out W h) (PR.out W h)).mono (fun e w' ⟨r, he, hr, hb⟩ => ⟨by rw [he]; congr 2; exact Bool.eq_false_iff.2 (fun h => hrp (hr.1 h)), hb⟩))
      clear hrp
      go_enter Try.func7, Try.ntmps7
      go_upto_region 1 with (fail)
      rw [HY.out]
      go_wp2_with (first | ((with_reducible refine (HAW.out Y).mono ?_); rintro e w1 ⟨rfl, hb⟩; have D1 := Lib.hid hb; obtain ⟨p0, p1⟩ := PC.out w1 hb; clear hb) | ((with_reducible refine (HFW.out w1 D1.out).mono ?_); rintro e w2 ⟨rfl, hb⟩; have D2 := Lib.hid (bel2 D1.out hb); clear p0 p1 hb; obtain ⟨p0, p1⟩ := PC.out w2 D2.out) | ((with_reducible refine (HRW.out w2 D2.out).mono ?_); rintro e w3 ⟨rfl, hb⟩; have D3 := Lib.hid (bel2 D2.out hb); clear p0 p1 hb; obtain ⟨p0, p1⟩ := PC.out w3 D3.out))
      refine (HAW.out _).mono ?_
      rintro e wz ⟨rfl, hz⟩
      go_wp2_with fail
      go_ret
      exact ⟨rfl, HB.out.trans ((bel2 D3.out hz).mono HB.out.size)⟩
end Go.Proofs.Ytajmppaodhpmgaa
