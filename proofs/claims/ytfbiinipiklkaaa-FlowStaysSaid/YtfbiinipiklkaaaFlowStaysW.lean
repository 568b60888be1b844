/-
  FlowStays: its walk, the program's contracts a premise.
-/
import Derived.Test.YtfbiinipiklkaaaFLBld
namespace Go.Proofs.Ytfbiinipiklkaaa
set_option maxRecDepth 100000
open Go.RowKit Go.Lib

set_option maxHeartbeats 32000000 in
theorem flowStays_walkW {Rep : RepF} (S : FlowC Rep) (key : List UInt8) (hk : key.length = 16) (A : Option Addr) (len cap : Nat) (xs : List Ac) (hc : len ≤ cap) (hm : cap ≤ maxLen) (hX : ∀ x, x ∈ xs → AcOk x) (w : World) (hI : RdG eAc w w.heap.size A len xs) :
    Calls Try.prog 6 #[.agg (key.map v8).toArray, .slice A len cap] w fun e w' => e = .returned (.bool true) ∧ Below w.heap.size w w' := by
  have HS := Lib.hid S
  have HKL := Lib.hid hk
  have HLB := Lib.hid (show len ≤ 9223372036854775807 by unfold maxLen at hm; omega)
  have HL := Lib.hid hI.len
  obtain ⟨KK, hKK⟩ : ∃ O, (key.map v8).toArray = O := ⟨_, rfl⟩
  have HKK := Lib.hid hKK
  obtain ⟨Y, hY⟩ : ∃ Y, w.alloc (.cells KK 22) = Y := ⟨_, rfl⟩
  have KY : Blk Y 22 w.heap.size (key.map v8) := by rw [← hY, ← hKK]; exact Blk_10.new w _ (key.map v8)
  have hB0 : Below w.heap.size w Y := by rw [← hY]; exact (Below.refl w.heap.size w).alloc (Nat.le_refl _) _
  have PK : Hid (∀ W, Below Y.heap.size Y W → W.rangeAt w.heap.size 0 (key.map v8)) := Lib.hid (fun W h => Blk_10.range (Blk_10.below KY (Blk_10.lt KY) h))
  have HR := Lib.hid (hI.below hB0)
  have HB := Lib.hid hB0
  have PR : Hid (∀ W, Below Y.heap.size Y W → RdG eAc W w.heap.size A len xs) := Lib.hid (fun W h => HR.out.below (h.mono HB.out.size))
  have HY := Lib.hid hY
  have HAW := Lib.hid (fun W => awake_any S W)
  have HNEW := Lib.hid (fun (r : Nat) (h1 : 1 ≤ r) (h2 : r ≤ 4096) (w0 : World) (B : Nat) (W : World) (hB : B ≤ w0.heap.size) (h : Below B w0 W) => tb_new S (w0 := w0) (B := B) (r := r) hk h1 h2 hB h)
  rw [hKK] at HNEW
  obtain ⟨F, hF⟩ : ∃ F, fewN (nmsA xs) = F := ⟨_, rfl⟩
  have HFE := Lib.hid hF
  have HFW : Hid (∀ W, Below Y.heap.size Y W → Calls Try.prog 17 #[.slice A len cap] W fun e w' => e = .returned (.bool F) ∧ w' = W) := Lib.hid (fun W h => by rw [← hF]; exact rfewA_any cap HLB.out W (PR.out W h))
  have HXO := Lib.hid hX
  rw [hKK]

  clear hY hF hI hX hk hm hB0 KY S
  cases F
  · skip
    go_enter Try.func6, Try.ntmps6
    go_upto_region 1 with (fail)
    rw [HY.out]
    go_wp2_with (first | ((with_reducible refine (HAW.out Y).mono ?_); rintro e w1 ⟨rfl, hb⟩; have D1 := Lib.hid hb; clear hb) | ((with_reducible refine (HFW.out w1 D1.out).mono ?_); rintro e wf ⟨rfl, hwf⟩; subst hwf))
    refine (HAW.out _).mono ?_
    rintro e wz ⟨rfl, hz⟩
    go_wp2_with fail
    go_ret
    exact ⟨rfl, HB.out.trans ((bel3 D1.out hz).mono HB.out.size)⟩
  · have hfw := (fewN_iff _).1 HFE.out
    have HN80 := Lib.hid (show len ≤ 80 by have h := hfw.1; rw [nmsA_len, HL.out] at h; exact h)
    have HIN := Lib.hid (fun x (h : x ∈ xs) => (HXO.out x h).fl.inF (by have h9 := hfw.2 _ (List.mem_map_of_mem (f := fun a : Ac => a.fl.nm) h); omega))
    clear hfw
    have NW : Hid (∀ W, Below Y.heap.size Y W → Calls Try.prog 11 #[.agg KK, .int .i64 80] W (NewGave Rep Y Y.heap.size 80 W)) := Lib.hid (fun W h => HNEW.out 80 (by decide) (by decide) Y Y.heap.size W (Nat.le_refl _) h)
    clear HNEW
    go_enter Try.func6, Try.ntmps6
    go_upto_region 1 with (fail)
    rw [HY.out]
    go_wp2_with (first | ((with_reducible refine (HAW.out Y).mono ?_); rintro e w1 ⟨rfl, hb⟩; have D1 := Lib.hid hb; clear hb) | ((with_reducible refine (HFW.out w1 D1.out).mono ?_); rintro e wf ⟨rfl, hwf⟩; subst hwf) | ((with_reducible show wpList _ _ _ (⟨some 22, _, _, _, _, _⟩ :: _) _ _); refine wpList_loadKey (op := ⟨some 22, _, _, _, _, _⟩) _ rfl (by rfl) w.heap.size 0 (by rfl) key HKL.out (PK.out _ D1.out) KK HKK.out ?_) | ((with_reducible refine (NW.out wf D1.out).mono ?_); rintro e w2 ⟨g, fp2, rfl, hT, hb2, hl2⟩; have T2 := Lib.hid hT; clear hT hb2 hl2))
    go_loopw [7] (fun v7 wr => ∃ (k : Nat) (fp : Nat → Prop) (m : List Fw), k ≤ len ∧ v7 = .int .i64 (k : Int) ∧ Hid (Tb Rep Y Y.heap.size (.pointer (some ⟨g, 0, none⟩)) 80 m wr fp) ∧ Hid (Stood xs k m)) (fun v7 _ => len - (RowKit.intOf v7).toNat)
    case atStart => exact ⟨0, fp2, [], Nat.zero_le _, rfl, T2, Lib.hid (Stood.zero xs)⟩
    case round =>
      clear T2
      obtain ⟨k, fp, m, hk, rfl, TT, SS⟩ := hrel
      by_cases hlt : k < len
      · skip
        have h1 : (k : Int) < (len : Int) := by omega
        have h0 : (0 : Int) ≤ (k : Int) := by omega
        have hk9 : k < 9223372036854775807 := by have := HN80.out; omega
        obtain ⟨x, hx⟩ : ∃ x, xs[k]? = some x := ⟨_, List.getElem?_eq_getElem (by rw [HL.out]; exact hlt)⟩
        obtain ⟨b, off, rfl, _⟩ := (PR.out wr TT.out.bel).addr (by omega)
        have RX : Hid (∀ W, Below Y.heap.size Y W → W.rangeAt b (off + k * 49) (acL x)) := Lib.hid (fun W hW => (PR.out W hW).range hx)
        have HIX := Lib.hid (HIN.out x (List.mem_of_getElem? hx))
        obtain ⟨J, hJ⟩ : ∃ J, (tuL x.fl.k).toArray = J := ⟨_, rfl⟩
        have HJ := Lib.hid hJ
        have HXX := Lib.hid hx
        have HLT := Lib.hid hlt
        have CK : Hid (∀ W, Below Y.heap.size Y W → W.cell? ⟨b, off + k * 49, none⟩ = some (.int .i64 x.kind)) := Lib.hid (fun W hW => (PR.out W hW).cell hx 0 (ac_kind x))
        obtain ⟨O, hO⟩ : ∃ O, (fwL x.fl).toArray = O := ⟨_, rfl⟩
        have HO := Lib.hid hO
        obtain ⟨kd, hkd⟩ : ∃ z, x.kind = z := ⟨_, rfl⟩
        rw [hkd] at CK
        have HKD := Lib.hid hkd
        have SN := Lib.hid (SS.out.next hx (by have := HN80.out; omega))
        clear hx hO hJ hlt hk hkd SS
        have c0 := CK.out wr TT.out.bel
        by_cases e0 : kd = 0
        · subst e0
          have HP : Hid (Calls Try.prog 19 #[(.pointer (some ⟨g, 0, none⟩)), .agg O] wr (MovGave Rep Y Y.heap.size (.pointer (some ⟨g, 0, none⟩)) 80 (putT 80 m x.fl) wr fp (putV 80 m x.fl))) := Lib.hid (by have h := TT.out.put HS.out HIX.out; rwa [fw_c HO.out] at h)
          go_wp2_with (first | ((with_reducible show wpList _ _ _ (⟨some 45, _, _, _, _, _⟩ :: _) _ _); refine wpList_loadFw (op := ⟨some 45, _, _, _, _, _⟩) _ rfl (by rfl) b (off + k * 49 + 1) (by rfl) x.fl (ac_fw (RX.out _ TT.out.bel)) O HO.out ?_) | ((with_reducible refine HP.out.mono ?_); rintro e w8 ⟨rfl, fp8, hT, hkp, hs⟩; have T8 := Lib.hid hT; have c8 := CK.out w8 hT.bel; clear hT hkp hs))
          go_roundw
          case rel => exact ⟨k + 1, fp8, _, HLT.out, by have := HLT.out; go_num, T8, Lib.hid (by have h := SN.out; rwa [stepA_put HKD.out] at h)⟩
          case measure =>
            have := HLT.out
            simp [RowKit.intOf]
            omega
        · by_cases e2 : kd = 2
          · subst e2
            clear e0
            have HP : Hid (Calls Try.prog 21 #[(.pointer (some ⟨g, 0, none⟩)), .agg J] wr (MovGave Rep Y Y.heap.size (.pointer (some ⟨g, 0, none⟩)) 80 (outK m x.fl.k) wr fp (.bool (hasK m x.fl.k).isSome))) := Lib.hid (by have h := TT.out.drop HS.out HIX.out.t; rwa [key_c HJ.out] at h)
            go_wp2_with (first | ((with_reducible show wpList _ _ _ (⟨some 59, _, _, _, _, _⟩ :: _) _ _); refine wpList_loadKeyF (op := ⟨some 59, _, _, _, _, _⟩) _ rfl (by rfl) b (off + k * 49 + 1) (by rfl) x.fl (ac_fw (RX.out _ TT.out.bel)) J HJ.out ?_) | ((with_reducible refine HP.out.mono ?_); rintro e w8 ⟨rfl, fp8, hT, hkp, hs⟩; have T8 := Lib.hid hT; have c8 := CK.out w8 hT.bel; clear hT hkp hs))
            go_roundw
            case rel => exact ⟨k + 1, fp8, _, HLT.out, by have := HLT.out; go_num, T8, Lib.hid (by have h := SN.out; rwa [stepA_drop HKD.out] at h)⟩
            case measure =>
              have := HLT.out
              simp [RowKit.intOf]
              omega
          · have e0b : (kd == 0) = false := by simpa using e0
            have e2b : (kd == 2) = false := by simpa using e2
            have SZ : Hid (Stood xs (k + 1) m) := Lib.hid (by have h := SN.out; rwa [stepA_none (by rw [HKD.out]; exact e0) (by rw [HKD.out]; exact e2)] at h)
            go_wp2_with fail
            go_roundw
            case rel => exact ⟨k + 1, fp, m, HLT.out, by have := HLT.out; go_num, TT, SZ⟩
            case measure =>
              have := HLT.out
              simp [RowKit.intOf]
              omega
      · obtain rfl : len = k := by omega
        have h1 : ¬ (len : Int) < (len : Int) := by omega
        clear hlt hk
        go_wp2_with fail
        go_loopw [8] (fun v8 wr => ∃ (i : Nat) (fq : Nat → Prop), i ≤ len ∧ v8 = .int .i64 (i : Int) ∧ Hid (Tb Rep Y Y.heap.size (.pointer (some ⟨g, 0, none⟩)) 80 m wr fq)) (fun v8 _ => len - (RowKit.intOf v8).toNat)
        case atStart => exact ⟨0, fp, Nat.zero_le _, rfl, TT⟩
        case round =>
          clear TT h1
          obtain ⟨i, fq, hi, rfl, TQ⟩ := hrel
          by_cases hli : i < len
          · skip
            have h1 : (i : Int) < (len : Int) := by omega
            have h0 : (0 : Int) ≤ (i : Int) := by omega
            have hk9 : i < 9223372036854775807 := by have := HN80.out; omega
            obtain ⟨x, hx⟩ : ∃ x, xs[i]? = some x := ⟨_, List.getElem?_eq_getElem (by rw [HL.out]; exact hli)⟩
            obtain ⟨b, off, rfl, _⟩ := (PR.out wr TQ.out.bel).addr (by omega)
            have RX : Hid (∀ W, Below Y.heap.size Y W → W.rangeAt b (off + i * 49) (acL x)) := Lib.hid (fun W hW => (PR.out W hW).range hx)
            have HIX := Lib.hid (HIN.out x (List.mem_of_getElem? hx))
            obtain ⟨J, hJ⟩ : ∃ J, (tuL x.fl.k).toArray = J := ⟨_, rfl⟩
            have HJ := Lib.hid hJ
            have HXX := Lib.hid hx
            have HLT := Lib.hid hli
            clear hx hJ hli hi
            go_upto_region 18 with (fail)
            go_loopw [9, 10] (fun v9 v10 wr => ∃ (k : Nat) (z : Int), k ≤ len ∧ v9 = .int .i64 z ∧ v10 = .int .i64 (k : Int) ∧ Hid (LastA xs x.fl.k k z) ∧ Hid (Tb Rep Y Y.heap.size (.pointer (some ⟨g, 0, none⟩)) 80 m wr fq)) (fun _ v10 _ => len - (RowKit.intOf v10).toNat)
            case atStart => exact ⟨0, -1, Nat.zero_le _, rfl, rfl, Lib.hid (LastA.zero _ _), TQ⟩
            case round =>
              clear TQ
              obtain ⟨k, z, hk, rfl, rfl, LL, TK⟩ := hrel
              by_cases hlk : k < len
              · have h2 : (k : Int) < (len : Int) := by omega
                have h3 : (0 : Int) ≤ (k : Int) := by omega
                have hk8 : k < 9223372036854775807 := by have := HN80.out; omega
                obtain ⟨y, hy⟩ : ∃ y, xs[k]? = some y := ⟨_, List.getElem?_eq_getElem (by rw [HL.out]; exact hlk)⟩
                have PT : Hid (∀ W, Below wr.heap.size wr W → Below Y.heap.size Y W) := Lib.hid (fun W hW => TK.out.bel.trans (hW.mono TK.out.big))
                have RY : Hid (∀ W, Below Y.heap.size Y W → W.rangeAt b (off + k * 49) (acL y)) := Lib.hid (fun W hW => (PR.out W hW).range hy)
                have CK : Hid (∀ W, Below Y.heap.size Y W → W.cell? ⟨b, off + k * 49, none⟩ = some (.int .i64 y.kind)) := Lib.hid (fun W hW => (PR.out W hW).cell hy 0 (ac_kind y))
                have HIY := Lib.hid (HIN.out y (List.mem_of_getElem? hy))
                obtain ⟨G, hG⟩ : ∃ J, (tuL y.fl.k).toArray = J := ⟨_, rfl⟩
                have HG := Lib.hid hG
                obtain ⟨O, hO⟩ : ∃ O, (fwL y.fl).toArray = O := ⟨_, rfl⟩
                have HO := Lib.hid hO
                obtain ⟨kd, hkd⟩ : ∃ z, y.kind = z := ⟨_, rfl⟩
                rw [hkd] at CK
                have HKD := Lib.hid hkd
                obtain ⟨f, hf⟩ : ∃ f, tuQ y.fl.k x.fl.k = f := ⟨_, rfl⟩
                have HF := Lib.hid hf
                have HNQ : Hid (∀ W : World, (binOp .eql 26 (.agg G) (.agg J)).run Try.prog W = .ok (.bool f) W) := Lib.hid (fun W => by have h := eq_keys HG.out HJ.out W; rwa [HF.out] at h)
                obtain ⟨rf, hrf⟩ : ∃ f, rightF y.fl = f := ⟨_, rfl⟩
                have HRF := Lib.hid hrf
                have HRG : Hid (∀ W, Calls Try.prog 14 #[.agg O] W fun e w' => e = .returned (.bool rf) ∧ Below W.heap.size W w') := Lib.hid (fun W => by have h := rright21_any y.fl (by have := HIY.out.nm; omega) W; rwa [fw_c HO.out, HRF.out] at h)
                have HYY := Lib.hid hy
                have HLK := Lib.hid hlk
                clear hy hG hO hkd hf hrf hlk hk
                go_upto_region 20 with (fail)
                cases f
                · skip
                  refine wp_region_held_drew (S := fun W => Below wr.heap.size wr W) (by kernel_rfl) ((Below.refl _ _).drew) (fun hHeld => ?_)
                  refine tk 0 73 (.slice (some ⟨b, off, none⟩) len cap) rfl hHeld ?_
                  simp only [Act.put, sA, sZ, sS]
                  refine tk 1 74 (.int .i64 (k : Int)) rfl hHeld ?_
                  simp only [Act.put, sA, sZ, sS]
                  refine tk 2 75 (.pointer (some ⟨b, off + k * 49, none⟩)) rfl hHeld ?_
                  simp only [Act.put, sA, sZ, sS]
                  refine tk 3 76 (.pointer (some ⟨b, off + k * 49 + 1, none⟩)) rfl hHeld ?_
                  simp only [Act.put, sA, sZ, sS]
                  refine tk 4 77 (.pointer (some ⟨b, off + k * 49 + 1, none⟩)) rfl hHeld ?_
                  simp only [Act.put, sA, sZ, sS]
                  refine tkY 5 78 (.agg G) rfl (yields_loadTu (by rfl) _ rfl b (off + k * 49 + 1) (by rfl) y.fl (fun W hW => ac_fw (RY.out W (PT.out W hW))) G HG.out) hHeld ?_
                  simp only [Act.put, sA, sZ, sS]
                  refine tk 6 79 (.slice (some ⟨b, off, none⟩) len cap) rfl hHeld ?_
                  simp only [Act.put, sA, sZ, sS]
                  refine tk 7 80 (.int .i64 (i : Int)) rfl hHeld ?_
                  simp only [Act.put, sA, sZ, sS]
                  refine tk 8 81 (.pointer (some ⟨b, off + i * 49, none⟩)) rfl hHeld ?_
                  simp only [Act.put, sA, sZ, sS]
                  refine tk 9 82 (.pointer (some ⟨b, off + i * 49 + 1, none⟩)) rfl hHeld ?_
                  simp only [Act.put, sA, sZ, sS]
                  refine tk 10 83 (.pointer (some ⟨b, off + i * 49 + 1, none⟩)) rfl hHeld ?_
                  simp only [Act.put, sA, sZ, sS]
                  refine tkY 11 84 (.agg J) rfl (yields_loadTu (by rfl) _ rfl b (off + i * 49 + 1) (by rfl) x.fl (fun W hW => ac_fw (RX.out W (PT.out W hW))) J HJ.out) hHeld ?_
                  simp only [Act.put, sA, sZ, sS]
                  refine tkY 12 85 (.bool false) rfl (yields_cmpS (by rfl) .eql 26 _ _ _ rfl G J (by rfl) (by rfl) guard_tu' false HNQ.out) hHeld ?_
                  simp only [Act.put, sA, sZ, sS]
                  refine tk 13 86 (.bool false) rfl hHeld ?_
                  simp only [Act.put, sA, sZ, sS]
                  refine tkN 14 87 rfl hHeld ?_
                  simp only [Act.put, sA, sZ, sS]
                  refine tkN 15 88 rfl hHeld ?_
                  simp only [Act.put, sA, sZ, sS]
                  refine tkN 16 89 rfl hHeld ?_
                  simp only [Act.put, sA, sZ, sS]
                  refine tkN 17 90 rfl hHeld ?_
                  simp only [Act.put, sA, sZ, sS]
                  refine tkN 18 91 rfl hHeld ?_
                  simp only [Act.put, sA, sZ, sS]
                  refine tkN 19 92 rfl hHeld ?_
                  simp only [Act.put, sA, sZ, sS]
                  refine tkN 20 93 rfl hHeld ?_
                  simp only [Act.put, sA, sZ, sS]
                  refine tkN 21 94 rfl hHeld ?_
                  simp only [Act.put, sA, sZ, sS]
                  refine tkN 22 95 rfl hHeld ?_
                  simp only [Act.put, sA, sZ, sS]
                  refine tkN 23 96 rfl hHeld ?_
                  simp only [Act.put, sA, sZ, sS]
                  refine tkN 24 97 rfl hHeld ?_
                  simp only [Act.put, sA, sZ, sS]
                  refine tkN 25 98 rfl hHeld ?_
                  simp only [Act.put, sA, sZ, sS]
                  refine tkN 26 99 rfl hHeld ?_
                  simp only [Act.put, sA, sZ, sS]
                  refine tkN 27 100 rfl hHeld ?_
                  simp only [Act.put, sA, sZ, sS]
                  refine tkN 28 101 rfl hHeld ?_
                  simp only [Act.put, sA, sZ, sS]
                  refine tkN 29 102 rfl hHeld ?_
                  simp only [Act.put, sA, sZ, sS]
                  refine tkN 30 103 rfl hHeld ?_
                  simp only [Act.put, sA, sZ, sS]
                  refine tkN 31 104 rfl hHeld ?_
                  simp only [Act.put, sA, sZ, sS]
                  refine tkN 32 105 rfl hHeld ?_
                  simp only [Act.put, sA, sZ, sS]
                  refine tkN 33 106 rfl hHeld ?_
                  simp only [Act.put, sA, sZ, sS]
                  refine tkN 34 107 rfl hHeld ?_
                  simp only [Act.put, sA, sZ, sS]
                  refine tkN 35 108 rfl hHeld ?_
                  simp only [Act.put, sA, sZ, sS]
                  refine tk 36 109 (.bool false) rfl hHeld ?_
                  simp only [Act.put, sA, sZ, sS]
                  have TE := Lib.hid (TK.out.below HS.out hHeld)
                  clear hHeld TK PT
                  refine wpAnyH_done (by kernel_rfl) ?_ _
                  go_wp2_with fail
                  go_roundw
                  case rel => exact ⟨k + 1, z, HLK.out, rfl, by have := HLK.out; go_num, Lib.hid (LL.out.miss HYY.out (by unfold hitA; rw [HF.out]; rfl)), TE⟩
                  case measure =>
                    have := HLK.out
                    simp [RowKit.intOf]
                    omega
                · by_cases e2 : kd = 2
                  · subst e2
                    refine wp_region_held_drew (S := fun W => Below wr.heap.size wr W) (by kernel_rfl) ((Below.refl _ _).drew) (fun hHeld => ?_)
                    refine tk 0 73 (.slice (some ⟨b, off, none⟩) len cap) rfl hHeld ?_
                    simp only [Act.put, sA, sZ, sS]
                    refine tk 1 74 (.int .i64 (k : Int)) rfl hHeld ?_
                    simp only [Act.put, sA, sZ, sS]
                    refine tk 2 75 (.pointer (some ⟨b, off + k * 49, none⟩)) rfl hHeld ?_
                    simp only [Act.put, sA, sZ, sS]
                    refine tk 3 76 (.pointer (some ⟨b, off + k * 49 + 1, none⟩)) rfl hHeld ?_
                    simp only [Act.put, sA, sZ, sS]
                    refine tk 4 77 (.pointer (some ⟨b, off + k * 49 + 1, none⟩)) rfl hHeld ?_
                    simp only [Act.put, sA, sZ, sS]
                    refine tkY 5 78 (.agg G) rfl (yields_loadTu (by rfl) _ rfl b (off + k * 49 + 1) (by rfl) y.fl (fun W hW => ac_fw (RY.out W (PT.out W hW))) G HG.out) hHeld ?_
                    simp only [Act.put, sA, sZ, sS]
                    refine tk 6 79 (.slice (some ⟨b, off, none⟩) len cap) rfl hHeld ?_
                    simp only [Act.put, sA, sZ, sS]
                    refine tk 7 80 (.int .i64 (i : Int)) rfl hHeld ?_
                    simp only [Act.put, sA, sZ, sS]
                    refine tk 8 81 (.pointer (some ⟨b, off + i * 49, none⟩)) rfl hHeld ?_
                    simp only [Act.put, sA, sZ, sS]
                    refine tk 9 82 (.pointer (some ⟨b, off + i * 49 + 1, none⟩)) rfl hHeld ?_
                    simp only [Act.put, sA, sZ, sS]
                    refine tk 10 83 (.pointer (some ⟨b, off + i * 49 + 1, none⟩)) rfl hHeld ?_
                    simp only [Act.put, sA, sZ, sS]
                    refine tkY 11 84 (.agg J) rfl (yields_loadTu (by rfl) _ rfl b (off + i * 49 + 1) (by rfl) x.fl (fun W hW => ac_fw (RX.out W (PT.out W hW))) J HJ.out) hHeld ?_
                    simp only [Act.put, sA, sZ, sS]
                    refine tkY 12 85 (.bool true) rfl (yields_cmpS (by rfl) .eql 26 _ _ _ rfl G J (by rfl) (by rfl) guard_tu' true HNQ.out) hHeld ?_
                    simp only [Act.put, sA, sZ, sS]
                    refine tk 13 86 (.bool true) rfl hHeld ?_
                    simp only [Act.put, sA, sZ, sS]
                    refine tk 14 87 (.slice (some ⟨b, off, none⟩) len cap) rfl hHeld ?_
                    simp only [Act.put, sA, sZ, sS]
                    refine tk 15 88 (.int .i64 (k : Int)) rfl hHeld ?_
                    simp only [Act.put, sA, sZ, sS]
                    refine tk 16 89 (.pointer (some ⟨b, off + k * 49, none⟩)) rfl hHeld ?_
                    simp only [Act.put, sA, sZ, sS]
                    refine tk 17 90 (.pointer (some ⟨b, off + k * 49, none⟩)) rfl hHeld ?_
                    simp only [Act.put, sA, sZ, sS]
                    refine tkY 18 91 (.int .i64 2) rfl (Or.inl ⟨by rfl, fun W hW => by have hc := CK.out W (PT.out W hW); go_simp⟩) hHeld ?_
                    simp only [Act.put, sA, sZ, sS]
                    refine tk 19 92 (.bool true) rfl hHeld ?_
                    simp only [Act.put, sA, sZ, sS]
                    refine tk 20 93 (.bool true) rfl hHeld ?_
                    simp only [Act.put, sA, sZ, sS]
                    refine tkN 21 94 rfl hHeld ?_
                    simp only [Act.put, sA, sZ, sS]
                    refine tkN 22 95 rfl hHeld ?_
                    simp only [Act.put, sA, sZ, sS]
                    refine tkN 23 96 rfl hHeld ?_
                    simp only [Act.put, sA, sZ, sS]
                    refine tkN 24 97 rfl hHeld ?_
                    simp only [Act.put, sA, sZ, sS]
                    refine tkN 25 98 rfl hHeld ?_
                    simp only [Act.put, sA, sZ, sS]
                    refine tkN 26 99 rfl hHeld ?_
                    simp only [Act.put, sA, sZ, sS]
                    refine tkN 27 100 rfl hHeld ?_
                    simp only [Act.put, sA, sZ, sS]
                    refine tkN 28 101 rfl hHeld ?_
                    simp only [Act.put, sA, sZ, sS]
                    refine tkN 29 102 rfl hHeld ?_
                    simp only [Act.put, sA, sZ, sS]
                    refine tkN 30 103 rfl hHeld ?_
                    simp only [Act.put, sA, sZ, sS]
                    refine tkN 31 104 rfl hHeld ?_
                    simp only [Act.put, sA, sZ, sS]
                    refine tkN 32 105 rfl hHeld ?_
                    simp only [Act.put, sA, sZ, sS]
                    refine tkN 33 106 rfl hHeld ?_
                    simp only [Act.put, sA, sZ, sS]
                    refine tkN 34 107 rfl hHeld ?_
                    simp only [Act.put, sA, sZ, sS]
                    refine tk 35 108 (.bool true) rfl hHeld ?_
                    simp only [Act.put, sA, sZ, sS]
                    refine tk 36 109 (.bool true) rfl hHeld ?_
                    simp only [Act.put, sA, sZ, sS]
                    have TE := Lib.hid (TK.out.below HS.out hHeld)
                    clear hHeld TK PT
                    refine wpAnyH_done (by kernel_rfl) ?_ _
                    go_wp2_with fail
                    go_roundw
                    case rel => exact ⟨k + 1, (k : Int), HLK.out, rfl, by have := HLK.out; go_num, Lib.hid (LastA.hit HYY.out (by unfold hitA; rw [HF.out, HKD.out]; rfl)), TE⟩
                    case measure =>
                      have := HLK.out
                      simp [RowKit.intOf]
                      omega
                  · by_cases e0 : kd = 0
                    · subst e0
                      clear e2
                      refine wp_region_held_drew (S := fun W => Below wr.heap.size wr W) (by kernel_rfl) ((Below.refl _ _).drew) (fun hHeld => ?_)
                      refine tk 0 73 (.slice (some ⟨b, off, none⟩) len cap) rfl hHeld ?_
                      simp only [Act.put, sA, sZ, sS]
                      refine tk 1 74 (.int .i64 (k : Int)) rfl hHeld ?_
                      simp only [Act.put, sA, sZ, sS]
                      refine tk 2 75 (.pointer (some ⟨b, off + k * 49, none⟩)) rfl hHeld ?_
                      simp only [Act.put, sA, sZ, sS]
                      refine tk 3 76 (.pointer (some ⟨b, off + k * 49 + 1, none⟩)) rfl hHeld ?_
                      simp only [Act.put, sA, sZ, sS]
                      refine tk 4 77 (.pointer (some ⟨b, off + k * 49 + 1, none⟩)) rfl hHeld ?_
                      simp only [Act.put, sA, sZ, sS]
                      refine tkY 5 78 (.agg G) rfl (yields_loadTu (by rfl) _ rfl b (off + k * 49 + 1) (by rfl) y.fl (fun W hW => ac_fw (RY.out W (PT.out W hW))) G HG.out) hHeld ?_
                      simp only [Act.put, sA, sZ, sS]
                      refine tk 6 79 (.slice (some ⟨b, off, none⟩) len cap) rfl hHeld ?_
                      simp only [Act.put, sA, sZ, sS]
                      refine tk 7 80 (.int .i64 (i : Int)) rfl hHeld ?_
                      simp only [Act.put, sA, sZ, sS]
                      refine tk 8 81 (.pointer (some ⟨b, off + i * 49, none⟩)) rfl hHeld ?_
                      simp only [Act.put, sA, sZ, sS]
                      refine tk 9 82 (.pointer (some ⟨b, off + i * 49 + 1, none⟩)) rfl hHeld ?_
                      simp only [Act.put, sA, sZ, sS]
                      refine tk 10 83 (.pointer (some ⟨b, off + i * 49 + 1, none⟩)) rfl hHeld ?_
                      simp only [Act.put, sA, sZ, sS]
                      refine tkY 11 84 (.agg J) rfl (yields_loadTu (by rfl) _ rfl b (off + i * 49 + 1) (by rfl) x.fl (fun W hW => ac_fw (RX.out W (PT.out W hW))) J HJ.out) hHeld ?_
                      simp only [Act.put, sA, sZ, sS]
                      refine tkY 12 85 (.bool true) rfl (yields_cmpS (by rfl) .eql 26 _ _ _ rfl G J (by rfl) (by rfl) guard_tu' true HNQ.out) hHeld ?_
                      simp only [Act.put, sA, sZ, sS]
                      refine tk 13 86 (.bool true) rfl hHeld ?_
                      simp only [Act.put, sA, sZ, sS]
                      refine tk 14 87 (.slice (some ⟨b, off, none⟩) len cap) rfl hHeld ?_
                      simp only [Act.put, sA, sZ, sS]
                      refine tk 15 88 (.int .i64 (k : Int)) rfl hHeld ?_
                      simp only [Act.put, sA, sZ, sS]
                      refine tk 16 89 (.pointer (some ⟨b, off + k * 49, none⟩)) rfl hHeld ?_
                      simp only [Act.put, sA, sZ, sS]
                      refine tk 17 90 (.pointer (some ⟨b, off + k * 49, none⟩)) rfl hHeld ?_
                      simp only [Act.put, sA, sZ, sS]
                      refine tkY 18 91 (.int .i64 0) rfl (Or.inl ⟨by rfl, fun W hW => by have hc := CK.out W (PT.out W hW); go_simp⟩) hHeld ?_
                      simp only [Act.put, sA, sZ, sS]
                      refine tk 19 92 (.bool false) rfl hHeld ?_
                      simp only [Act.put, sA, sZ, sS]
                      refine tk 20 93 (.bool false) rfl hHeld ?_
                      simp only [Act.put, sA, sZ, sS]
                      refine tk 21 94 (.slice (some ⟨b, off, none⟩) len cap) rfl hHeld ?_
                      simp only [Act.put, sA, sZ, sS]
                      refine tk 22 95 (.int .i64 (k : Int)) rfl hHeld ?_
                      simp only [Act.put, sA, sZ, sS]
                      refine tk 23 96 (.pointer (some ⟨b, off + k * 49, none⟩)) rfl hHeld ?_
                      simp only [Act.put, sA, sZ, sS]
                      refine tk 24 97 (.pointer (some ⟨b, off + k * 49, none⟩)) rfl hHeld ?_
                      simp only [Act.put, sA, sZ, sS]
                      refine tkY 25 98 (.int .i64 0) rfl (Or.inl ⟨by rfl, fun W hW => by have hc := CK.out W (PT.out W hW); go_simp⟩) hHeld ?_
                      simp only [Act.put, sA, sZ, sS]
                      refine tk 26 99 (.bool true) rfl hHeld ?_
                      simp only [Act.put, sA, sZ, sS]
                      refine tk 27 100 (.bool true) rfl hHeld ?_
                      simp only [Act.put, sA, sZ, sS]
                      refine tk 28 101 (.slice (some ⟨b, off, none⟩) len cap) rfl hHeld ?_
                      simp only [Act.put, sA, sZ, sS]
                      refine tk 29 102 (.int .i64 (k : Int)) rfl hHeld ?_
                      simp only [Act.put, sA, sZ, sS]
                      refine tk 30 103 (.pointer (some ⟨b, off + k * 49, none⟩)) rfl hHeld ?_
                      simp only [Act.put, sA, sZ, sS]
                      refine tk 31 104 (.pointer (some ⟨b, off + k * 49 + 1, none⟩)) rfl hHeld ?_
                      simp only [Act.put, sA, sZ, sS]
                      refine tkY 32 105 (.agg O) rfl (yields_loadFw (by rfl) _ rfl b (off + k * 49 + 1) (by rfl) y.fl (fun W hW => ac_fw (RY.out W (PT.out W hW))) O HO.out) hHeld ?_
                      simp only [Act.put, sA, sZ, sS]
                      refine wpAnyH_ready (rs := [33]) (by kernel_rfl) (by simp) (AllReadyH.cons (o := ⟨some 106, _, _, _, _, _⟩) rfl (fun K hK => ?_) AllReadyH.nil)
                      go_simp
                      refine (HRG.out _).mono ?_
                      rintro e wq ⟨rfl, hq⟩
                      have DQ := Lib.hid (hHeld.trans (hq.mono hHeld.size))
                      refine hK.out _ _ (DQ.out) (fun hHeld => ?_)
                      clear hK K hq DQ
                      refine tk 34 107 (.bool rf) rfl hHeld ?_
                      simp only [Act.put, sA, sZ, sS]
                      refine tk 35 108 (.bool rf) rfl hHeld ?_
                      simp only [Act.put, sA, sZ, sS]
                      refine tk 36 109 (.bool rf) rfl hHeld ?_
                      simp only [Act.put, sA, sZ, sS]
                      have TE := Lib.hid (TK.out.below HS.out hHeld)
                      clear hHeld TK PT
                      refine wpAnyH_done (by kernel_rfl) ?_ _
                      cases rf
                      · skip
                        go_wp2_with fail
                        go_roundw
                        case rel => exact ⟨k + 1, z, HLK.out, rfl, by have := HLK.out; go_num, Lib.hid (LL.out.miss HYY.out (by unfold hitA; rw [HF.out, HKD.out, HRF.out]; rfl)), TE⟩
                        case measure =>
                          have := HLK.out
                          simp [RowKit.intOf]
                          omega
                      · skip
                        go_wp2_with fail
                        go_roundw
                        case rel => exact ⟨k + 1, (k : Int), HLK.out, rfl, by have := HLK.out; go_num, Lib.hid (LastA.hit HYY.out (by unfold hitA; rw [HF.out, HKD.out, HRF.out]; rfl)), TE⟩
                        case measure =>
                          have := HLK.out
                          simp [RowKit.intOf]
                          omega
                    · have e0b : (kd == 0) = false := by simpa using e0
                      have e2b : (kd == 2) = false := by simpa using e2
                      have HM : Hid (hitA x.fl.k y = false) := Lib.hid (by unfold hitA; rw [HF.out, HKD.out]; simp [e0, e2])
                      refine wp_region_held_drew (S := fun W => Below wr.heap.size wr W) (by kernel_rfl) ((Below.refl _ _).drew) (fun hHeld => ?_)
                      refine tk 0 73 (.slice (some ⟨b, off, none⟩) len cap) rfl hHeld ?_
                      simp only [Act.put, sA, sZ, sS]
                      refine tk 1 74 (.int .i64 (k : Int)) rfl hHeld ?_
                      simp only [Act.put, sA, sZ, sS]
                      refine tk 2 75 (.pointer (some ⟨b, off + k * 49, none⟩)) rfl hHeld ?_
                      simp only [Act.put, sA, sZ, sS]
                      refine tk 3 76 (.pointer (some ⟨b, off + k * 49 + 1, none⟩)) rfl hHeld ?_
                      simp only [Act.put, sA, sZ, sS]
                      refine tk 4 77 (.pointer (some ⟨b, off + k * 49 + 1, none⟩)) rfl hHeld ?_
                      simp only [Act.put, sA, sZ, sS]
                      refine tkY 5 78 (.agg G) rfl (yields_loadTu (by rfl) _ rfl b (off + k * 49 + 1) (by rfl) y.fl (fun W hW => ac_fw (RY.out W (PT.out W hW))) G HG.out) hHeld ?_
                      simp only [Act.put, sA, sZ, sS]
                      refine tk 6 79 (.slice (some ⟨b, off, none⟩) len cap) rfl hHeld ?_
                      simp only [Act.put, sA, sZ, sS]
                      refine tk 7 80 (.int .i64 (i : Int)) rfl hHeld ?_
                      simp only [Act.put, sA, sZ, sS]
                      refine tk 8 81 (.pointer (some ⟨b, off + i * 49, none⟩)) rfl hHeld ?_
                      simp only [Act.put, sA, sZ, sS]
                      refine tk 9 82 (.pointer (some ⟨b, off + i * 49 + 1, none⟩)) rfl hHeld ?_
                      simp only [Act.put, sA, sZ, sS]
                      refine tk 10 83 (.pointer (some ⟨b, off + i * 49 + 1, none⟩)) rfl hHeld ?_
                      simp only [Act.put, sA, sZ, sS]
                      refine tkY 11 84 (.agg J) rfl (yields_loadTu (by rfl) _ rfl b (off + i * 49 + 1) (by rfl) x.fl (fun W hW => ac_fw (RX.out W (PT.out W hW))) J HJ.out) hHeld ?_
                      simp only [Act.put, sA, sZ, sS]
                      refine tkY 12 85 (.bool true) rfl (yields_cmpS (by rfl) .eql 26 _ _ _ rfl G J (by rfl) (by rfl) guard_tu' true HNQ.out) hHeld ?_
                      simp only [Act.put, sA, sZ, sS]
                      refine tk 13 86 (.bool true) rfl hHeld ?_
                      simp only [Act.put, sA, sZ, sS]
                      refine tk 14 87 (.slice (some ⟨b, off, none⟩) len cap) rfl hHeld ?_
                      simp only [Act.put, sA, sZ, sS]
                      refine tk 15 88 (.int .i64 (k : Int)) rfl hHeld ?_
                      simp only [Act.put, sA, sZ, sS]
                      refine tk 16 89 (.pointer (some ⟨b, off + k * 49, none⟩)) rfl hHeld ?_
                      simp only [Act.put, sA, sZ, sS]
                      refine tk 17 90 (.pointer (some ⟨b, off + k * 49, none⟩)) rfl hHeld ?_
                      simp only [Act.put, sA, sZ, sS]
                      refine tkY 18 91 (.int .i64 kd) rfl (Or.inl ⟨by rfl, fun W hW => by have hc := CK.out W (PT.out W hW); go_simp⟩) hHeld ?_
                      simp only [Act.put, sA, sZ, sS]
                      refine tk 19 92 (.bool false) rfl hHeld ?_
                      simp only [Act.put, sA, sZ, sS]
                      refine tk 20 93 (.bool false) rfl hHeld ?_
                      simp only [Act.put, sA, sZ, sS]
                      refine tk 21 94 (.slice (some ⟨b, off, none⟩) len cap) rfl hHeld ?_
                      simp only [Act.put, sA, sZ, sS]
                      refine tk 22 95 (.int .i64 (k : Int)) rfl hHeld ?_
                      simp only [Act.put, sA, sZ, sS]
                      refine tk 23 96 (.pointer (some ⟨b, off + k * 49, none⟩)) rfl hHeld ?_
                      simp only [Act.put, sA, sZ, sS]
                      refine tk 24 97 (.pointer (some ⟨b, off + k * 49, none⟩)) rfl hHeld ?_
                      simp only [Act.put, sA, sZ, sS]
                      refine tkY 25 98 (.int .i64 kd) rfl (Or.inl ⟨by rfl, fun W hW => by have hc := CK.out W (PT.out W hW); go_simp⟩) hHeld ?_
                      simp only [Act.put, sA, sZ, sS]
                      refine tk 26 99 (.bool false) rfl hHeld ?_
                      simp only [Act.put, sA, sZ, sS]
                      refine tk 27 100 (.bool false) rfl hHeld ?_
                      simp only [Act.put, sA, sZ, sS]
                      refine tkN 28 101 rfl hHeld ?_
                      simp only [Act.put, sA, sZ, sS]
                      refine tkN 29 102 rfl hHeld ?_
                      simp only [Act.put, sA, sZ, sS]
                      refine tkN 30 103 rfl hHeld ?_
                      simp only [Act.put, sA, sZ, sS]
                      refine tkN 31 104 rfl hHeld ?_
                      simp only [Act.put, sA, sZ, sS]
                      refine tkN 32 105 rfl hHeld ?_
                      simp only [Act.put, sA, sZ, sS]
                      refine tkN 33 106 rfl hHeld ?_
                      simp only [Act.put, sA, sZ, sS]
                      refine tk 34 107 (.bool false) rfl hHeld ?_
                      simp only [Act.put, sA, sZ, sS]
                      refine tk 35 108 (.bool false) rfl hHeld ?_
                      simp only [Act.put, sA, sZ, sS]
                      refine tk 36 109 (.bool false) rfl hHeld ?_
                      simp only [Act.put, sA, sZ, sS]
                      have TE := Lib.hid (TK.out.below HS.out hHeld)
                      clear hHeld TK PT
                      refine wpAnyH_done (by kernel_rfl) ?_ _
                      go_wp2_with fail
                      go_roundw
                      case rel => exact ⟨k + 1, z, HLK.out, rfl, by have := HLK.out; go_num, Lib.hid (LL.out.miss HYY.out (HM.out)), TE⟩
                      case measure =>
                        have := HLK.out
                        simp [RowKit.intOf]
                        omega
              · obtain rfl : len = k := by omega
                have h2 : ¬ (len : Int) < (len : Int) := by omega
                clear hlk hk
                rcases LL.out with ⟨rfl, hn⟩ | ⟨j, a, rfl, hj, ha, hv⟩
                · have HV := Lib.hid ((SS.out.has x.fl.k).trans hn)
                  clear hn LL
                  obtain ⟨OA, hOA⟩ : ∃ O, (fwL fw0).toArray = O := ⟨_, rfl⟩
                  have HOA := Lib.hid hOA
                  have HP : Hid (Calls Try.prog 26 #[(.pointer (some ⟨g, 0, none⟩)), .agg J] wr (MovGave Rep Y Y.heap.size (.pointer (some ⟨g, 0, none⟩)) 80 m wr fq (.tuple #[.agg OA, .bool false]))) := Lib.hid (by have h := TK.out.get HS.out HIX.out.t; rwa [key_c HJ.out, getV_none HV.out, fw_c HOA.out] at h)
                  clear hOA
                  go_upto_region 23 with (first | ((with_reducible show wpList _ _ _ (⟨some 118, _, _, _, _, _⟩ :: _) _ _); refine wpList_loadKeyF (op := ⟨some 118, _, _, _, _, _⟩) _ rfl (by rfl) b (off + i * 49 + 1) (by rfl) x.fl (ac_fw (RX.out _ TK.out.bel)) J HJ.out ?_) | ((with_reducible refine HP.out.mono ?_); rintro e w8 ⟨rfl, fp8, hT, hkp, hs⟩; have T8 := Lib.hid hT; clear hT hkp hs TK) | ((with_reducible show wpList _ _ _ (⟨none, .store _ (.tmp 11) _, _, _, _, _⟩ :: _) _ _); refine wpList_storeNewG rfl 28 _ _ rfl (by rfl) (fwL fw0) (by rw [HOA.out]; rfl) (by rw [fwL_len]; rfl) (sizeFwL _) (fwL_one _) ?_; intro w9 hb9 hB9 _; have T9 := Lib.hid (T8.out.below HS.out hB9); have G9 := Lib.hid hb9; clear hb9 hB9 T8))
                  have PT : Hid (∀ W, Below w9.heap.size w9 W → Below Y.heap.size Y W) := Lib.hid (fun W hW => T9.out.bel.trans (hW.mono T9.out.big))
                  refine wp_region_held_drew (S := fun W => Below w9.heap.size w9 W) (by kernel_rfl) ((Below.refl _ _).drew) (fun hHeld => ?_)
                  refine tk 0 122 (.bool false) rfl hHeld ?_
                  simp only [Act.put, sA, sZ, sS]
                  refine tk 1 123 (.int .i64 (-1)) rfl hHeld ?_
                  simp only [Act.put, sA, sZ, sS]
                  refine tk 2 124 (.bool false) rfl hHeld ?_
                  simp only [Act.put, sA, sZ, sS]
                  refine tk 3 125 (.bool false) rfl hHeld ?_
                  simp only [Act.put, sA, sZ, sS]
                  refine tkN 4 126 rfl hHeld ?_
                  simp only [Act.put, sA, sZ, sS]
                  refine tkN 5 127 rfl hHeld ?_
                  simp only [Act.put, sA, sZ, sS]
                  refine tkN 6 128 rfl hHeld ?_
                  simp only [Act.put, sA, sZ, sS]
                  refine tkN 7 129 rfl hHeld ?_
                  simp only [Act.put, sA, sZ, sS]
                  refine tkN 8 130 rfl hHeld ?_
                  simp only [Act.put, sA, sZ, sS]
                  refine tkN 9 131 rfl hHeld ?_
                  simp only [Act.put, sA, sZ, sS]
                  refine tk 10 132 (.bool false) rfl hHeld ?_
                  simp only [Act.put, sA, sZ, sS]
                  refine tk 11 133 (.bool false) rfl hHeld ?_
                  simp only [Act.put, sA, sZ, sS]
                  refine tk 12 134 (.bool false) rfl hHeld ?_
                  simp only [Act.put, sA, sZ, sS]
                  refine tk 13 135 (.bool false) rfl hHeld ?_
                  simp only [Act.put, sA, sZ, sS]
                  refine tk 14 136 (.bool false) rfl hHeld ?_
                  simp only [Act.put, sA, sZ, sS]
                  refine tkN 15 137 rfl hHeld ?_
                  simp only [Act.put, sA, sZ, sS]
                  refine tkN 16 138 rfl hHeld ?_
                  simp only [Act.put, sA, sZ, sS]
                  refine tkN 17 139 rfl hHeld ?_
                  simp only [Act.put, sA, sZ, sS]
                  refine tkN 18 140 rfl hHeld ?_
                  simp only [Act.put, sA, sZ, sS]
                  refine tkN 19 141 rfl hHeld ?_
                  simp only [Act.put, sA, sZ, sS]
                  refine tkN 20 142 rfl hHeld ?_
                  simp only [Act.put, sA, sZ, sS]
                  refine tkN 21 143 rfl hHeld ?_
                  simp only [Act.put, sA, sZ, sS]
                  refine tk 22 144 (.bool false) rfl hHeld ?_
                  simp only [Act.put, sA, sZ, sS]
                  refine tk 23 145 (.bool false) rfl hHeld ?_
                  simp only [Act.put, sA, sZ, sS]
                  have TE := Lib.hid (T9.out.below HS.out hHeld)
                  clear hHeld T9 PT
                  refine wpAnyH_done (by kernel_rfl) ?_ _
                  go_wp2_with fail
                  go_roundw
                  case rel => exact ⟨i + 1, fp8, HLT.out, by have := HLT.out; go_num, TE⟩
                  case measure =>
                    have := HLT.out
                    simp [RowKit.intOf]
                    omega
                · have hj0 : (0 : Int) ≤ (j : Int) := by omega
                  have hj1 : (j : Int) < (len : Int) := by omega
                  have RJ : Hid (∀ W, Below Y.heap.size Y W → W.rangeAt b (off + j * 49) (acL a)) := Lib.hid (fun W hW => (PR.out W hW).range ha)
                  have CJ : Hid (∀ W, Below Y.heap.size Y W → W.cell? ⟨b, off + j * 49, none⟩ = some (.int .i64 a.kind)) := Lib.hid (fun W hW => (PR.out W hW).cell ha 0 (ac_kind a))
                  by_cases e0 : a.kind = 0
                  · rw [if_pos e0] at hv
                    rw [e0] at CJ
                    have HV := Lib.hid ((SS.out.has x.fl.k).trans hv)
                    clear hv ha hj e0 LL
                    obtain ⟨OA, hOA⟩ : ∃ O, (fwL a.fl).toArray = O := ⟨_, rfl⟩
                    have HOA := Lib.hid hOA
                    have HP : Hid (Calls Try.prog 26 #[(.pointer (some ⟨g, 0, none⟩)), .agg J] wr (MovGave Rep Y Y.heap.size (.pointer (some ⟨g, 0, none⟩)) 80 m wr fq (.tuple #[.agg OA, .bool true]))) := Lib.hid (by have h := TK.out.get HS.out HIX.out.t; rwa [key_c HJ.out, getV_some HV.out, fw_c HOA.out] at h)
                    clear hOA
                    go_upto_region 23 with (first | ((with_reducible show wpList _ _ _ (⟨some 118, _, _, _, _, _⟩ :: _) _ _); refine wpList_loadKeyF (op := ⟨some 118, _, _, _, _, _⟩) _ rfl (by rfl) b (off + i * 49 + 1) (by rfl) x.fl (ac_fw (RX.out _ TK.out.bel)) J HJ.out ?_) | ((with_reducible refine HP.out.mono ?_); rintro e w8 ⟨rfl, fp8, hT, hkp, hs⟩; have T8 := Lib.hid hT; clear hT hkp hs TK) | ((with_reducible show wpList _ _ _ (⟨none, .store _ (.tmp 11) _, _, _, _, _⟩ :: _) _ _); refine wpList_storeNewG rfl 28 _ _ rfl (by rfl) (fwL a.fl) (by rw [HOA.out]; rfl) (by rw [fwL_len]; rfl) (sizeFwL _) (fwL_one _) ?_; intro w9 hb9 hB9 _; have T9 := Lib.hid (T8.out.below HS.out hB9); have G9 := Lib.hid hb9; clear hb9 hB9 T8))
                    have PT : Hid (∀ W, Below w9.heap.size w9 W → Below Y.heap.size Y W) := Lib.hid (fun W hW => T9.out.bel.trans (hW.mono T9.out.big))
                    refine wp_region_held_drew (S := fun W => Below w9.heap.size w9 W) (by kernel_rfl) ((Below.refl _ _).drew) (fun hHeld => ?_)
                    refine tk 0 122 (.bool true) rfl hHeld ?_
                    simp only [Act.put, sA, sZ, sS]
                    refine tk 1 123 (.int .i64 (j : Int)) rfl hHeld ?_
                    simp only [Act.put, sA, sZ, sS]
                    refine tk 2 124 (.bool true) rfl hHeld ?_
                    simp only [Act.put, sA, sZ, sS]
                    refine tk 3 125 (.bool true) rfl hHeld ?_
                    simp only [Act.put, sA, sZ, sS]
                    refine tk 4 126 (.slice (some ⟨b, off, none⟩) len cap) rfl hHeld ?_
                    simp only [Act.put, sA, sZ, sS]
                    refine tk 5 127 (.int .i64 (j : Int)) rfl hHeld ?_
                    simp only [Act.put, sA, sZ, sS]
                    refine tk 6 128 (.pointer (some ⟨b, off + j * 49, none⟩)) rfl hHeld ?_
                    simp only [Act.put, sA, sZ, sS]
                    refine tk 7 129 (.pointer (some ⟨b, off + j * 49, none⟩)) rfl hHeld ?_
                    simp only [Act.put, sA, sZ, sS]
                    refine tkY 8 130 (.int .i64 0) rfl (Or.inl ⟨by rfl, fun W hW => by have hc := CJ.out W (PT.out W hW); go_simp⟩) hHeld ?_
                    simp only [Act.put, sA, sZ, sS]
                    refine tk 9 131 (.bool true) rfl hHeld ?_
                    simp only [Act.put, sA, sZ, sS]
                    refine tk 10 132 (.bool true) rfl hHeld ?_
                    simp only [Act.put, sA, sZ, sS]
                    refine tk 11 133 (.bool false) rfl hHeld ?_
                    simp only [Act.put, sA, sZ, sS]
                    refine tk 12 134 (.bool false) rfl hHeld ?_
                    simp only [Act.put, sA, sZ, sS]
                    refine tk 13 135 (.bool true) rfl hHeld ?_
                    simp only [Act.put, sA, sZ, sS]
                    refine tk 14 136 (.bool true) rfl hHeld ?_
                    simp only [Act.put, sA, sZ, sS]
                    refine tkY 15 137 (.agg OA) rfl (yields_loadFw (by rfl) _ rfl _ 0 (by rfl) a.fl (fun W hW => Blk_10.range (Blk_10.below G9.out (Blk_10.lt G9.out) hW)) OA HOA.out) hHeld ?_
                    simp only [Act.put, sA, sZ, sS]
                    refine tk 16 138 (.slice (some ⟨b, off, none⟩) len cap) rfl hHeld ?_
                    simp only [Act.put, sA, sZ, sS]
                    refine tk 17 139 (.int .i64 (j : Int)) rfl hHeld ?_
                    simp only [Act.put, sA, sZ, sS]
                    refine tk 18 140 (.pointer (some ⟨b, off + j * 49, none⟩)) rfl hHeld ?_
                    simp only [Act.put, sA, sZ, sS]
                    refine tk 19 141 (.pointer (some ⟨b, off + j * 49 + 1, none⟩)) rfl hHeld ?_
                    simp only [Act.put, sA, sZ, sS]
                    refine tkY 20 142 (.agg OA) rfl (yields_loadFw (by rfl) _ rfl b (off + j * 49 + 1) (by rfl) a.fl (fun W hW => ac_fw (RJ.out W (PT.out W hW))) OA HOA.out) hHeld ?_
                    simp only [Act.put, sA, sZ, sS]
                    refine tkY 21 143 (.bool false) rfl (yields_cmpS (by rfl) .neq 28 _ _ _ rfl OA OA (by rfl) (by rfl) guard_fw false (fun W => by have h := ne_fws HOA.out HOA.out W; rwa [fwQ_self] at h)) hHeld ?_
                    simp only [Act.put, sA, sZ, sS]
                    refine tk 22 144 (.bool false) rfl hHeld ?_
                    simp only [Act.put, sA, sZ, sS]
                    refine tk 23 145 (.bool false) rfl hHeld ?_
                    simp only [Act.put, sA, sZ, sS]
                    have TE := Lib.hid (T9.out.below HS.out hHeld)
                    clear hHeld T9 PT
                    refine wpAnyH_done (by kernel_rfl) ?_ _
                    go_wp2_with fail
                    go_roundw
                    case rel => exact ⟨i + 1, fp8, HLT.out, by have := HLT.out; go_num, TE⟩
                    case measure =>
                      have := HLT.out
                      simp [RowKit.intOf]
                      omega
                  · rw [if_neg e0] at hv
                    have HV := Lib.hid ((SS.out.has x.fl.k).trans hv)
                    obtain ⟨kd, hkd⟩ : ∃ z, a.kind = z := ⟨_, rfl⟩
                    rw [hkd] at CJ e0
                    have e0b : (kd == 0) = false := by simpa using e0
                    clear hv ha hj hkd LL
                    obtain ⟨OA, hOA⟩ : ∃ O, (fwL fw0).toArray = O := ⟨_, rfl⟩
                    have HOA := Lib.hid hOA
                    have HP : Hid (Calls Try.prog 26 #[(.pointer (some ⟨g, 0, none⟩)), .agg J] wr (MovGave Rep Y Y.heap.size (.pointer (some ⟨g, 0, none⟩)) 80 m wr fq (.tuple #[.agg OA, .bool false]))) := Lib.hid (by have h := TK.out.get HS.out HIX.out.t; rwa [key_c HJ.out, getV_none HV.out, fw_c HOA.out] at h)
                    clear hOA
                    go_upto_region 23 with (first | ((with_reducible show wpList _ _ _ (⟨some 118, _, _, _, _, _⟩ :: _) _ _); refine wpList_loadKeyF (op := ⟨some 118, _, _, _, _, _⟩) _ rfl (by rfl) b (off + i * 49 + 1) (by rfl) x.fl (ac_fw (RX.out _ TK.out.bel)) J HJ.out ?_) | ((with_reducible refine HP.out.mono ?_); rintro e w8 ⟨rfl, fp8, hT, hkp, hs⟩; have T8 := Lib.hid hT; clear hT hkp hs TK) | ((with_reducible show wpList _ _ _ (⟨none, .store _ (.tmp 11) _, _, _, _, _⟩ :: _) _ _); refine wpList_storeNewG rfl 28 _ _ rfl (by rfl) (fwL fw0) (by rw [HOA.out]; rfl) (by rw [fwL_len]; rfl) (sizeFwL _) (fwL_one _) ?_; intro w9 hb9 hB9 _; have T9 := Lib.hid (T8.out.below HS.out hB9); have G9 := Lib.hid hb9; clear hb9 hB9 T8))
                    have PT : Hid (∀ W, Below w9.heap.size w9 W → Below Y.heap.size Y W) := Lib.hid (fun W hW => T9.out.bel.trans (hW.mono T9.out.big))
                    refine wp_region_held_drew (S := fun W => Below w9.heap.size w9 W) (by kernel_rfl) ((Below.refl _ _).drew) (fun hHeld => ?_)
                    refine tk 0 122 (.bool false) rfl hHeld ?_
                    simp only [Act.put, sA, sZ, sS]
                    refine tk 1 123 (.int .i64 (j : Int)) rfl hHeld ?_
                    simp only [Act.put, sA, sZ, sS]
                    refine tk 2 124 (.bool true) rfl hHeld ?_
                    simp only [Act.put, sA, sZ, sS]
                    refine tk 3 125 (.bool true) rfl hHeld ?_
                    simp only [Act.put, sA, sZ, sS]
                    refine tk 4 126 (.slice (some ⟨b, off, none⟩) len cap) rfl hHeld ?_
                    simp only [Act.put, sA, sZ, sS]
                    refine tk 5 127 (.int .i64 (j : Int)) rfl hHeld ?_
                    simp only [Act.put, sA, sZ, sS]
                    refine tk 6 128 (.pointer (some ⟨b, off + j * 49, none⟩)) rfl hHeld ?_
                    simp only [Act.put, sA, sZ, sS]
                    refine tk 7 129 (.pointer (some ⟨b, off + j * 49, none⟩)) rfl hHeld ?_
                    simp only [Act.put, sA, sZ, sS]
                    refine tkY 8 130 (.int .i64 kd) rfl (Or.inl ⟨by rfl, fun W hW => by have hc := CJ.out W (PT.out W hW); go_simp⟩) hHeld ?_
                    simp only [Act.put, sA, sZ, sS]
                    refine tk 9 131 (.bool false) rfl hHeld ?_
                    simp only [Act.put, sA, sZ, sS]
                    refine tk 10 132 (.bool false) rfl hHeld ?_
                    simp only [Act.put, sA, sZ, sS]
                    refine tk 11 133 (.bool false) rfl hHeld ?_
                    simp only [Act.put, sA, sZ, sS]
                    refine tk 12 134 (.bool false) rfl hHeld ?_
                    simp only [Act.put, sA, sZ, sS]
                    refine tk 13 135 (.bool false) rfl hHeld ?_
                    simp only [Act.put, sA, sZ, sS]
                    refine tk 14 136 (.bool false) rfl hHeld ?_
                    simp only [Act.put, sA, sZ, sS]
                    refine tkN 15 137 rfl hHeld ?_
                    simp only [Act.put, sA, sZ, sS]
                    refine tkN 16 138 rfl hHeld ?_
                    simp only [Act.put, sA, sZ, sS]
                    refine tkN 17 139 rfl hHeld ?_
                    simp only [Act.put, sA, sZ, sS]
                    refine tkN 18 140 rfl hHeld ?_
                    simp only [Act.put, sA, sZ, sS]
                    refine tkN 19 141 rfl hHeld ?_
                    simp only [Act.put, sA, sZ, sS]
                    refine tkN 20 142 rfl hHeld ?_
                    simp only [Act.put, sA, sZ, sS]
                    refine tkN 21 143 rfl hHeld ?_
                    simp only [Act.put, sA, sZ, sS]
                    refine tk 22 144 (.bool false) rfl hHeld ?_
                    simp only [Act.put, sA, sZ, sS]
                    refine tk 23 145 (.bool false) rfl hHeld ?_
                    simp only [Act.put, sA, sZ, sS]
                    have TE := Lib.hid (T9.out.below HS.out hHeld)
                    clear hHeld T9 PT
                    refine wpAnyH_done (by kernel_rfl) ?_ _
                    go_wp2_with fail
                    go_roundw
                    case rel => exact ⟨i + 1, fp8, HLT.out, by have := HLT.out; go_num, TE⟩
                    case measure =>
                      have := HLT.out
                      simp [RowKit.intOf]
                      omega
          · obtain rfl : len = i := by omega
            have h1 : ¬ (len : Int) < (len : Int) := by omega
            clear hli hi
            go_wp2_with fail
            go_ret
            exact ⟨rfl, HB.out.trans (TQ.out.bel.mono HB.out.size)⟩
end Go.Proofs.Ytfbiinipiklkaaa
