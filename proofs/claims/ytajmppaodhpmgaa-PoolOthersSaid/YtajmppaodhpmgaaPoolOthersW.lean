/-
  PoolOthers: its walk, the program's contracts a premise.
-/
import Derived.Test.YtajmppaodhpmgaaULaw
import Derived.Deep.DeepCutAuto
namespace Go.Proofs.Ytajmppaodhpmgaa
set_option maxRecDepth 100000
open Go.RowKit Go.Lib

theorem fnd_get (r : Option Bk) : fndV r = bkC (r.getD bk0) := by
  cases r <;> rfl
set_option maxHeartbeats 16000000 in
theorem poolOthers_walkW (S : PoolC) (V : Int) (_hva : -9223372036854775808 ≤ V) (_hvb : V ≤ 9223372036854775807) (A : Option Addr) (len cap : Nat) (xs : List Bk) (hc : len ≤ cap) (hm : cap ≤ maxLen) (_hX : ∀ x, x ∈ xs → BkOk x) (o : OpU) (_hO : OpOk o) (w : World) (hI : RdG eB w w.heap.size A len xs) :
    Calls Try.prog 6 #[.agg #[.int .i64 V, .slice A len cap], opuC o] w fun e w' => e = .returned (.bool true) ∧ Below w.heap.size w w' := by
  have HSS := Lib.hid S
  have HLE := Lib.hid hI.len
  have HCP := Lib.hid hc
  have HCM := Lib.hid hm
  have HLB := Lib.hid (big_max hc hm)
  unfold opuC
  obtain ⟨LO, hLO⟩ : ∃ L, (opuL o).toArray = L := ⟨_, rfl⟩
  rw [hLO]
  obtain ⟨Y, hY, hT, hXb, hB⟩ := box_po w #[.int .i64 V, .slice A len cap] (opuL o).toArray
  rw [hLO] at hY
  have HX := Lib.hid hXb
  have HLO := Lib.hid hLO
  have HLX := Lib.hid (Blk_10.lt hXb)
  clear hXb hLO
  have HT := Lib.hid hT
  have HB := Lib.hid hB
  have HR := Lib.hid (hI.below hB)
  have HY := Lib.hid hY
  have HLT := Lib.hid (Blk_10.lt hT)
  have PC : Hid (∀ W, Below Y.heap.size Y W → W.cell? ⟨w.heap.size, 0, none⟩ = some (.int .i64 V) ∧ W.cell? ⟨w.heap.size, 1, none⟩ = some (.slice A len cap)) := Lib.hid (fun W h => ⟨(h.cell (p := ⟨w.heap.size, 0, none⟩) HLT.out).trans (Blk_10.cell HT.out (i := 0) rfl), (h.cell (p := ⟨w.heap.size, 1, none⟩) HLT.out).trans (Blk_10.cell HT.out (i := 1) rfl)⟩)
  have PR : Hid (∀ W, Below Y.heap.size Y W → RdG eB W w.heap.size A len xs) := Lib.hid (fun W h => HR.out.below (h.mono HB.out.size))
  have PS : Hid (∀ W : World, Below Y.heap.size Y W → w.heap.size ≤ W.heap.size) := Lib.hid (fun W h => Nat.le_trans HB.out.size h.size)
  have OX : Hid (∀ W, Below Y.heap.size Y W → W.rangeAt (w.heap.size + 1) 0 (opuL o)) := Lib.hid (fun W h => Blk_10.range (Blk_10.below HX.out HLX.out h))
  have HAW := Lib.hid (fun W => awake_any S W)
  obtain ⟨F, hF⟩ : ∃ F, fewU xs = F := ⟨_, rfl⟩
  have HFE := Lib.hid hF
  have HFW : Hid (∀ W, Below Y.heap.size Y W → Calls Try.prog 11 #[.agg #[.int .i64 V, .slice A len cap]] W fun e w' => e = .returned (.bool F) ∧ Below W.heap.size W w') := Lib.hid (by rw [← hF]; exact fun W h => rfewU_any cap HLB.out V W (PS.out W h) (PR.out W h))
  clear hF hc hm _hX hI hT hB hY S
  clear _hO _hva _hvb
  have OC : Hid (∀ W, Below Y.heap.size Y W → W.cell? ⟨w.heap.size + 1, 0, none⟩ = some (.int .i64 o.kind) ∧ W.cell? ⟨w.heap.size + 1, 1, none⟩ = some (.string ⟨o.b.nm.toArray⟩) ∧ W.cell? ⟨w.heap.size + 1, 28, none⟩ = some (.string ⟨o.nm.toArray⟩)) := Lib.hid (fun W h => ⟨Blk_10.cell (Blk_10.below HX.out HLX.out h) (opu_kind o), Blk_10.cell (Blk_10.below HX.out HLX.out h) (opu_bnm o), Blk_10.cell (Blk_10.below HX.out HLX.out h) (opu_nm o)⟩)
  cases F
  · skip
    go_enter Try.func6, Try.ntmps6
    go_upto_region 1 with (fail)
    rw [HY.out]
    go_wp2_with (first | ((with_reducible refine (HAW.out Y).mono ?_); rintro e w1 ⟨rfl, hb⟩; have D1 := Lib.hid hb; obtain ⟨p0, p1⟩ := PC.out w1 hb; clear hb) | ((with_reducible refine (HFW.out w1 D1.out).mono ?_); rintro e w2 ⟨rfl, hb⟩; have D2 := Lib.hid (bel2 D1.out hb); clear p0 p1 hb; obtain ⟨p0, p1⟩ := PC.out w2 D2.out))
    refine (HAW.out _).mono ?_
    rintro e wz ⟨rfl, hz⟩
    go_wp2_with fail
    go_ret
    exact ⟨rfl, HB.out.trans ((bel2 D2.out hz).mono HB.out.size)⟩
  · have HN := Lib.hid (few_n HFE.out HLE.out)
    have HSH := Lib.hid (few_s HFE.out)
    by_cases hrp : RightP ⟨V, xs⟩
    case neg =>
      have HRW : Hid (∀ W, Below Y.heap.size Y W → Calls Try.prog 15 #[.agg #[.int .i64 V, .slice A len cap]] W fun e w' => e = .returned (.bool false) ∧ Below W.heap.size W w') := Lib.hid (fun W h => (rright18_any cap (p := ⟨V, xs⟩) HLB.out (fun x hx => Nat.le_trans (HSH.out x hx) (by decide)) W (PS.out W h) (PR.out W h)).mono (fun e w' ⟨r, he, hr, hb⟩ => ⟨by rw [he]; congr 2; exact Bool.eq_false_iff.2 (fun h => hrp (hr.1 h)), hb⟩))
      clear hrp
      go_enter Try.func6, Try.ntmps6
      go_upto_region 1 with (fail)
      rw [HY.out]
      go_wp2_with (first | ((with_reducible refine (HAW.out Y).mono ?_); rintro e w1 ⟨rfl, hb⟩; have D1 := Lib.hid hb; obtain ⟨p0, p1⟩ := PC.out w1 hb; clear hb) | ((with_reducible refine (HFW.out w1 D1.out).mono ?_); rintro e w2 ⟨rfl, hb⟩; have D2 := Lib.hid (bel2 D1.out hb); clear p0 p1 hb; obtain ⟨p0, p1⟩ := PC.out w2 D2.out) | ((with_reducible refine (HRW.out w2 D2.out).mono ?_); rintro e w3 ⟨rfl, hb⟩; have D3 := Lib.hid (bel2 D2.out hb); clear p0 p1 hb; obtain ⟨p0, p1⟩ := PC.out w3 D3.out))
      refine (HAW.out _).mono ?_
      rintro e wz ⟨rfl, hz⟩
      go_wp2_with fail
      go_ret
      exact ⟨rfl, HB.out.trans ((bel2 D3.out hz).mono HB.out.size)⟩
    case pos =>
      have HRW : Hid (∀ W, Below Y.heap.size Y W → Calls Try.prog 15 #[.agg #[.int .i64 V, .slice A len cap]] W fun e w' => e = .returned (.bool true) ∧ Below W.heap.size W w') := Lib.hid (fun W h => (rright18_any cap (p := ⟨V, xs⟩) HLB.out (fun x hx => Nat.le_trans (HSH.out x hx) (by decide)) W (PS.out W h) (PR.out W h)).mono (fun e w' ⟨r, he, hr, hb⟩ => ⟨by rw [he]; congr 2; exact hr.2 hrp, hb⟩))
      have HRP := Lib.hid hrp
      obtain ⟨G, hG⟩ : ∃ G, fewO [o] = G := ⟨_, rfl⟩
      have HGE := Lib.hid hG
      clear hG hrp
      have HFO : Hid (∀ W : World, Calls Try.prog 18 #[.slice (some ⟨W.heap.size, 0, none⟩) 1 1] (W.alloc (.cells LO eO.T)) fun e w' => e = .returned (.bool G) ∧ w' = W.alloc (.cells LO eO.T)) := Lib.hid (fun W => by rw [← HGE.out]; exact rfewO_any 1 (by decide) _ (RdG.laid eO W [o] 1 rfl _ (by rw [← HLO.out]; simp [Enc.cells]; rfl)))
      cases G
      · skip
        go_enter Try.func6, Try.ntmps6
        go_upto_region 1 with (fail)
        rw [HY.out]
        go_wp2_with (first | ((with_reducible refine (HAW.out Y).mono ?_); rintro e w1 ⟨rfl, hb⟩; have D1 := Lib.hid hb; obtain ⟨p0, p1⟩ := PC.out w1 hb; clear hb) | ((with_reducible refine (HFW.out w1 D1.out).mono ?_); rintro e w2 ⟨rfl, hb⟩; have D2 := Lib.hid (bel2 D1.out hb); clear p0 p1 hb; obtain ⟨p0, p1⟩ := PC.out w2 D2.out) | ((with_reducible refine (HRW.out w2 D2.out).mono ?_); rintro e w3 ⟨rfl, hb⟩; have D3 := Lib.hid (bel2 D2.out hb); clear p0 p1 hb; obtain ⟨p0, p1⟩ := PC.out w3 D3.out) | ((with_reducible show wpList _ _ _ (⟨some 25, _, _, _, _, _⟩ :: _) _ _); refine wpList_loadOp (op := ⟨some 25, _, _, _, _, _⟩) _ rfl (by rfl) (w.heap.size + 1) 0 (by rfl) o (OX.out w3 D3.out) _ HLO.out ?_) | ((with_reducible show wpList _ _ _ (⟨some 26, _, _, _, _, _⟩ :: _) _ _); refine wpList_build1w (o := ⟨some 26, _, _, _, _, _⟩) eO (by decide) o (by rfl) 25 rfl _ HLO.out (by rfl) ?_) | ((with_reducible refine (HFO.out w3).mono ?_); rintro e w4 ⟨rfl, hb⟩; have D4 := Lib.hid (show Below Y.heap.size Y w4 by rw [hb]; exact D3.out.alloc D3.out.size _); clear p0 p1 hb; obtain ⟨p0, p1⟩ := PC.out w4 D4.out; obtain ⟨ok, ob, on⟩ := OC.out w4 D4.out))
        refine (HAW.out _).mono ?_
        rintro e wz ⟨rfl, hz⟩
        go_wp2_with fail
        go_ret
        exact ⟨rfl, HB.out.trans ((bel2 D4.out hz).mono HB.out.size)⟩
      · have HS := Lib.hid (few_op HGE.out)
        go_enter Try.func6, Try.ntmps6
        go_upto_region 1 with (fail)
        rw [HY.out]
        go_upto_region 4 with (first | ((with_reducible refine (HAW.out Y).mono ?_); rintro e w1 ⟨rfl, hb⟩; have D1 := Lib.hid hb; obtain ⟨p0, p1⟩ := PC.out w1 hb; clear hb) | ((with_reducible refine (HFW.out w1 D1.out).mono ?_); rintro e w2 ⟨rfl, hb⟩; have D2 := Lib.hid (bel2 D1.out hb); clear p0 p1 hb; obtain ⟨p0, p1⟩ := PC.out w2 D2.out) | ((with_reducible refine (HRW.out w2 D2.out).mono ?_); rintro e w3 ⟨rfl, hb⟩; have D3 := Lib.hid (bel2 D2.out hb); clear p0 p1 hb; obtain ⟨p0, p1⟩ := PC.out w3 D3.out) | ((with_reducible show wpList _ _ _ (⟨some 25, _, _, _, _, _⟩ :: _) _ _); refine wpList_loadOp (op := ⟨some 25, _, _, _, _, _⟩) _ rfl (by rfl) (w.heap.size + 1) 0 (by rfl) o (OX.out w3 D3.out) _ HLO.out ?_) | ((with_reducible show wpList _ _ _ (⟨some 26, _, _, _, _, _⟩ :: _) _ _); refine wpList_build1w (o := ⟨some 26, _, _, _, _, _⟩) eO (by decide) o (by rfl) 25 rfl _ HLO.out (by rfl) ?_) | ((with_reducible refine (HFO.out w3).mono ?_); rintro e w4 ⟨rfl, hb⟩; have D4 := Lib.hid (show Below Y.heap.size Y w4 by rw [hb]; exact D3.out.alloc D3.out.size _); clear p0 p1 hb; obtain ⟨p0, p1⟩ := PC.out w4 D4.out; obtain ⟨ok, ob, on⟩ := OC.out w4 D4.out))
        obtain ⟨K, hK⟩ : ∃ K, o.kind = K := ⟨_, rfl⟩
        have HK := Lib.hid hK
        rw [hK] at ok
        have HNM : Hid (o.name = if K = 1 then o.b.nm else o.nm) := Lib.hid (by rw [← hK]; rfl)
        clear hK
        obtain ⟨nm, hnm⟩ : ∃ n, o.name = n := ⟨_, rfl⟩
        have HNMN := Lib.hid hnm
        rw [hnm] at HNM
        clear hnm
        obtain ⟨kb, hkb⟩ : ∃ k, (K == 1) = k := ⟨_, rfl⟩
        go_upto_if 35 with (fail)
        go_cut [5] (fun s wx => s = .string ⟨nm.toArray⟩ ∧ wx = w4)
        case first =>
          cases kb
          · have hv := Lib.hid (congrArg (fun l : List UInt8 => Value.string ⟨l.toArray⟩) (show o.nm = nm by rw [HNM.out, if_neg (beq_eq_false_iff_ne.1 hkb)]))
            go_wp2_with fail
            go_meet
            case rel => exact ⟨hv.out, rfl⟩
          · have hv := Lib.hid (congrArg (fun l : List UInt8 => Value.string ⟨l.toArray⟩) (show o.b.nm = nm by rw [HNM.out, if_pos (beq_iff_eq.1 hkb)]))
            go_wp2_with fail
            go_meet
            case rel => exact ⟨hv.out, rfl⟩
        case rest =>
          obtain ⟨rfl, hwx⟩ := hcut
          have hwx := hwx.symm
          subst hwx
          clear ok ob on
          have HQR := Lib.hid (do_right HRP.out o)
          have HQN := Lib.hid (do_few HRP.out o (Nat.le_trans (Nat.le_of_eq HLE.out) (Nat.le_trans HN.out (by decide))))
          have HOTH := Lib.hid (fun (s : List UInt8) (h : s ≠ nm) => do_other HRP.out (o := o) (s := s) (by rw [HNMN.out]; exact h))
          have HDL := Lib.hid (fun h => do_len HRP.out (o := o) h)
          have HDN := Lib.hid (show o.err ⟨V, xs⟩ ≠ 0 → doP ⟨V, xs⟩ o = ⟨V, xs⟩ from fun h => do_no h)
          rw [HK.out] at HDL
          have HDO : Hid (∀ W, Below Y.heap.size Y W → Calls Try.prog 19 #[.agg #[.int .i64 V, .slice A len cap], .agg LO] W fun e w' => ∃ v, e = .returned (.tuple #[.agg #[.int .i64 (doP ⟨V, xs⟩ o).ver, v], .int .i64 (o.err ⟨V, xs⟩)]) ∧ OwnG eB w' W.heap.size v (doP ⟨V, xs⟩ o).l ∧ Below W.heap.size W w') := Lib.hid (fun W h => by have := HSS.out.do_ cap HCP.out HCM.out HRP.out (Nat.le_trans HN.out (by decide)) o HS.out.1 HS.out.2 W (PS.out W h) (PR.out W h); unfold opuC at this; rw [HLO.out] at this; exact this)
          generalize doP ⟨V, xs⟩ o = q at HQR HQN HDO HOTH HDL HDN
          generalize o.err ⟨V, xs⟩ = er at HDO HDL HDN
          go_upto_region 7 with (first | ((with_reducible show wpList _ _ _ (⟨some 41, _, _, _, _, _⟩ :: _) _ _); refine wpList_loadOp (op := ⟨some 41, _, _, _, _, _⟩) _ rfl (by rfl) (w.heap.size + 1) 0 (by rfl) o (OX.out w4 D4.out) _ HLO.out ?_) | ((with_reducible refine (HDO.out w4 D4.out).mono ?_); rintro e w5 ⟨v5, rfl, ho5, hb5⟩; obtain ⟨A5, n5, c5, rfl, e5, q5, m5, r5, ow5⟩ := own_any ho5; have HE5 := Lib.hid e5; have HQ5 := Lib.hid q5; have HM5 := Lib.hid m5; have HR5 := Lib.hid r5; have HO5 := Lib.hid ow5; have D5 := Lib.hid (bel2 D4.out hb5); clear e5 q5 m5 r5 ho5 hb5 ow5 p0 p1) | ((with_reducible show wpList _ _ _ (⟨none, .store 24 (.tmp 6) _, _, _, _, _⟩ :: _) _ _); refine wpList_storeNewG rfl 24 (.tmp 6) _ rfl (by rfl) ([.int .i64 q.ver, .slice A5 n5 c5]) (by rfl) (by simp) (poolSize) (by simp [Value.oneCell']) ?_; intro w6 hb hB hz; have HK6 := Lib.hid hb; have HBw6 := Lib.hid hB; clear hb hB hz))
          have D6 := Lib.hid (bel2 D5.out HBw6.out)
          have L6 := Lib.hid (Blk_10.lt HK6.out)
          have HN5 := Lib.hid (show n5 ≤ 100 by have := HQN.out; have := HE5.out; omega)
          have QC : Hid (∀ W, Below w6.heap.size w6 W → W.cell? ⟨w5.heap.size, 0, none⟩ = some (.int .i64 q.ver) ∧ W.cell? ⟨w5.heap.size, 1, none⟩ = some (.slice A5 n5 c5)) := Lib.hid (fun W h => ⟨Blk_10.cell (Blk_10.below HK6.out L6.out h) (i := 0) rfl, Blk_10.cell (Blk_10.below HK6.out L6.out h) (i := 1) rfl⟩)
          have QR : Hid (∀ W, Below w6.heap.size w6 W → RdG eB W w5.heap.size A5 n5 q.l) := Lib.hid (fun W h => HR5.out.below (bel2 HBw6.out h))
          have QS : Hid (∀ W : World, Below w6.heap.size w6 W → w5.heap.size ≤ W.heap.size) := Lib.hid (fun W h => Nat.le_trans HBw6.out.size h.size)
          go_wp2_with fail
          go_loopw [8] (fun i wr => ∃ k : Nat, k ≤ len ∧ i = .int .i64 (k : Int) ∧ Below w6.heap.size w6 wr) (fun i _ => len - (RowKit.intOf i).toNat)
          case atStart => exact ⟨0, Nat.zero_le _, rfl, Below.refl _ _⟩
          case round =>
            obtain ⟨k, hk, rfl, hw⟩ := hrel
            have HW := Lib.hid hw
            have DW := Lib.hid (bel2 D6.out hw)
            clear hw
            obtain ⟨p0, p1⟩ := PC.out wr DW.out
            by_cases hlt : k < len
            · have h1 : (k : Int) < (len : Int) := by omega
              have h0 : (0 : Int) ≤ (k : Int) := by omega
              obtain ⟨b, off, rfl, _⟩ := (PR.out wr DW.out).addr (Nat.lt_of_le_of_lt (Nat.zero_le _) hlt)
              obtain ⟨y, hy⟩ : ∃ y, xs[k]? = some y := ⟨_, List.getElem?_eq_getElem (by rw [HLE.out]; exact hlt)⟩
              have HYY := Lib.hid hy
              have HLTN := Lib.hid hlt
              have hk9 : k < 9223372036854775807 := by have := HN.out; omega
              have hki : (k : Int) < (len : Int) := by omega
              have PY : Hid (∀ W, Below wr.heap.size wr W → W.cell? ⟨b, off + k * 27, none⟩ = some (.string ⟨y.nm.toArray⟩)) := Lib.hid (fun W h => (PR.out W (bel2 DW.out h)).cell HYY.out 0 (bk_nm y))
              have RYA : Hid (∀ W, Below wr.heap.size wr W → W.rangeAt b (off + k * 27) (bkL y)) := Lib.hid (fun W h => (PR.out W (bel2 DW.out h)).range HYY.out)
              have PCW : Hid (∀ W, Below wr.heap.size wr W → W.cell? ⟨w.heap.size, 1, none⟩ = some (.slice (some ⟨b, off, none⟩) len cap)) := Lib.hid (fun W h => (PC.out W (bel2 DW.out h)).2)
              have QCW : Hid (∀ W, Below wr.heap.size wr W → W.cell? ⟨w5.heap.size, 0, none⟩ = some (.int .i64 q.ver) ∧ W.cell? ⟨w5.heap.size, 1, none⟩ = some (.slice A5 n5 c5)) := Lib.hid (fun W h => QC.out W (bel2 HW.out h))
              obtain ⟨r, hr⟩ : ∃ r, findB q.l y.nm = r := ⟨_, rfl⟩
              obtain ⟨LF, hLF⟩ : ∃ L, (bkL (r.getD bk0)).toArray = L := ⟨_, rfl⟩
              have HLF := Lib.hid hLF
              have HFI : Hid (∀ W, Below wr.heap.size wr W → Calls Try.prog 21 #[.agg #[.int .i64 q.ver, .slice A5 n5 c5], .string ⟨y.nm.toArray⟩] W fun e w' => e = .returned (.tuple #[.agg LF, .bool r.isSome]) ∧ Below W.heap.size W w') := Lib.hid (by
                intro W h
                have h2 := HSS.out.find (p := q) c5 HQ5.out HM5.out HQR.out HN5.out y.nm (Nat.le_trans (HSH.out y (List.mem_of_getElem? HYY.out)) (by decide)) W (QS.out W (bel2 HW.out h)) (QR.out W (bel2 HW.out h))
                rw [hr, fnd_get] at h2
                unfold bkC at h2
                rw [hLF] at h2
                exact h2)
              have HRR := Lib.hid hr
              clear hLF hr hy hlt p0
              go_upto_region 10 with (fail)
              clear p1
              go_cut [9, 10] (fun s9 s10 wx => ∃ g : Nat, s9 = .pointer (some ⟨g, 0, none⟩) ∧ s10 = .bool r.isSome ∧ Blk wx 36 g (bkL (r.getD bk0)) ∧ Below wr.heap.size wr wx)
              case first =>
                refine wp_region_held_drew (S := fun W => Below wr.heap.size wr W) (by kernel_rfl) ((Below.refl _ _).drew) (fun hHeld => ?_)
                obtain ⟨X0, hX0⟩ : ∃ X, wr.drew = X := ⟨_, rfl⟩
                rw [hX0] at hHeld ⊢
                clear hX0
                refine tkY 0 53 (.agg #[.int .i64 q.ver, .slice A5 n5 c5]) rfl (Or.inl ⟨by rfl, fun W hW => by obtain ⟨h1, h2⟩ := QCW.out W hW; go_simp⟩) hHeld ?_
                simp only [Act.put, sA, sZ, sS]
                refine tk 1 54 (.pointer (some ⟨w.heap.size, 1, none⟩)) rfl hHeld ?_
                simp only [Act.put, sA, sZ, sS]
                refine tkY 2 55 (.slice (some ⟨b, off, none⟩) len cap) rfl (Or.inl ⟨by rfl, fun W hW => by have hc := PCW.out W hW; go_simp⟩) hHeld ?_
                simp only [Act.put, sA, sZ, sS]
                refine tk 3 56 (.int .i64 (k : Int)) rfl hHeld ?_
                simp only [Act.put, sA, sZ, sS]
                refine tk 4 57 (.pointer (some ⟨b, off + k * 27, none⟩)) rfl hHeld ?_
                simp only [Act.put, sA, sZ, sS]
                refine tk 5 58 (.pointer (some ⟨b, off + k * 27, none⟩)) rfl hHeld ?_
                simp only [Act.put, sA, sZ, sS]
                refine tkY 6 59 (.string ⟨y.nm.toArray⟩) rfl (Or.inl ⟨by rfl, fun W hW => by have hc := PY.out W hW; go_simp⟩) hHeld ?_
                simp only [Act.put, sA, sZ, sS]
                refine wpAnyH_ready (rs := [7, 11]) (by kernel_rfl) (by simp) (AllReadyH.cons (o := ⟨some 60, _, _, _, _, _⟩) rfl (fun K hK => ?_) (AllReadyH.cons (o := ⟨some 9, _, _, _, _, _⟩) rfl (fun K hK => ?_) AllReadyH.nil))
                · skip
                  go_simp
                  refine (HFI.out _ hHeld).mono ?_
                  rintro e wx ⟨rfl, hbx⟩
                  have HBX := Lib.hid hbx
                  have HBH := Lib.hid (hHeld.trans (hbx.mono hHeld.size))
                  refine hK.out _ _ (HBH.out) (fun hHeld => ?_)
                  clear hK K hbx
                  refine tk 8 52 (.tuple #[.agg LF, .bool r.isSome]) rfl hHeld ?_
                  simp only [Act.put, sA, sZ, sS]
                  refine tk 9 61 (.agg LF) rfl hHeld ?_
                  simp only [Act.put, sA, sZ, sS]
                  refine tk 10 62 (.bool r.isSome) rfl hHeld ?_
                  simp only [Act.put, sA, sZ, sS]
                  refine wpAnyH_ready (rs := [11]) (by kernel_rfl) (by simp) (AllReadyH.cons (o := ⟨some 9, _, _, _, _, _⟩) rfl (fun K hK => ?_) AllReadyH.nil)
                  have hbn := Blk_10.new wx 36 (bkL bk0)
                  have hnb := hHeld.alloc hHeld.size (.cells (bkL bk0).toArray 36)
                  have HGE := Lib.hid hHeld.size
                  go_simp
                  refine hK.out _ _ hnb (fun hHeld => ?_)
                  clear hK K hnb
                  refine wpAnyH_ready (rs := [12]) (by kernel_rfl) (by simp) (AllReadyH.cons (o := ⟨none, _, _, _, _, _⟩) rfl (fun K hK => ?_) AllReadyH.nil)
                  refine step_storeBA rfl 36 (.tmp 9) (.tmp 61) rfl (wx.heap.size) (by rfl) (bkL (r.getD bk0)) (by rw [HLF.out]; rfl) (bkL bk0) (hbn) (by rw [bkL_len, bkL_len]) (by rw [bkL_len]; exact sizeBk) (bkL_one _) ?_
                  intro wz hbz hgz
                  have HZ := Lib.hid (below_gb hHeld hgz HGE.out hHeld.size)
                  have HBZ := Lib.hid hbz
                  refine hK.out _ _ (HZ.out) (fun hHeld => ?_)
                  clear hK K hbz hgz
                  refine tk 13 10 (.bool r.isSome) rfl hHeld ?_
                  simp only [Act.put, sA, sZ, sS]
                  refine wpAnyH_done (by kernel_rfl) ?_ _
                  go_wp2_with fail
                  go_meet
                  case rel => exact ⟨_, rfl, rfl, HBZ.out, hHeld⟩
                · skip
                  have hbn := Blk_10.new X0 36 (bkL bk0)
                  have HBN2 := Lib.hid hbn
                  have hnb := hHeld.alloc hHeld.size (.cells (bkL bk0).toArray 36)
                  have HGE := Lib.hid hHeld.size
                  go_simp
                  refine hK.out _ _ hnb (fun hHeld => ?_)
                  clear hK K hnb
                  refine wpAnyH_ready (rs := [7]) (by kernel_rfl) (by simp) (AllReadyH.cons (o := ⟨some 60, _, _, _, _, _⟩) rfl (fun K hK => ?_) AllReadyH.nil)
                  go_simp
                  refine (HFI.out _ hHeld).mono ?_
                  rintro e wx ⟨rfl, hbx⟩
                  have HBX := Lib.hid hbx
                  have HBH := Lib.hid (hHeld.trans (hbx.mono hHeld.size))
                  refine hK.out _ _ (HBH.out) (fun hHeld => ?_)
                  clear hK K hbx
                  refine tk 8 52 (.tuple #[.agg LF, .bool r.isSome]) rfl hHeld ?_
                  simp only [Act.put, sA, sZ, sS]
                  refine tk 9 61 (.agg LF) rfl hHeld ?_
                  simp only [Act.put, sA, sZ, sS]
                  refine tk 10 62 (.bool r.isSome) rfl hHeld ?_
                  simp only [Act.put, sA, sZ, sS]
                  refine wpAnyH_ready (rs := [12]) (by kernel_rfl) (by simp) (AllReadyH.cons (o := ⟨none, _, _, _, _, _⟩) rfl (fun K hK => ?_) AllReadyH.nil)
                  refine step_storeBA rfl 36 (.tmp 9) (.tmp 61) rfl (X0.heap.size) (by rfl) (bkL (r.getD bk0)) (by rw [HLF.out]; rfl) (bkL bk0) (Blk_10.below HBN2.out (Blk_10.lt HBN2.out) HBX.out) (by rw [bkL_len, bkL_len]) (by rw [bkL_len]; exact sizeBk) (bkL_one _) ?_
                  intro wz hbz hgz
                  have HZ := Lib.hid (below_gb hHeld hgz HGE.out hHeld.size)
                  have HBZ := Lib.hid hbz
                  refine hK.out _ _ (HZ.out) (fun hHeld => ?_)
                  clear hK K hbz hgz
                  refine tk 13 10 (.bool r.isSome) rfl hHeld ?_
                  simp only [Act.put, sA, sZ, sS]
                  refine wpAnyH_done (by kernel_rfl) ?_ _
                  go_wp2_with fail
                  go_meet
                  case rel => exact ⟨_, rfl, rfl, HBZ.out, hHeld⟩
              case rest =>
                obtain ⟨gf, rfl, rfl, hbf, hwf⟩ := hcut
                obtain ⟨w8, hw8⟩ : ∃ z, z = wc := ⟨_, rfl⟩
                subst hw8
                have HBF := Lib.hid hbf
                have HWF := Lib.hid hwf
                have LF2 := Lib.hid (Blk_10.lt hbf)
                clear hbf hwf
                obtain ⟨LY, hLY⟩ : ∃ L, (bkL y).toArray = L := ⟨_, rfl⟩
                have HLY := Lib.hid hLY
                clear hLY
                have R1 : Hid (∀ W, Below w8.heap.size w8 W → Below wr.heap.size wr W) := Lib.hid (fun W h => bel2 HWF.out h)
                go_upto_region 11 with (fail)
                go_cut [84] (fun s wx => s = .bool false ∧ Below w8.heap.size w8 wx)
                case first =>
                  by_cases hyn : y.nm = nm
                  · have hne : (y.nm != nm) = false := by rw [hyn]; simp
                    have hne2 : (y.nm == nm) = true := by rw [hyn]; simp
                    clear hyn
                    refine wp_region_held_drew (S := fun W => Below w8.heap.size w8 W) (by kernel_rfl) ((Below.refl _ _).drew) (fun hHeld => ?_)
                    refine tk 0 63 (.pointer (some ⟨w.heap.size, 1, none⟩)) rfl hHeld ?_
                    simp only [Act.put, sA, sZ, sS]
                    refine tkY 1 64 (.slice (some ⟨b, off, none⟩) len cap) rfl (Or.inl ⟨by rfl, fun W hW => by have hc := PCW.out W (R1.out W hW); go_simp⟩) hHeld ?_
                    simp only [Act.put, sA, sZ, sS]
                    refine tk 2 65 (.int .i64 (k : Int)) rfl hHeld ?_
                    simp only [Act.put, sA, sZ, sS]
                    refine tk 3 66 (.pointer (some ⟨b, off + k * 27, none⟩)) rfl hHeld ?_
                    simp only [Act.put, sA, sZ, sS]
                    refine tk 4 67 (.pointer (some ⟨b, off + k * 27, none⟩)) rfl hHeld ?_
                    simp only [Act.put, sA, sZ, sS]
                    refine tkY 5 68 (.string ⟨y.nm.toArray⟩) rfl (Or.inl ⟨by rfl, fun W hW => by have hc := PY.out W (R1.out W hW); go_simp⟩) hHeld ?_
                    simp only [Act.put, sA, sZ, sS]
                    refine tk 6 69 (.string ⟨nm.toArray⟩) rfl hHeld ?_
                    simp only [Act.put, sA, sZ, sS]
                    refine tk 7 70 (.bool false) rfl hHeld ?_
                    simp only [Act.put, sA, sZ, sS]
                    refine tk 8 71 (.bool false) rfl hHeld ?_
                    simp only [Act.put, sA, sZ, sS]
                    refine tkN 9 72 rfl hHeld ?_
                    simp only [Act.put, sA, sZ, sS]
                    refine tkN 10 73 rfl hHeld ?_
                    simp only [Act.put, sA, sZ, sS]
                    refine tkN 11 74 rfl hHeld ?_
                    simp only [Act.put, sA, sZ, sS]
                    refine tkN 12 75 rfl hHeld ?_
                    simp only [Act.put, sA, sZ, sS]
                    refine tkN 13 76 rfl hHeld ?_
                    simp only [Act.put, sA, sZ, sS]
                    refine tkN 14 77 rfl hHeld ?_
                    simp only [Act.put, sA, sZ, sS]
                    refine tkN 15 78 rfl hHeld ?_
                    simp only [Act.put, sA, sZ, sS]
                    refine tkN 16 79 rfl hHeld ?_
                    simp only [Act.put, sA, sZ, sS]
                    refine tkN 17 80 rfl hHeld ?_
                    simp only [Act.put, sA, sZ, sS]
                    refine tkN 18 81 rfl hHeld ?_
                    simp only [Act.put, sA, sZ, sS]
                    refine tkN 19 82 rfl hHeld ?_
                    simp only [Act.put, sA, sZ, sS]
                    refine tkN 20 83 rfl hHeld ?_
                    simp only [Act.put, sA, sZ, sS]
                    refine tk 21 84 (.bool false) rfl hHeld ?_
                    simp only [Act.put, sA, sZ, sS]
                    refine wpAnyH_done (by kernel_rfl) ?_ _
                    go_wp2_with fail
                    go_meet
                    case rel => exact ⟨rfl, hHeld⟩
                  · have hne : (y.nm != nm) = true := by rw [bne, beq_eq_false_iff_ne.2 hyn]; rfl
                    have hne2 : (y.nm == nm) = false := beq_eq_false_iff_ne.2 hyn
                    have hry : r = some y := by rw [← HRR.out, HOTH.out y.nm hyn]; exact find_of HRP.out.rise (List.mem_of_getElem? HYY.out)
                    subst hry
                    have hsm : (some y).isSome = true := rfl
                    have HBF : Hid (Blk w8 36 gf (bkL y)) := Lib.hid HBF.out
                    have HSO := Lib.hid (fun W => rsame1_any y y W)
                    rw [bkQ_self] at HSO
                    unfold bkC at HSO
                    rw [HLY.out] at HSO
                    clear hyn
                    refine wp_region_held_drew (S := fun W => Below w8.heap.size w8 W) (by kernel_rfl) ((Below.refl _ _).drew) (fun hHeld => ?_)
                    refine tk 0 63 (.pointer (some ⟨w.heap.size, 1, none⟩)) rfl hHeld ?_
                    simp only [Act.put, sA, sZ, sS]
                    refine tkY 1 64 (.slice (some ⟨b, off, none⟩) len cap) rfl (Or.inl ⟨by rfl, fun W hW => by have hc := PCW.out W (R1.out W hW); go_simp⟩) hHeld ?_
                    simp only [Act.put, sA, sZ, sS]
                    refine tk 2 65 (.int .i64 (k : Int)) rfl hHeld ?_
                    simp only [Act.put, sA, sZ, sS]
                    refine tk 3 66 (.pointer (some ⟨b, off + k * 27, none⟩)) rfl hHeld ?_
                    simp only [Act.put, sA, sZ, sS]
                    refine tk 4 67 (.pointer (some ⟨b, off + k * 27, none⟩)) rfl hHeld ?_
                    simp only [Act.put, sA, sZ, sS]
                    refine tkY 5 68 (.string ⟨y.nm.toArray⟩) rfl (Or.inl ⟨by rfl, fun W hW => by have hc := PY.out W (R1.out W hW); go_simp⟩) hHeld ?_
                    simp only [Act.put, sA, sZ, sS]
                    refine tk 6 69 (.string ⟨nm.toArray⟩) rfl hHeld ?_
                    simp only [Act.put, sA, sZ, sS]
                    refine tk 7 70 (.bool true) rfl hHeld ?_
                    simp only [Act.put, sA, sZ, sS]
                    refine tk 8 71 (.bool true) rfl hHeld ?_
                    simp only [Act.put, sA, sZ, sS]
                    refine tk 9 72 (.bool true) rfl hHeld ?_
                    simp only [Act.put, sA, sZ, sS]
                    refine tk 10 73 (.bool false) rfl hHeld ?_
                    simp only [Act.put, sA, sZ, sS]
                    refine tk 11 74 (.bool false) rfl hHeld ?_
                    simp only [Act.put, sA, sZ, sS]
                    refine tkY 12 75 (.agg LY) rfl (by rw [← HLY.out]; exact yieldsIf_load_mid (by rfl) 36 _ rfl gf 0 (by rfl) (bkL y) _ (fun W hW => Blk_10.range (Blk_10.below HBF.out LF2.out hW)) Try.underlying36 rfl (by rw [bkL_len]; exact sizeBk)) hHeld ?_
                    simp only [Act.put, sA, sZ, sS]
                    refine tk 13 76 (.pointer (some ⟨w.heap.size, 1, none⟩)) rfl hHeld ?_
                    simp only [Act.put, sA, sZ, sS]
                    refine tkY 14 77 (.slice (some ⟨b, off, none⟩) len cap) rfl (Or.inl ⟨by rfl, fun W hW => by have hc := PCW.out W (R1.out W hW); go_simp⟩) hHeld ?_
                    simp only [Act.put, sA, sZ, sS]
                    refine tk 15 78 (.int .i64 (k : Int)) rfl hHeld ?_
                    simp only [Act.put, sA, sZ, sS]
                    refine tk 16 79 (.pointer (some ⟨b, off + k * 27, none⟩)) rfl hHeld ?_
                    simp only [Act.put, sA, sZ, sS]
                    refine tkY 17 80 (.agg LY) rfl (by rw [← HLY.out]; exact yieldsIf_load_mid (by rfl) 36 _ rfl b (off + k * 27) (by rfl) (bkL y) _ (fun W hW => RYA.out W (R1.out W hW)) Try.underlying36 rfl (by rw [bkL_len]; exact sizeBk)) hHeld ?_
                    simp only [Act.put, sA, sZ, sS]
                    refine wpAnyH_ready (rs := [18]) (by kernel_rfl) (by simp) (AllReadyH.cons (o := ⟨some 81, _, _, _, _, _⟩) rfl (fun K hK => ?_) AllReadyH.nil)
                    go_simp
                    refine (HSO.out _).mono ?_
                    rintro e wx ⟨rfl, hbx⟩
                    have HBH := Lib.hid (hHeld.trans (hbx.mono hHeld.size))
                    refine hK.out _ _ (HBH.out) (fun hHeld => ?_)
                    clear hK K hbx
                    refine tk 19 82 (.bool false) rfl hHeld ?_
                    simp only [Act.put, sA, sZ, sS]
                    refine tk 20 83 (.bool false) rfl hHeld ?_
                    simp only [Act.put, sA, sZ, sS]
                    refine tk 21 84 (.bool false) rfl hHeld ?_
                    simp only [Act.put, sA, sZ, sS]
                    refine wpAnyH_done (by kernel_rfl) ?_ _
                    go_wp2_with fail
                    go_meet
                    case rel => exact ⟨rfl, hHeld⟩
                case rest =>
                  obtain ⟨rfl, hwz⟩ := hcut
                  have HWZ := Lib.hid (bel2 HWF.out hwz)
                  clear hwz
                  go_wp2_with fail
                  refine ⟨⟨k + 1, HLTN.out, by go_num, bel2 HW.out HWZ.out⟩, ?_⟩
                  have := HLTN.out
                  simp [RowKit.intOf]
                  omega
            · obtain rfl : k = len := by omega
              have h1 : ¬ (k : Int) < (k : Int) := by omega
              obtain ⟨q0, q1⟩ := QC.out wr HW.out
              obtain ⟨ok, _, _⟩ := OC.out wr DW.out
              rw [HK.out] at ok
              have hkn := HN.out
              clear hlt
              by_cases he : er = 0
              · subst he
                have hd := HDL.out rfl
                have hl5 : q.l.length = n5 := HE5.out.symm
                have hl6 : (xs.length : Int) = (k : Int) := by rw [HLE.out]
                rw [hl5, show ((⟨V, xs⟩ : Pl).l.length : Int) = (k : Int) from hl6] at hd
                clear hl5 hl6
                by_cases c1 : K = 1
                · have k1 : (K == 1) = true := by rw [c1]; rfl
                  have k2 : (K == 2) = false := by rw [c1]; rfl
                  rw [if_pos c1] at hd
                  have heq : ((n5 : Int) == (k : Int) + 1) = true := by rw [beq_iff_eq]; omega
                  clear c1 hkb hd
                  go_wp2_with fail
                  go_ret
                  exact ⟨rfl, HB.out.trans (DW.out.mono HB.out.size)⟩
                · have k1 : (K == 1) = false := beq_eq_false_iff_ne.2 c1
                  rw [if_neg c1] at hd
                  by_cases c2 : K = 2
                  · have k2 : (K == 2) = true := by rw [c2]; rfl
                    rw [if_pos c2] at hd
                    have heq : ((n5 : Int) == (k : Int) - 1) = true := by rw [beq_iff_eq]; omega
                    clear c1 c2 hkb hd
                    go_wp2_with fail
                    go_ret
                    exact ⟨rfl, HB.out.trans (DW.out.mono HB.out.size)⟩
                  · have k2 : (K == 2) = false := beq_eq_false_iff_ne.2 c2
                    rw [if_neg c2] at hd
                    have heq : ((n5 : Int) == (k : Int)) = true := by rw [beq_iff_eq]; omega
                    clear c1 c2 hkb hd
                    go_wp2_with fail
                    go_ret
                    exact ⟨rfl, HB.out.trans (DW.out.mono HB.out.size)⟩
              · have heb : (er == 0) = false := beq_eq_false_iff_ne.2 he
                have hq := HDN.out he
                have heq : ((n5 : Int) == (k : Int)) = true := by
                  have h5 := HE5.out
                  rw [hq] at h5
                  have h6 : n5 = xs.length := h5
                  rw [h6, HLE.out]
                  simp
                clear he hq hkb
                go_wp2_with fail
                go_ret
                exact ⟨rfl, HB.out.trans (DW.out.mono HB.out.size)⟩
end Go.Proofs.Ytajmppaodhpmgaa
