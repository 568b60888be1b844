/-
  PoolKeeps: its walk, the program's contracts a premise.
-/
import Derived.Test.YtajmppaodhpmgaaULaw4
import Derived.Deep.DeepCutAuto
namespace Go.Proofs.Ytajmppaodhpmgaa
set_option maxRecDepth 100000
open Go.RowKit Go.Lib

set_option maxHeartbeats 16000000 in
theorem poolKeeps_walkW (S : PoolC) (V : Int) (_hva : -9223372036854775808 ≤ V) (_hvb : V ≤ 9223372036854775807) (A : Option Addr) (len cap : Nat) (xs : List Bk) (hc : len ≤ cap) (hm : cap ≤ maxLen) (_hX : ∀ x, x ∈ xs → BkOk x) (o : OpU) (_hO : OpOk o) (w : World) (hI : RdG eB w w.heap.size A len xs) :
    Calls Try.prog 9 #[.agg #[.int .i64 V, .slice A len cap], opuC o] w fun e w' => e = .returned (.bool true) ∧ Below w.heap.size w w' := by
  have HSS := Lib.hid S
  have HLE := Lib.hid hI.len
  have HCP := Lib.hid hc
  have HCM := Lib.hid hm
  have HLB := Lib.hid (big_max hc hm)
  unfold opuC
  obtain ⟨LO, hLO⟩ : ∃ L, (opuL o).toArray = L := ⟨_, rfl⟩
  rw [hLO]
  obtain ⟨Y, hY, hT, hXb, hB⟩ := box_po w #[.int .i64 V, .slice A len cap] (opuL o).toArray
  rw [hLO] at hY
  have HX := Lib.hid hXb
  have HLO := Lib.hid hLO
  have HLX := Lib.hid (Blk_10.lt hXb)
  clear hXb hLO
  have HT := Lib.hid hT
  have HB := Lib.hid hB
  have HR := Lib.hid (hI.below hB)
  have HY := Lib.hid hY
  have HLT := Lib.hid (Blk_10.lt hT)
  have PC : Hid (∀ W, Below Y.heap.size Y W → W.cell? ⟨w.heap.size, 0, none⟩ = some (.int .i64 V) ∧ W.cell? ⟨w.heap.size, 1, none⟩ = some (.slice A len cap)) := Lib.hid (fun W h => ⟨(h.cell (p := ⟨w.heap.size, 0, none⟩) HLT.out).trans (Blk_10.cell HT.out (i := 0) rfl), (h.cell (p := ⟨w.heap.size, 1, none⟩) HLT.out).trans (Blk_10.cell HT.out (i := 1) rfl)⟩)
  have PR : Hid (∀ W, Below Y.heap.size Y W → RdG eB W w.heap.size A len xs) := Lib.hid (fun W h => HR.out.below (h.mono HB.out.size))
  have PS : Hid (∀ W : World, Below Y.heap.size Y W → w.heap.size ≤ W.heap.size) := Lib.hid (fun W h => Nat.le_trans HB.out.size h.size)
  have OX : Hid (∀ W, Below Y.heap.size Y W → W.rangeAt (w.heap.size + 1) 0 (opuL o)) := Lib.hid (fun W h => Blk_10.range (Blk_10.below HX.out HLX.out h))
  have HAW := Lib.hid (fun W => awake_any S W)
  obtain ⟨F, hF⟩ : ∃ F, fewU xs = F := ⟨_, rfl⟩
  have HFE := Lib.hid hF
  have HFW : Hid (∀ W, Below Y.heap.size Y W → Calls Try.prog 11 #[.agg #[.int .i64 V, .slice A len cap]] W fun e w' => e = .returned (.bool F) ∧ Below W.heap.size W w') := Lib.hid (by rw [← hF]; exact fun W h => rfewU_any cap HLB.out V W (PS.out W h) (PR.out W h))
  clear hF hc hm _hX hI hT hB hY S
  clear _hO _hva _hvb
  cases F
  · skip
    go_enter Try.func9, Try.ntmps9
    go_upto_region 1 with (fail)
    rw [HY.out]
    go_wp2_with (first | ((with_reducible refine (HAW.out Y).mono ?_); rintro e w1 ⟨rfl, hb⟩; have D1 := Lib.hid hb; obtain ⟨p0, p1⟩ := PC.out w1 hb; clear hb) | ((with_reducible refine (HFW.out w1 D1.out).mono ?_); rintro e w2 ⟨rfl, hb⟩; have D2 := Lib.hid (bel2 D1.out hb); clear p0 p1 hb; obtain ⟨p0, p1⟩ := PC.out w2 D2.out))
    refine (HAW.out _).mono ?_
    rintro e wz ⟨rfl, hz⟩
    go_wp2_with fail
    go_ret
    exact ⟨rfl, HB.out.trans ((bel2 D2.out hz).mono HB.out.size)⟩
  · have HN := Lib.hid (few_n HFE.out HLE.out)
    have HSH := Lib.hid (few_s HFE.out)
    by_cases hrp : RightP ⟨V, xs⟩
    case neg =>
      have HRW : Hid (∀ W, Below Y.heap.size Y W → Calls Try.prog 15 #[.agg #[.int .i64 V, .slice A len cap]] W fun e w' => e = .returned (.bool false) ∧ Below W.heap.size W w') := Lib.hid (fun W h => (rright18_any cap (p := ⟨V, xs⟩) HLB.out (fun x hx => Nat.le_trans (HSH.out x hx) (by decide)) W (PS.out W h) (PR.out W h)).mono (fun e w' ⟨r, he, hr, hb⟩ => ⟨by rw [he]; congr 2; exact Bool.eq_false_iff.2 (fun h => hrp (hr.1 h)), hb⟩))
      clear hrp
      go_enter Try.func9, Try.ntmps9
      go_upto_region 1 with (fail)
      rw [HY.out]
      go_wp2_with (first | ((with_reducible refine (HAW.out Y).mono ?_); rintro e w1 ⟨rfl, hb⟩; have D1 := Lib.hid hb; obtain ⟨p0, p1⟩ := PC.out w1 hb; clear hb) | ((with_reducible refine (HFW.out w1 D1.out).mono ?_); rintro e w2 ⟨rfl, hb⟩; have D2 := Lib.hid (bel2 D1.out hb); clear p0 p1 hb; obtain ⟨p0, p1⟩ := PC.out w2 D2.out) | ((with_reducible refine (HRW.out w2 D2.out).mono ?_); rintro e w3 ⟨rfl, hb⟩; have D3 := Lib.hid (bel2 D2.out hb); clear p0 p1 hb; obtain ⟨p0, p1⟩ := PC.out w3 D3.out))
      refine (HAW.out _).mono ?_
      rintro e wz ⟨rfl, hz⟩
      go_wp2_with fail
      go_ret
      exact ⟨rfl, HB.out.trans ((bel2 D3.out hz).mono HB.out.size)⟩
    case pos =>
      have HRW : Hid (∀ W, Below Y.heap.size Y W → Calls Try.prog 15 #[.agg #[.int .i64 V, .slice A len cap]] W fun e w' => e = .returned (.bool true) ∧ Below W.heap.size W w') := Lib.hid (fun W h => (rright18_any cap (p := ⟨V, xs⟩) HLB.out (fun x hx => Nat.le_trans (HSH.out x hx) (by decide)) W (PS.out W h) (PR.out W h)).mono (fun e w' ⟨r, he, hr, hb⟩ => ⟨by rw [he]; congr 2; exact hr.2 hrp, hb⟩))
      have HRP := Lib.hid hrp
      obtain ⟨G, hG⟩ : ∃ G, fewO [o] = G := ⟨_, rfl⟩
      have HGE := Lib.hid hG
      clear hG hrp
      have HFO : Hid (∀ W : World, Calls Try.prog 18 #[.slice (some ⟨W.heap.size, 0, none⟩) 1 1] (W.alloc (.cells LO eO.T)) fun e w' => e = .returned (.bool G) ∧ w' = W.alloc (.cells LO eO.T)) := Lib.hid (fun W => by rw [← HGE.out]; exact rfewO_any 1 (by decide) _ (RdG.laid eO W [o] 1 rfl _ (by rw [← HLO.out]; simp [Enc.cells]; rfl)))
      cases G
      · skip
        go_enter Try.func9, Try.ntmps9
        go_upto_region 1 with (fail)
        rw [HY.out]
        go_wp2_with (first | ((with_reducible refine (HAW.out Y).mono ?_); rintro e w1 ⟨rfl, hb⟩; have D1 := Lib.hid hb; obtain ⟨p0, p1⟩ := PC.out w1 hb; clear hb) | ((with_reducible refine (HFW.out w1 D1.out).mono ?_); rintro e w2 ⟨rfl, hb⟩; have D2 := Lib.hid (bel2 D1.out hb); clear p0 p1 hb; obtain ⟨p0, p1⟩ := PC.out w2 D2.out) | ((with_reducible refine (HRW.out w2 D2.out).mono ?_); rintro e w3 ⟨rfl, hb⟩; have D3 := Lib.hid (bel2 D2.out hb); clear p0 p1 hb; obtain ⟨p0, p1⟩ := PC.out w3 D3.out) | ((with_reducible show wpList _ _ _ (⟨some 24, _, _, _, _, _⟩ :: _) _ _); refine wpList_loadOp (op := ⟨some 24, _, _, _, _, _⟩) _ rfl (by rfl) (w.heap.size + 1) 0 (by rfl) o (OX.out w3 D3.out) _ HLO.out ?_) | ((with_reducible show wpList _ _ _ (⟨some 25, _, _, _, _, _⟩ :: _) _ _); refine wpList_build1w (o := ⟨some 25, _, _, _, _, _⟩) eO (by decide) o (by rfl) 24 rfl _ HLO.out (by rfl) ?_) | ((with_reducible refine (HFO.out w3).mono ?_); rintro e w4 ⟨rfl, hb⟩; have D4 := Lib.hid (show Below Y.heap.size Y w4 by rw [hb]; exact D3.out.alloc D3.out.size _); clear p0 p1 hb; obtain ⟨p0, p1⟩ := PC.out w4 D4.out))
        refine (HAW.out _).mono ?_
        rintro e wz ⟨rfl, hz⟩
        go_wp2_with fail
        go_ret
        exact ⟨rfl, HB.out.trans ((bel2 D4.out hz).mono HB.out.size)⟩
      · have HS := Lib.hid (few_op HGE.out)
        go_enter Try.func9, Try.ntmps9
        go_upto_region 1 with (fail)
        rw [HY.out]
        go_upto_region 3 with (first | ((with_reducible refine (HAW.out Y).mono ?_); rintro e w1 ⟨rfl, hb⟩; have D1 := Lib.hid hb; obtain ⟨p0, p1⟩ := PC.out w1 hb; clear hb) | ((with_reducible refine (HFW.out w1 D1.out).mono ?_); rintro e w2 ⟨rfl, hb⟩; have D2 := Lib.hid (bel2 D1.out hb); clear p0 p1 hb; obtain ⟨p0, p1⟩ := PC.out w2 D2.out) | ((with_reducible refine (HRW.out w2 D2.out).mono ?_); rintro e w3 ⟨rfl, hb⟩; have D3 := Lib.hid (bel2 D2.out hb); clear p0 p1 hb; obtain ⟨p0, p1⟩ := PC.out w3 D3.out) | ((with_reducible show wpList _ _ _ (⟨some 24, _, _, _, _, _⟩ :: _) _ _); refine wpList_loadOp (op := ⟨some 24, _, _, _, _, _⟩) _ rfl (by rfl) (w.heap.size + 1) 0 (by rfl) o (OX.out w3 D3.out) _ HLO.out ?_) | ((with_reducible show wpList _ _ _ (⟨some 25, _, _, _, _, _⟩ :: _) _ _); refine wpList_build1w (o := ⟨some 25, _, _, _, _, _⟩) eO (by decide) o (by rfl) 24 rfl _ HLO.out (by rfl) ?_) | ((with_reducible refine (HFO.out w3).mono ?_); rintro e w4 ⟨rfl, hb⟩; have D4 := Lib.hid (show Below Y.heap.size Y w4 by rw [hb]; exact D3.out.alloc D3.out.size _); clear p0 p1 hb; obtain ⟨p0, p1⟩ := PC.out w4 D4.out))
        clear p0 p1
        go_cut [5] (fun s wx => ∃ (g : Nat) (v : Value), s = .pointer (some ⟨g, 0, none⟩) ∧ Blk wx 24 g [.int .i64 V, v] ∧ OwnG eB wx w4.heap.size v xs ∧ v.ownBlock ≠ some g ∧ w4.heap.size ≤ g ∧ Below w4.heap.size w4 wx)
        case first =>
          refine wp_region_held_drew (S := fun W => Below w4.heap.size w4 W) (by kernel_rfl) ((Below.refl _ _).drew) (fun hHeld => ?_)
          obtain ⟨X0, hX0⟩ : ∃ X, w4.drew = X := ⟨_, rfl⟩
          rw [hX0] at hHeld ⊢
          clear hX0
          have HXS := Lib.hid hHeld.size
          refine tk 0 30 (.pointer (some ⟨w.heap.size, 0, none⟩)) rfl hHeld ?_
          simp only [Act.put, sA, sZ, sS]
          refine tkY 1 31 (.int .i64 V) rfl (Or.inl ⟨by rfl, fun W hW => by obtain ⟨h1, h2⟩ := PC.out W (bel2 D4.out hW); go_simp⟩) hHeld ?_
          simp only [Act.put, sA, sZ, sS]
          refine tk 3 33 (.pointer (some ⟨w.heap.size, 1, none⟩)) rfl hHeld ?_
          simp only [Act.put, sA, sZ, sS]
          refine tkY 4 34 (.slice A len cap) rfl (Or.inl ⟨by rfl, fun W hW => by obtain ⟨h1, h2⟩ := PC.out W (bel2 D4.out hW); go_simp⟩) hHeld ?_
          simp only [Act.put, sA, sZ, sS]
          refine wpAnyH_ready (rs := [2, 7]) (by kernel_rfl) (by simp) (AllReadyH.cons (o := ⟨some 32, _, _, _, _, _⟩) rfl (fun K hK => ?_) (AllReadyH.cons (o := ⟨some 5, _, _, _, _, _⟩) rfl (fun K hK => ?_) AllReadyH.nil))
          · skip
            have hnb := hHeld.alloc hHeld.size (.cells #[] 36)
            have hoe := OwnG.empty eB X0 hHeld.size
            go_simp
            refine hK.out _ _ hnb (fun hHeld => ?_)
            clear hK K hnb
            refine wpAnyH_ready (rs := [5, 7]) (by kernel_rfl) (by simp) (AllReadyH.cons (o := ⟨some 35, _, _, _, _, _⟩) rfl (fun K hK => ?_) (AllReadyH.cons (o := ⟨some 5, _, _, _, _, _⟩) rfl (fun K hK => ?_) AllReadyH.nil))
            · skip
              refine step_appendG eB rfl _ _ rfl w4.heap.size _ [] (by rfl) hoe w.heap.size A len cap xs (by rfl) ((PR.out _ (bel2 D4.out hHeld))) (by have := HN.out; simp; omega) hHeld.size ?_
              intro v1 w5 ho hg hvb
              rw [List.nil_append] at ho
              have hb5 := hHeld.grown hg hHeld.size (hoe.lt)
              have HG5 := Lib.hid hg
              have HV5 := Lib.hid hvb
              have HO5 := Lib.hid ho
              refine hK.out _ _ (hb5) (fun hHeld => ?_)
              clear hK K ho hg hvb
              obtain ⟨A5, n5, c5, rfl, e5, q5, m5, r5, ow5⟩ := own_any HO5.out
              clear e5 q5 m5 r5 ow5
              refine tk 6 36 (.agg #[.int .i64 V, .slice A5 n5 c5]) rfl hHeld ?_
              simp only [Act.put, sA, sZ, sS]
              refine wpAnyH_ready (rs := [7]) (by kernel_rfl) (by simp) (AllReadyH.cons (o := ⟨some 5, _, _, _, _, _⟩) rfl (fun K hK => ?_) AllReadyH.nil)
              have hbn := Blk_10.new w5 24 [.int .i64 0, .slice none 0 0]
              have hnb := hHeld.alloc hHeld.size (.cells #[.int .i64 0, .slice none 0 0] 24)
              have HGE := Lib.hid hHeld.size
              go_simp
              refine hK.out _ _ hnb (fun hHeld => ?_)
              clear hK K hnb
              refine wpAnyH_ready (rs := [8]) (by kernel_rfl) (by simp) (AllReadyH.cons (o := ⟨none, _, _, _, _, _⟩) rfl (fun K hK => ?_) AllReadyH.nil)
              refine step_storeBA rfl 24 (.tmp 5) (.tmp 36) rfl (w5.heap.size) (by rfl) [.int .i64 V, .slice A5 n5 c5] (by rfl) [.int .i64 0, .slice none 0 0] (hbn) rfl poolSize (by simp [Value.oneCell']) ?_
              intro wz hbz hgz
              have HNE : Hid ((Value.slice A5 n5 c5).ownBlock ≠ some (w5.heap.size)) := Lib.hid (fun e => Nat.lt_irrefl _ (HO5.out.ltS _ e))
              have HZ := Lib.hid (below_gb hHeld hgz HGE.out hHeld.size)
              have HBZ := Lib.hid hbz
              have HOZ := Lib.hid ((HO5.out.alloc _).kept hgz (.inr HNE.out))
              refine hK.out _ _ (HZ.out) (fun hHeld => ?_)
              clear hK K hbz hgz
              refine wpAnyH_done (by kernel_rfl) ?_ _
              go_wp2_with fail
              go_meet
              case rel => exact ⟨_, _, rfl, HBZ.out, HOZ.out, HNE.out, HGE.out, hHeld⟩
            · skip
              have hbn := Blk_10.new (X0.alloc (.cells #[] 36)) 24 [.int .i64 0, .slice none 0 0]
              have hlo := hoe.alloc (.cells #[.int .i64 0, .slice none 0 0] 24)
              skip
              have hnb := hHeld.alloc hHeld.size (.cells #[.int .i64 0, .slice none 0 0] 24)
              have HGE := Lib.hid hHeld.size
              go_simp
              refine hK.out _ _ hnb (fun hHeld => ?_)
              clear hK K hnb
              have hoe := hlo
              clear hlo HGE
              rw [World.size_alloc] at hbn
              have HGE := Lib.hid (show w4.heap.size ≤ X0.heap.size + 1 by have := HXS.out; omega)
              have HPB := Lib.hid hbn
              have HSZ := Lib.hid (show ((X0.alloc (.cells #[] 36)).alloc (.cells #[.int .i64 0, .slice none 0 0] 24)).heap.size = X0.heap.size + 2 by rw [World.size_alloc, World.size_alloc])
              refine wpAnyH_ready (rs := [5]) (by kernel_rfl) (by simp) (AllReadyH.cons (o := ⟨some 35, _, _, _, _, _⟩) rfl (fun K hK => ?_) AllReadyH.nil)
              refine step_appendG eB rfl _ _ rfl w4.heap.size _ [] (by rfl) hoe w.heap.size A len cap xs (by rfl) ((PR.out _ (bel2 D4.out hHeld))) (by have := HN.out; simp; omega) hHeld.size ?_
              intro v1 w5 ho hg hvb
              rw [List.nil_append] at ho
              have hb5 := hHeld.grown hg hHeld.size (hoe.lt)
              have HG5 := Lib.hid hg
              have HV5 := Lib.hid hvb
              have HO5 := Lib.hid ho
              refine hK.out _ _ (hb5) (fun hHeld => ?_)
              clear hK K ho hg hvb
              obtain ⟨A5, n5, c5, rfl, e5, q5, m5, r5, ow5⟩ := own_any HO5.out
              clear e5 q5 m5 r5 ow5
              refine tk 6 36 (.agg #[.int .i64 V, .slice A5 n5 c5]) rfl hHeld ?_
              simp only [Act.put, sA, sZ, sS]
              refine wpAnyH_ready (rs := [8]) (by kernel_rfl) (by simp) (AllReadyH.cons (o := ⟨none, _, _, _, _, _⟩) rfl (fun K hK => ?_) AllReadyH.nil)
              refine step_storeBA rfl 24 (.tmp 5) (.tmp 36) rfl (X0.heap.size + 1) (by rfl) [.int .i64 V, .slice A5 n5 c5] (by rfl) [.int .i64 0, .slice none 0 0] (Blk.gb HPB.out HG5.out (fun e => by have := Option.some.inj e; dsimp only at this; omega)) rfl poolSize (by simp [Value.oneCell']) ?_
              intro wz hbz hgz
              have HNE : Hid ((Value.slice A5 n5 c5).ownBlock ≠ some (X0.heap.size + 1)) := Lib.hid (fun e => by rcases HV5.out with h | h; (rw [h] at e; have := Option.some.inj e; dsimp only at this; omega); (rw [h, HSZ.out] at e; have := Option.some.inj e; omega))
              have HZ := Lib.hid (below_gb hHeld hgz HGE.out hHeld.size)
              have HBZ := Lib.hid hbz
              have HOZ := Lib.hid ((HO5.out).kept hgz (.inr HNE.out))
              refine hK.out _ _ (HZ.out) (fun hHeld => ?_)
              clear hK K hbz hgz
              refine wpAnyH_done (by kernel_rfl) ?_ _
              go_wp2_with fail
              go_meet
              case rel => exact ⟨_, _, rfl, HBZ.out, HOZ.out, HNE.out, HGE.out, hHeld⟩
          · skip
            have hbn := Blk_10.new X0 24 [.int .i64 0, .slice none 0 0]
            have hnb := hHeld.alloc hHeld.size (.cells #[.int .i64 0, .slice none 0 0] 24)
            have HGE := Lib.hid hHeld.size
            go_simp
            refine hK.out _ _ hnb (fun hHeld => ?_)
            clear hK K hnb
            refine wpAnyH_ready (rs := [2]) (by kernel_rfl) (by simp) (AllReadyH.cons (o := ⟨some 32, _, _, _, _, _⟩) rfl (fun K hK => ?_) AllReadyH.nil)
            have hbn2 := Blk_10.alloc hbn (.cells #[] 36)
            clear hbn
            have HPB := Lib.hid hbn2
            have HSZ := Lib.hid (show ((X0.alloc (.cells #[.int .i64 0, .slice none 0 0] 24)).alloc (.cells #[] 36)).heap.size = X0.heap.size + 2 by rw [World.size_alloc, World.size_alloc])
            clear hbn2
            have hnb := hHeld.alloc hHeld.size (.cells #[] 36)
            have hoe := OwnG.empty eB (X0.alloc (.cells #[.int .i64 0, .slice none 0 0] 24)) hHeld.size
            go_simp
            refine hK.out _ _ hnb (fun hHeld => ?_)
            clear hK K hnb
            rw [World.size_alloc] at hoe
            refine wpAnyH_ready (rs := [5]) (by kernel_rfl) (by simp) (AllReadyH.cons (o := ⟨some 35, _, _, _, _, _⟩) rfl (fun K hK => ?_) AllReadyH.nil)
            refine step_appendG eB rfl _ _ rfl w4.heap.size _ [] (by rfl) hoe w.heap.size A len cap xs (by rfl) ((PR.out _ (bel2 D4.out hHeld))) (by have := HN.out; simp; omega) hHeld.size ?_
            intro v1 w5 ho hg hvb
            rw [List.nil_append] at ho
            have hb5 := hHeld.grown hg hHeld.size (hoe.lt)
            have HG5 := Lib.hid hg
            have HV5 := Lib.hid hvb
            have HO5 := Lib.hid ho
            refine hK.out _ _ (hb5) (fun hHeld => ?_)
            clear hK K ho hg hvb
            obtain ⟨A5, n5, c5, rfl, e5, q5, m5, r5, ow5⟩ := own_any HO5.out
            clear e5 q5 m5 r5 ow5
            refine tk 6 36 (.agg #[.int .i64 V, .slice A5 n5 c5]) rfl hHeld ?_
            simp only [Act.put, sA, sZ, sS]
            refine wpAnyH_ready (rs := [8]) (by kernel_rfl) (by simp) (AllReadyH.cons (o := ⟨none, _, _, _, _, _⟩) rfl (fun K hK => ?_) AllReadyH.nil)
            refine step_storeBA rfl 24 (.tmp 5) (.tmp 36) rfl (X0.heap.size) (by rfl) [.int .i64 V, .slice A5 n5 c5] (by rfl) [.int .i64 0, .slice none 0 0] (Blk.gb HPB.out HG5.out (fun e => by have := Option.some.inj e; dsimp only at this; omega)) rfl poolSize (by simp [Value.oneCell']) ?_
            intro wz hbz hgz
            have HNE : Hid ((Value.slice A5 n5 c5).ownBlock ≠ some (X0.heap.size)) := Lib.hid (fun e => by rcases HV5.out with h | h; (rw [h] at e; have := Option.some.inj e; dsimp only at this; omega); (rw [h, HSZ.out] at e; have := Option.some.inj e; omega))
            have HZ := Lib.hid (below_gb hHeld hgz HGE.out hHeld.size)
            have HBZ := Lib.hid hbz
            have HOZ := Lib.hid ((HO5.out).kept hgz (.inr HNE.out))
            refine hK.out _ _ (HZ.out) (fun hHeld => ?_)
            clear hK K hbz hgz
            refine wpAnyH_done (by kernel_rfl) ?_ _
            go_wp2_with fail
            go_meet
            case rel => exact ⟨_, _, rfl, HBZ.out, HOZ.out, HNE.out, HGE.out, hHeld⟩
        case rest =>
          obtain ⟨gp, v5, rfl, hbp, hov, hne, hge, hbw⟩ := hcut
          obtain ⟨A5, n5, c5, rfl, e5, q5, m5, r5, ow5⟩ := own_any hov
          rw [HLE.out] at e5
          subst n5
          have HBP := Lib.hid hbp
          have HO5 := Lib.hid ow5
          have HQ5 := Lib.hid q5
          have HM5 := Lib.hid m5
          have HR5 := Lib.hid r5
          have HNE := Lib.hid hne
          have HGE := Lib.hid hge
          have HB4 := Lib.hid hbw
          have D5 := Lib.hid (bel2 D4.out hbw)
          have LP5 := Lib.hid (Blk_10.lt hbp)
          clear hbp hov hne hge hbw q5 m5 r5 ow5
          obtain ⟨w5, hw5⟩ : ∃ z, z = wc := ⟨_, rfl⟩
          subst hw5
          have u0 : w5.cell? ⟨gp, 0, none⟩ = some (.int .i64 V) := Blk_10.cell HBP.out (i := 0) rfl
          have u1 : w5.cell? ⟨gp, 1, none⟩ = some (.slice A5 len c5) := Blk_10.cell HBP.out (i := 1) rfl
          obtain ⟨L0, hL0⟩ : ∃ L, (bkL bk0).toArray = L := ⟨_, rfl⟩
          have HL0 := Lib.hid hL0
          have B0 : Hid (Try.prog.built 36 [] = some L0) := Lib.hid (by rw [← hL0]; kernel_rfl)
          clear hL0
          have HQR := Lib.hid (do_right HRP.out o)
          have HQN := Lib.hid (do_few HRP.out o (Nat.le_trans (Nat.le_of_eq HLE.out) (Nat.le_trans HN.out (by decide))))
          have HDO : Hid (Calls Try.prog 19 #[.agg #[.int .i64 V, .slice A5 len c5], .agg LO] w5 fun e w' => ∃ v, e = .returned (.tuple #[.agg #[.int .i64 (doP ⟨V, xs⟩ o).ver, v], .int .i64 (o.err ⟨V, xs⟩)]) ∧ OwnG eB w' w5.heap.size v (doP ⟨V, xs⟩ o).l ∧ Below w5.heap.size w5 w') := Lib.hid (by have := HSS.out.do_ (p := ⟨V, xs⟩) c5 HQ5.out HM5.out HRP.out (Nat.le_trans HN.out (by decide)) o HS.out.1 HS.out.2 w5 (Nat.le_refl _) HR5.out; unfold opuC at this; rw [HLO.out] at this; exact this)
          have HDR : Hid (∀ W, Below Y.heap.size Y W → Calls Try.prog 20 #[.agg #[.int .i64 V, .slice A len cap], .agg LO] W (DoGave w.heap.size W ⟨V, xs⟩ o)) := Lib.hid (fun W h => by have := rdo_any cap HRP.out o (Nat.le_trans HS.out.2 (by decide)) W (PS.out W h) (PR.out W h); unfold opuC at this; rw [HLO.out] at this; exact this)
          unfold DoGave at HDR
          generalize doP ⟨V, xs⟩ o = q at HQR HQN HDO HDR
          generalize o.err ⟨V, xs⟩ = er at HDO HDR
          go_upto_region 5 with (first | ((with_reducible show wpList _ _ _ (⟨some 39, _, _, _, _, _⟩ :: _) _ _); refine wpList_loadOp (op := ⟨some 39, _, _, _, _, _⟩) _ rfl (by rfl) (w.heap.size + 1) 0 (by rfl) o (OX.out w5 D5.out) _ HLO.out ?_) | ((with_reducible refine (HDO.out).mono ?_); rintro e w6 ⟨v6, rfl, ho6, hb6⟩; obtain ⟨A6, n6, c6, rfl, e6, q6, m6, r6, ow6⟩ := own_any ho6; have HE6 := Lib.hid e6; have HQ6 := Lib.hid q6; have HM6 := Lib.hid m6; have HR6 := Lib.hid r6; have HO6 := Lib.hid ow6; have HB6 := Lib.hid hb6; have D6 := Lib.hid (bel2 D5.out hb6); clear e6 q6 m6 r6 ho6 hb6 ow6) | ((with_reducible show wpList _ _ _ (⟨none, .store 24 (.tmp 6) _, _, _, _, _⟩ :: _) _ _); refine wpList_storeNewG rfl 24 (.tmp 6) _ rfl (by rfl) ([.int .i64 q.ver, .slice A6 n6 c6]) (by rfl) (by simp) (poolSize) (by simp [Value.oneCell']) ?_; intro w7 hb hB hz; have HK7 := Lib.hid hb; have HBw7 := Lib.hid hB; clear hb hB hz))
          clear u0 u1
          have B57 := Lib.hid (bel2 HB6.out HBw7.out)
          have D7 := Lib.hid (bel2 D6.out HBw7.out)
          have L7 := Lib.hid (Blk_10.lt HK7.out)
          obtain ⟨p0, p1⟩ := PC.out w7 D7.out
          have u0 : w7.cell? ⟨gp, 0, none⟩ = some (.int .i64 V) := Blk_10.cell (Blk_10.below HBP.out LP5.out B57.out) (i := 0) rfl
          have u1 : w7.cell? ⟨gp, 1, none⟩ = some (.slice A5 len c5) := Blk_10.cell (Blk_10.below HBP.out LP5.out B57.out) (i := 1) rfl
          have HSM := Lib.hid (rsame18_any (p := ⟨V, xs⟩) (q := ⟨V, xs⟩) c5 cap HLB.out HLB.out w7 (Nat.le_refl _) ((HR5.out.below B57.out).more B57.out.size) ((PR.out w7 D7.out).more (PS.out w7 D7.out)))
          rw [samePl_self] at HSM
          go_wp2_with (first | ((with_reducible refine HSM.out.mono ?_); rintro e w8 ⟨rfl, hb⟩; have HB8 := Lib.hid hb; clear hb p0 p1 u0 u1))
          have B58 := Lib.hid (bel2 B57.out HB8.out)
          have D8 := Lib.hid (bel2 D7.out HB8.out)
          have U1 : Hid (w8.cell? ⟨gp, 1, none⟩ = some (.slice A5 len c5)) := Lib.hid (Blk_10.cell (Blk_10.below HBP.out LP5.out B58.out) (i := 1) rfl)
          have HO8 := Lib.hid (HO5.out.below B58.out)
          go_loopw [8] (fun i wr => ∃ k : Nat, k ≤ len ∧ i = .int .i64 (k : Int) ∧ w8.grownBy wr (Value.slice A5 len c5).ownBlock ∧ Hid (∀ go, A5 = some ⟨go, 0, none⟩ → wr.there go 0 (len * 27))) (fun i _ => len - (RowKit.intOf i).toNat)
          case atStart => exact ⟨0, Nat.zero_le _, rfl, World.grownBy.refl _ _, Lib.hid (fun go e => by subst e; exact there_own HO8.out)⟩
          case round =>
            obtain ⟨k, hk, rfl, hg, hth⟩ := hrel
            have HG := Lib.hid hg
            have u1 : wr.cell? ⟨gp, 1, none⟩ = some (.slice A5 len c5) := hg.cell U1.out (fun e => HNE.out e.symm)
            clear hg
            by_cases hlt : k < len
            · have h1 : (k : Int) < (len : Int) := by omega
              have h0 : (0 : Int) ≤ (k : Int) := by omega
              obtain ⟨go, hA5, _⟩ : ∃ go, A5 = some ⟨go, 0, none⟩ ∧ w4.heap.size ≤ go := by
                obtain ⟨_, _, _, e, _, _, _, _, hg⟩ := HO5.out.sl
                cases e
                obtain ⟨g, e, h1, _⟩ := hg (Nat.lt_of_le_of_lt (Nat.zero_le _) hlt)
                exact ⟨g, e, h1⟩
              subst hA5
              have HTH := Lib.hid (hth.out go rfl)
              have HLTN := Lib.hid hlt
              have hk9 : k < 9223372036854775807 := by have := HN.out; omega
              have HLE2 := Lib.hid (show k * 27 + eB.k ≤ len * 27 by show k * 27 + 27 ≤ len * 27; omega)
              clear hth hlt
              go_wp2_with (first | ((with_reducible show wpList _ _ _ (⟨some 57, _, _, _, _, _⟩ :: _) _ _); refine wpList_buildw (op := ⟨some 57, _, _, _, _, _⟩) 36 #[] rfl (by rfl) [] (by simp) L0 B0.out ?_) | ((with_reducible show wpList _ _ _ (⟨none, .store 36 (.tmp 58) _, _, _, _, _⟩ :: _) _ _); refine wpList_storeRowU eB rfl (.tmp 58) _ rfl go (k * 27) (len * 27) (by rfl) bk0 L0 HL0.out (by rfl) HTH.out HLE2.out ?_; intro w9 ht9 hg9; have HT9 := Lib.hid ht9; have HG9 := Lib.hid (gb2 HG.out hg9); clear ht9 hg9))
              refine ⟨⟨k + 1, HLTN.out, by go_num, HG9.out, Lib.hid (fun g' e => by cases e; exact HT9.out)⟩, ?_⟩
              have := HLTN.out
              simp [RowKit.intOf]
              omega
            · obtain rfl : k = len := by omega
              have h1 : ¬ (k : Int) < (k : Int) := by omega
              clear hth hlt
              have DR9 := Lib.hid (D8.out.grown HG.out D8.out.size (fun g hg => by have := HO5.out.lt g hg; have := D4.out.size; omega))
              obtain ⟨p0, p1⟩ := PC.out wr DR9.out
              go_upto_region 12 with (first | ((with_reducible show wpList _ _ _ (⟨some 61, _, _, _, _, _⟩ :: _) _ _); refine wpList_loadOp (op := ⟨some 61, _, _, _, _, _⟩) _ rfl (by rfl) (w.heap.size + 1) 0 (by rfl) o (OX.out wr DR9.out) _ HLO.out ?_) | ((with_reducible refine (HDR.out wr DR9.out).mono ?_); rintro e wa ⟨Aa, na, ca, rfl, ra, _, hba⟩; have HRa := Lib.hid ra; have HBa := Lib.hid hba; clear ra hba p0 p1) | ((with_reducible show wpList _ _ _ (⟨none, .store 24 (.tmp 9) _, _, _, _, _⟩ :: _) _ _); refine wpList_storeNewG rfl 24 (.tmp 9) _ rfl (by rfl) ([.int .i64 q.ver, .slice Aa na ca]) (by rfl) (by simp) (poolSize) (by simp [Value.oneCell']) ?_; intro wb hb hB hz; have HKb := Lib.hid hb; have HBwb := Lib.hid hB; clear hb hB hz))
              clear u1
              have Brb := Lib.hid (bel2 HBa.out HBwb.out)
              have HK7r : Hid (Blk wr 24 w6.heap.size [.int .i64 q.ver, .slice A6 n6 c6]) := Lib.hid (Blk.gb (Blk_10.below HK7.out L7.out HB8.out) HG.out (fun e => by have := (HO5.out.ltS _ e); have := HB6.out.size; omega))
              have L7r := Lib.hid (Blk_10.lt HK7r.out)
              have HO6r := Lib.hid ((HO6.out.below (bel2 HBw7.out HB8.out)).kept HG.out (by
                cases hb6 : (Value.slice A6 n6 c6).ownBlock with
                | none => exact .inl rfl
                | some g6 => exact .inr (fun e => by have h1 := HO6.out.lt g6 hb6; have h2 := HO5.out.ltS g6 e.symm; omega)))
              have z0 : wb.cell? ⟨w6.heap.size, 0, none⟩ = some (.int .i64 q.ver) := Blk_10.cell (Blk_10.below HK7r.out L7r.out Brb.out) (i := 0) rfl
              have z1 : wb.cell? ⟨w6.heap.size, 1, none⟩ = some (.slice A6 n6 c6) := Blk_10.cell (Blk_10.below HK7r.out L7r.out Brb.out) (i := 1) rfl
              have y0 : wb.cell? ⟨wa.heap.size, 0, none⟩ = some (.int .i64 q.ver) := Blk_10.cell HKb.out (i := 0) rfl
              have y1 : wb.cell? ⟨wa.heap.size, 1, none⟩ = some (.slice Aa na ca) := Blk_10.cell HKb.out (i := 1) rfl
              have HSN := Lib.hid (rsame18_any (p := q) (q := q) c6 ca (show n6 ≤ 9223372036854775807 by have := HQN.out; have := HE6.out; omega) (show na ≤ 9223372036854775807 by have := HQN.out; have := HRa.out.len; omega) wb (Nat.le_refl _) ((HO6r.out.below Brb.out).rd) ((HRa.out.below HBwb.out).more HBwb.out.size))
              rw [samePl_self] at HSN
              go_wp2_with ((with_reducible refine HSN.out.mono ?_); rintro e wz ⟨rfl, hz⟩; have HBz := Lib.hid hz; clear hz)
              go_ret
              exact ⟨rfl, HB.out.trans ((bel2 DR9.out (bel2 Brb.out HBz.out)).mono HB.out.size)⟩
end Go.Proofs.Ytajmppaodhpmgaa
