/-
  awake of stage 18: the answers that the document fixes, from the program's contracts.
-/
import Derived.Test.YtajmppaodhpmgaaUC
import Derived.Test.YtajmppaodhpmgaaWNan
import Derived.Deep.DeepCutAuto
namespace Go.Proofs.Ytajmppaodhpmgaa
set_option maxRecDepth 100000
open Go.RowKit Go.Lib

theorem own_one {α : Type} {E : Enc α} {w : World} {base : Nat} {v : Value} {x : α} (h : OwnG E w base v [x]) : ∃ g c, v = .slice (some ⟨g, 0, none⟩) 1 c ∧ 1 ≤ c ∧ c ≤ maxLen ∧ base ≤ g ∧ RdG E w w.heap.size (some ⟨g, 0, none⟩) 1 [x] := by
  obtain ⟨g, c, rfl, h1, h2, h3, _⟩ := h.form (by simp)
  exact ⟨g, c, rfl, h1, h2, h3, h.rd⟩
theorem own_none {α : Type} {E : Enc α} {w : World} {base : Nat} {v : Value} (h : OwnG E w base v []) : ∃ A c, v = .slice A 0 c := by
  obtain ⟨A, m, c, rfl, rfl, _, _, _, _⟩ := h.sl
  exact ⟨A, c, rfl⟩
theorem cut_five {goal : Prop} {H M : World → Nat → Value → Prop} (h1 : (∀ W g v, H W g v → M W g v) → goal) (h2 : ∀ W g v, H W g v → M W g v) : goal := h1 h2
/-- One behind the other. -/
theorem bel2 {a b c : World} (h1 : Below a.heap.size a b) (h2 : Below b.heap.size b c) : Below a.heap.size a c := h1.trans (h2.mono h1.size)
set_option maxHeartbeats 32000000 in
theorem awake_any (S : PoolC) (w : World) : Calls Try.prog 10 #[] w fun e w' => e = .returned (.bool true) ∧ Below w.heap.size w w' := by
  obtain ⟨LA, hLA⟩ : ∃ L, (bkL abk).toArray = L := ⟨_, rfl⟩
  have HLA := Lib.hid hLA
  obtain ⟨L1, hL1⟩ : ∃ L, (opuL (opAdd abk)).toArray = L := ⟨_, rfl⟩
  have HL1 := Lib.hid hL1
  obtain ⟨L3, hL3⟩ : ∃ L, (opuL (opNm 4 [97])).toArray = L := ⟨_, rfl⟩
  have HL3 := Lib.hid hL3
  obtain ⟨L4, hL4⟩ : ∃ L, (opuL (opWt [97] 9221120237041090561 (by decide))).toArray = L := ⟨_, rfl⟩
  have HL4 := Lib.hid hL4
  obtain ⟨L5, hL5⟩ : ∃ L, (opuL (opNm 2 [97])).toArray = L := ⟨_, rfl⟩
  have HL5 := Lib.hid hL5
  have BA := Lib.hid built_abk
  rw [hLA] at BA
  have B1 := Lib.hid (built_add abk)
  rw [hLA, hL1] at B1
  have B3 := Lib.hid (built_nm 4 [97])
  rw [hL3] at B3
  have B4 := Lib.hid (built_wt [97] 9221120237041090561 (by decide))
  rw [hL4] at B4
  have B5 := Lib.hid (built_nm 2 [97])
  rw [hL5] at B5
  have BP : Hid (Try.prog.built 24 [] = some #[.int .i64 0, .slice none 0 0]) := Lib.hid (by kernel_rfl)
  have D1 : Hid (∀ (W : World), 0 ≤ W.heap.size → RdG eB W 0 none 0 [] → Calls Try.prog 19 #[.agg #[.int .i64 0, .slice none 0 0], .agg L1] W fun e w' => ∃ v, e = .returned (.tuple #[.agg #[.int .i64 1, v], .int .i64 0]) ∧ OwnG eB w' W.heap.size v [abk] ∧ Below W.heap.size W w') := Lib.hid (by
    intro W hB hr
    have h := S.do_ 0 (Nat.le_refl _) (Nat.zero_le _) right_zero (by decide) (opAdd abk) (by decide) (by decide) W hB hr
    unfold opuC at h
    rw [doA1.1, doA1.2, hL1] at h
    exact h)
  have D2 : Hid (∀ (W : World) (A1 : Option Addr) (c1 B : Nat) (_ : 1 ≤ c1) (_ : c1 ≤ maxLen), B ≤ W.heap.size → RdG eB W B A1 1 [abk] → Calls Try.prog 19 #[.agg #[.int .i64 1, .slice A1 1 c1], .agg L1] W fun e w' => ∃ v, e = .returned (.tuple #[.agg #[.int .i64 1, v], .int .i64 6]) ∧ OwnG eB w' W.heap.size v [abk] ∧ Below W.heap.size W w') := Lib.hid (by
    intro W A1 c1 B hc1 hm1 hB hr
    have h := S.do_ c1 hc1 hm1 right_one (by decide) (opAdd abk) (by decide) (by decide) W hB hr
    unfold opuC at h
    rw [doA2.1, doA2.2, hL1] at h
    exact h)
  have D3 : Hid (∀ (W : World) (A1 : Option Addr) (c1 B : Nat) (_ : 1 ≤ c1) (_ : c1 ≤ maxLen), B ≤ W.heap.size → RdG eB W B A1 1 [abk] → Calls Try.prog 19 #[.agg #[.int .i64 1, .slice A1 1 c1], .agg #[.int .i64 4, .string ⟨#[]⟩, .bool false, .int .u8 0, .int .u8 0, .int .u8 0, .int .u8 0, .int .u8 0, .int .u8 0, .int .u8 0, .int .u8 0, .int .u8 0, .int .u8 0, .int .u8 0, .int .u8 0, .int .u8 0, .int .u8 0, .int .u8 0, .int .u8 0, .int .i64 0, .int .u8 0, .int .u8 0, .int .u8 0, .int .u8 0, .int .u8 0, .int .u8 0, .float .f64 0, .bool false, .string ⟨#[97]⟩, .float .f64 0]] W fun e w' => ∃ v, e = .returned (.tuple #[.agg #[.int .i64 2, v], .int .i64 0]) ∧ OwnG eB w' W.heap.size v [abkD] ∧ Below W.heap.size W w') := Lib.hid (by
    intro W A1 c1 B hc1 hm1 hB hr
    have h := S.do_ c1 hc1 hm1 right_one (by decide) (opNm 4 [97]) (by decide) (by decide) W hB hr
    unfold opuC at h
    rw [doA3.1, doA3.2] at h
    exact h)
  have D4 : Hid (∀ (W : World) (A1 : Option Addr) (c1 B : Nat) (_ : 1 ≤ c1) (_ : c1 ≤ maxLen), B ≤ W.heap.size → RdG eB W B A1 1 [abk] → Calls Try.prog 19 #[.agg #[.int .i64 1, .slice A1 1 c1], .agg #[.int .i64 3, .string ⟨#[]⟩, .bool false, .int .u8 0, .int .u8 0, .int .u8 0, .int .u8 0, .int .u8 0, .int .u8 0, .int .u8 0, .int .u8 0, .int .u8 0, .int .u8 0, .int .u8 0, .int .u8 0, .int .u8 0, .int .u8 0, .int .u8 0, .int .u8 0, .int .i64 0, .int .u8 0, .int .u8 0, .int .u8 0, .int .u8 0, .int .u8 0, .int .u8 0, .float .f64 0, .bool false, .string ⟨#[97]⟩, .float .f64 9221120237041090561]] W fun e w' => ∃ v, e = .returned (.tuple #[.agg #[.int .i64 1, v], .int .i64 1]) ∧ OwnG eB w' W.heap.size v [abk] ∧ Below W.heap.size W w') := Lib.hid (by
    intro W A1 c1 B hc1 hm1 hB hr
    have h := S.do_ c1 hc1 hm1 right_one (by decide) (opWt [97] 9221120237041090561 (by decide)) (by decide) (by decide) W hB hr
    unfold opuC at h
    rw [doA4.1, doA4.2] at h
    exact h)
  have D5 : Hid (∀ (W : World) (A1 : Option Addr) (c1 B : Nat) (_ : 1 ≤ c1) (_ : c1 ≤ maxLen), B ≤ W.heap.size → RdG eB W B A1 1 [abk] → Calls Try.prog 19 #[.agg #[.int .i64 1, .slice A1 1 c1], .agg #[.int .i64 2, .string ⟨#[]⟩, .bool false, .int .u8 0, .int .u8 0, .int .u8 0, .int .u8 0, .int .u8 0, .int .u8 0, .int .u8 0, .int .u8 0, .int .u8 0, .int .u8 0, .int .u8 0, .int .u8 0, .int .u8 0, .int .u8 0, .int .u8 0, .int .u8 0, .int .i64 0, .int .u8 0, .int .u8 0, .int .u8 0, .int .u8 0, .int .u8 0, .int .u8 0, .float .f64 0, .bool false, .string ⟨#[97]⟩, .float .f64 0]] W fun e w' => ∃ v, e = .returned (.tuple #[.agg #[.int .i64 2, v], .int .i64 0]) ∧ OwnG eB w' W.heap.size v [] ∧ Below W.heap.size W w') := Lib.hid (by
    intro W A1 c1 B hc1 hm1 hB hr
    have h := S.do_ c1 hc1 hm1 right_one (by decide) (opNm 2 [97]) (by decide) (by decide) W hB hr
    unfold opuC at h
    rw [doA5.1, doA5.2] at h
    exact h)
  clear hLA hL1 hL3 hL4 hL5
  go_enter Try.func10, Try.ntmps10
  go_upto_region 2 with (first | ((with_reducible show wpList _ _ _ (⟨some 16, _, _, _, _, _⟩ :: _) _ _); refine wpList_buildw (op := ⟨some 16, _, _, _, _, _⟩) 36 _ rfl (by rfl) [(0, .string ⟨#[97]⟩), (2, .int .i64 80), (4, .float .f64 4609434218613702656)] (by kernel_rfl) LA BA.out ?_) | ((with_reducible show wpList _ _ _ (⟨none, .store 36 (.tmp 1) _, _, _, _, _⟩ :: _) _ _); refine wpList_storeNewG rfl 36 (.tmp 1) _ rfl (by rfl) (bkL abk) (by rw [HLA.out]; rfl) (by rw [bkL_len]; rfl) (by rw [bkL_len]; exact sizeBk) (bkL_one abk) ?_; intro w1 hb hB hz; have HK1 := Lib.hid hb; have HBw1 := Lib.hid hB; clear hb hB hz))
  go_upto_region 3 with (first | ((with_reducible show wpList _ _ _ (⟨some 18, _, _, _, _, _⟩ :: _) _ _); refine wpList_buildw (op := ⟨some 18, _, _, _, _, _⟩) 24 #[] rfl (by rfl) [] (by simp) #[.int .i64 0, .slice none 0 0] BP.out ?_) | ((with_reducible show wpList _ _ _ (⟨some 19, _, _, _, _, _⟩ :: _) _ _); refine wpList_loadBk (op := ⟨some 19, _, _, _, _, _⟩) _ rfl (by rfl) w.heap.size 0 (by rfl) abk (Blk_10.range HK1.out) _ HLA.out ?_) | ((with_reducible show wpList _ _ _ (⟨some 20, _, _, _, _, _⟩ :: _) _ _); refine wpList_buildw (op := ⟨some 20, _, _, _, _, _⟩) 38 _ rfl (by rfl) [(0, .int .i64 1), (1, .agg LA)] (by kernel_rfl) L1 B1.out ?_) | ((with_reducible refine (D1.out w1 (Nat.zero_le _) (RdG.nil_ _)).mono ?_); rintro e w2 ⟨v2, rfl, ho2, hb2⟩; obtain ⟨g2, c2, rfl, hc2, hm2, hg2, hr2⟩ := own_one ho2; have HR2 := Lib.hid hr2; have HC2 := Lib.hid hc2; have HM2 := Lib.hid hm2; have HB2 := Lib.hid hb2; clear ho2 hc2 hm2 hg2 hr2 hb2) | ((with_reducible show wpList _ _ _ (⟨none, .store 24 (.tmp 2) _, _, _, _, _⟩ :: _) _ _); refine wpList_storeNewG rfl 24 (.tmp 2) _ rfl (by rfl) ([.int .i64 1, .slice (some ⟨g2, 0, none⟩) 1 c2]) (by rfl) (by simp) (poolSize) (by simp [Value.oneCell']) ?_; intro w3 hb hB hz; have HK3 := Lib.hid hb; have HBw3 := Lib.hid hB; clear hb hB hz))
  have HQ3 := Lib.hid (Below.refl w3.heap.size w3)
  have HL1' := Lib.hid (Blk_10.lt HK1.out)
  have HLP := Lib.hid (Blk_10.lt HK3.out)
  have BEL : Hid (∀ W, Below w3.heap.size w3 W → Below w2.heap.size w2 W ∧ Below w1.heap.size w1 W) := Lib.hid (fun W h => ⟨HBw3.out.trans (h.mono HBw3.out.size), (HB2.out.trans (HBw3.out.mono HB2.out.size)).trans (h.mono (Nat.le_trans HB2.out.size HBw3.out.size))⟩)
  have AT : Hid (∀ W, Below w3.heap.size w3 W → Blk W 36 w.heap.size (bkL abk)) := Lib.hid (fun W h => Blk_10.below HK1.out HL1'.out (BEL.out W h).2)
  have P0 : Hid (∀ W, Below w3.heap.size w3 W → W.cell? ⟨w2.heap.size, 0, none⟩ = some (.int .i64 1)) := Lib.hid (fun W h => (h.cell (p := ⟨w2.heap.size, 0, none⟩) HLP.out).trans (Blk_10.cell HK3.out (i := 0) rfl))
  have P1 : Hid (∀ W, Below w3.heap.size w3 W → W.cell? ⟨w2.heap.size, 1, none⟩ = some (.slice (some ⟨g2, 0, none⟩) 1 c2)) := Lib.hid (fun W h => (h.cell (p := ⟨w2.heap.size, 1, none⟩) HLP.out).trans (Blk_10.cell HK3.out (i := 1) rfl))
  have PR : Hid (∀ W, Below w3.heap.size w3 W → RdG eB W w2.heap.size (some ⟨g2, 0, none⟩) 1 [abk]) := Lib.hid (fun W h => HR2.out.below (BEL.out W h).1)
  have PS : Hid (∀ W : World, Below w3.heap.size w3 W → w2.heap.size ≤ W.heap.size) := Lib.hid (fun W h => Nat.le_trans HBw3.out.size h.size)
  have p0 := P0.out w3 HQ3.out
  have p1 := P1.out w3 HQ3.out
  go_upto_region 4 with (first | ((with_reducible show wpList _ _ _ (⟨some 26, _, _, _, _, _⟩ :: _) _ _); refine wpList_loadBk (op := ⟨some 26, _, _, _, _, _⟩) _ rfl (by rfl) w.heap.size 0 (by rfl) abk (Blk_10.range (AT.out _ HQ3.out)) _ HLA.out ?_) | ((with_reducible show wpList _ _ _ (⟨some 27, _, _, _, _, _⟩ :: _) _ _); refine wpList_buildw (op := ⟨some 27, _, _, _, _, _⟩) 38 _ rfl (by rfl) [(0, .int .i64 1), (1, .agg LA)] (by kernel_rfl) L1 B1.out ?_) | ((with_reducible refine (D2.out w3 (some ⟨g2, 0, none⟩) c2 w2.heap.size HC2.out HM2.out (PS.out _ HQ3.out) (PR.out _ HQ3.out)).mono ?_); rintro e w4 ⟨v4, rfl, ho4, hb4⟩; obtain ⟨g4, c4, rfl, hc4, hm4, hg4, hr4⟩ := own_one ho4; have HR4 := Lib.hid hr4; have HC4 := Lib.hid hc4; have HM4 := Lib.hid hm4; clear ho4 hc4 hm4 hg4 hr4; have HB4 := Lib.hid hb4; have HQ4 := Lib.hid (HQ3.out.trans (hb4.mono HQ3.out.size)); clear hb4) | ((with_reducible show wpList _ _ _ (⟨none, .store 24 (.tmp 4) _, _, _, _, _⟩ :: _) _ _); refine wpList_storeNewG rfl 24 (.tmp 4) _ rfl (by rfl) ([.int .i64 1, .slice (some ⟨g4, 0, none⟩) 1 c4]) (by rfl) (by simp) (poolSize) (by simp [Value.oneCell']) ?_; intro w5 hb hB hz; have HK5 := Lib.hid hb; have HBw5 := Lib.hid hB; clear hb hB hz))
  have HQ5 := Lib.hid (HQ4.out.trans (HBw5.out.mono HQ4.out.size))
  clear p0 p1
  have p0 := P0.out w5 HQ5.out
  have p1 := P1.out w5 HQ5.out
  go_upto_region 5 with (first | ((with_reducible refine (D3.out w5 (some ⟨g2, 0, none⟩) c2 w2.heap.size HC2.out HM2.out (PS.out _ HQ5.out) (PR.out _ HQ5.out)).mono ?_); rintro e w6 ⟨v6, rfl, ho6, hb6⟩; obtain ⟨g6, c6, rfl, hc6, hm6, hg6, hr6⟩ := own_one ho6; have HR6 := Lib.hid hr6; have HC6 := Lib.hid hc6; have HM6 := Lib.hid hm6; clear ho6 hc6 hm6 hg6 hr6; have HB6 := Lib.hid hb6; have HQ6 := Lib.hid (HQ5.out.trans (hb6.mono HQ5.out.size)); clear hb6) | ((with_reducible show wpList _ _ _ (⟨none, .store 24 (.tmp 6) _, _, _, _, _⟩ :: _) _ _); refine wpList_storeNewG rfl 24 (.tmp 6) _ rfl (by rfl) ([.int .i64 2, .slice (some ⟨g6, 0, none⟩) 1 c6]) (by rfl) (by simp) (poolSize) (by simp [Value.oneCell']) ?_; intro w7 hb hB hz; have HK7 := Lib.hid hb; have HBw7 := Lib.hid hB; clear hb hB hz))
  have HQ7 := Lib.hid (HQ6.out.trans (HBw7.out.mono HQ6.out.size))
  clear p0 p1
  apply cut_five (H := fun W (g : Nat) (v : Value) => Below w7.heap.size w7 W)
  case h1 =>
    intro hc
    refine wp_region_held_drew (S := fun W => Below w7.heap.size w7 W) (by kernel_rfl) ((Below.refl _ _).drew) (fun hHeld => ?_)
    obtain ⟨X0, hX0⟩ : ∃ X, w7.drew = X := ⟨_, rfl⟩
    rw [hX0] at hHeld ⊢
    clear hX0
    refine tkY 0 38 (.agg #[.int .i64 1, .slice (some ⟨g2, 0, none⟩) 1 c2]) rfl (Or.inl ⟨by rfl, fun W hW => by have hc1 := P0.out W (HQ7.out.trans (hW.mono HQ7.out.size)); have hc2 := P1.out W (HQ7.out.trans (hW.mono HQ7.out.size)); go_simp⟩) hHeld ?_
    simp only [Act.put, sA, sZ, sS]
    refine wpAnyH_ready (rs := [1, 7]) (by kernel_rfl) (by simp) (AllReadyH.cons (o := ⟨some 39, _, _, _, _, _⟩) rfl (fun K hK => ?_) (AllReadyH.cons (o := ⟨some 8, _, _, _, _, _⟩) rfl (fun K hK => ?_) AllReadyH.nil))
    · skip
      go_simp
      refine (nan_any _).mono ?_
      rintro e wn ⟨rfl, hn⟩
      obtain rfl := hn
      refine hK.out _ _ (hHeld) (fun hHeld => ?_)
      clear hK K 
      refine tkY 2 40 (.agg #[.int .i64 3, .string ⟨#[]⟩, .bool false, .int .u8 0, .int .u8 0, .int .u8 0, .int .u8 0, .int .u8 0, .int .u8 0, .int .u8 0, .int .u8 0, .int .u8 0, .int .u8 0, .int .u8 0, .int .u8 0, .int .u8 0, .int .u8 0, .int .u8 0, .int .u8 0, .int .i64 0, .int .u8 0, .int .u8 0, .int .u8 0, .int .u8 0, .int .u8 0, .int .u8 0, .float .f64 0, .bool false, .string ⟨#[97]⟩, .float .f64 9221120237041090561]) rfl (Or.inl ⟨by rfl, fun _ _ => by go_simp⟩) hHeld ?_
      simp only [Act.put, sA, sZ, sS]
      refine wpAnyH_ready (rs := [3, 7]) (by kernel_rfl) (by simp) (AllReadyH.cons (o := ⟨some 41, _, _, _, _, _⟩) rfl (fun K hK => ?_) (AllReadyH.cons (o := ⟨some 8, _, _, _, _, _⟩) rfl (fun K hK => ?_) AllReadyH.nil))
      · skip
        go_simp
        refine (D4.out _ (some ⟨g2, 0, none⟩) c2 w2.heap.size HC2.out HM2.out (PS.out _ (HQ7.out.trans (hHeld.mono HQ7.out.size))) (PR.out _ (HQ7.out.trans (hHeld.mono HQ7.out.size)))).mono ?_
        rintro e w8 ⟨v8, rfl, ho8, hb8⟩
        obtain ⟨g8, c8, rfl, _, _, _, _⟩ := own_one ho8
        have HO8 := Lib.hid (hHeld.trans (hb8.mono hHeld.size))
        have HBB8 := Lib.hid hb8
        refine hK.out _ _ (HO8.out) (fun hHeld => ?_)
        clear hK K hb8 ho8
        refine tk 4 37 (.tuple #[.agg #[.int .i64 1, .slice (some ⟨g8, 0, none⟩) 1 c8], .int .i64 1]) rfl hHeld ?_
        simp only [Act.put, sA, sZ, sS]
        refine tk 5 42 (.agg #[.int .i64 1, .slice (some ⟨g8, 0, none⟩) 1 c8]) rfl hHeld ?_
        simp only [Act.put, sA, sZ, sS]
        refine tk 6 43 (.int .i64 1) rfl hHeld ?_
        simp only [Act.put, sA, sZ, sS]
        refine wpAnyH_ready (rs := [7]) (by kernel_rfl) (by simp) (AllReadyH.cons (o := ⟨some 8, _, _, _, _, _⟩) rfl (fun K hK => ?_) AllReadyH.nil)
        have HGE := Lib.hid hHeld.size
        have hnb := Blk_10.new w8 24 [.int .i64 0, .slice none 0 0]
        have hbl := hHeld.alloc hHeld.size (.cells #[.int .i64 0, .slice none 0 0] 24)
        go_simp
        refine hK.out _ _ hbl (fun hHeld => ?_)
        clear hK K hbl
        refine wpAnyH_ready (rs := [8]) (by kernel_rfl) (by simp) (AllReadyH.cons (o := ⟨none, _, _, _, _, _⟩) rfl (fun K hK => ?_) AllReadyH.nil)
        refine step_storeBA rfl 24 (.tmp 8) (.tmp 42) rfl (w8.heap.size) (by rfl) [.int .i64 1, .slice (some ⟨g8, 0, none⟩) 1 c8] (by rfl) [.int .i64 0, .slice none 0 0] (hnb) rfl poolSize (by simp [Value.oneCell']) ?_
        intro wz hbz hgz
        have HZ := Lib.hid (below_gb hHeld hgz (HGE.out) hHeld.size)
        refine hK.out _ _ (HZ.out) (fun hHeld => ?_)
        clear hK K hbz hgz
        refine tk 9 9 (.int .i64 1) rfl hHeld ?_
        simp only [Act.put, sA, sZ, sS]
        refine wpAnyH_done (by kernel_rfl) ?_ _
        obtain ⟨gq, hgq⟩ : ∃ g, w8.heap.size = g := ⟨_, rfl⟩
        rw [hgq]
        obtain ⟨vq, hvq⟩ : ∃ v, Value.slice (some ⟨g8, 0, none⟩) 1 c8 = v := ⟨_, rfl⟩
        rw [hvq]
        exact hc wz gq vq hHeld
      · skip
        have HGE := Lib.hid hHeld.size
        have hnb := Blk_10.new X0 24 [.int .i64 0, .slice none 0 0]
        have hbl := hHeld.alloc hHeld.size (.cells #[.int .i64 0, .slice none 0 0] 24)
        go_simp
        refine hK.out _ _ hbl (fun hHeld => ?_)
        clear hK K hbl
        refine wpAnyH_ready (rs := [3]) (by kernel_rfl) (by simp) (AllReadyH.cons (o := ⟨some 41, _, _, _, _, _⟩) rfl (fun K hK => ?_) AllReadyH.nil)
        go_simp
        refine (D4.out _ (some ⟨g2, 0, none⟩) c2 w2.heap.size HC2.out HM2.out (PS.out _ (HQ7.out.trans (hHeld.mono HQ7.out.size))) (PR.out _ (HQ7.out.trans (hHeld.mono HQ7.out.size)))).mono ?_
        rintro e w8 ⟨v8, rfl, ho8, hb8⟩
        obtain ⟨g8, c8, rfl, _, _, _, _⟩ := own_one ho8
        have HO8 := Lib.hid (hHeld.trans (hb8.mono hHeld.size))
        have HBB8 := Lib.hid hb8
        refine hK.out _ _ (HO8.out) (fun hHeld => ?_)
        clear hK K hb8 ho8
        refine tk 4 37 (.tuple #[.agg #[.int .i64 1, .slice (some ⟨g8, 0, none⟩) 1 c8], .int .i64 1]) rfl hHeld ?_
        simp only [Act.put, sA, sZ, sS]
        refine tk 5 42 (.agg #[.int .i64 1, .slice (some ⟨g8, 0, none⟩) 1 c8]) rfl hHeld ?_
        simp only [Act.put, sA, sZ, sS]
        refine tk 6 43 (.int .i64 1) rfl hHeld ?_
        simp only [Act.put, sA, sZ, sS]
        refine wpAnyH_ready (rs := [8]) (by kernel_rfl) (by simp) (AllReadyH.cons (o := ⟨none, _, _, _, _, _⟩) rfl (fun K hK => ?_) AllReadyH.nil)
        refine step_storeBA rfl 24 (.tmp 8) (.tmp 42) rfl (X0.heap.size) (by rfl) [.int .i64 1, .slice (some ⟨g8, 0, none⟩) 1 c8] (by rfl) [.int .i64 0, .slice none 0 0] (Blk_10.below hnb (Blk_10.lt hnb) HBB8.out) rfl poolSize (by simp [Value.oneCell']) ?_
        intro wz hbz hgz
        have HZ := Lib.hid (below_gb hHeld hgz (HGE.out) hHeld.size)
        refine hK.out _ _ (HZ.out) (fun hHeld => ?_)
        clear hK K hbz hgz
        refine tk 9 9 (.int .i64 1) rfl hHeld ?_
        simp only [Act.put, sA, sZ, sS]
        refine wpAnyH_done (by kernel_rfl) ?_ _
        obtain ⟨gq, hgq⟩ : ∃ g, X0.heap.size = g := ⟨_, rfl⟩
        rw [hgq]
        obtain ⟨vq, hvq⟩ : ∃ v, Value.slice (some ⟨g8, 0, none⟩) 1 c8 = v := ⟨_, rfl⟩
        rw [hvq]
        exact hc wz gq vq hHeld
    · skip
      have HGE := Lib.hid hHeld.size
      have hnb := Blk_10.new X0 24 [.int .i64 0, .slice none 0 0]
      have hbl := hHeld.alloc hHeld.size (.cells #[.int .i64 0, .slice none 0 0] 24)
      go_simp
      refine hK.out _ _ hbl (fun hHeld => ?_)
      clear hK K hbl
      refine wpAnyH_ready (rs := [1]) (by kernel_rfl) (by simp) (AllReadyH.cons (o := ⟨some 39, _, _, _, _, _⟩) rfl (fun K hK => ?_) AllReadyH.nil)
      go_simp
      refine (nan_any _).mono ?_
      rintro e wn ⟨rfl, hn⟩
      obtain rfl := hn
      refine hK.out _ _ (hHeld) (fun hHeld => ?_)
      clear hK K 
      refine tkY 2 40 (.agg #[.int .i64 3, .string ⟨#[]⟩, .bool false, .int .u8 0, .int .u8 0, .int .u8 0, .int .u8 0, .int .u8 0, .int .u8 0, .int .u8 0, .int .u8 0, .int .u8 0, .int .u8 0, .int .u8 0, .int .u8 0, .int .u8 0, .int .u8 0, .int .u8 0, .int .u8 0, .int .i64 0, .int .u8 0, .int .u8 0, .int .u8 0, .int .u8 0, .int .u8 0, .int .u8 0, .float .f64 0, .bool false, .string ⟨#[97]⟩, .float .f64 9221120237041090561]) rfl (Or.inl ⟨by rfl, fun _ _ => by go_simp⟩) hHeld ?_
      simp only [Act.put, sA, sZ, sS]
      refine wpAnyH_ready (rs := [3]) (by kernel_rfl) (by simp) (AllReadyH.cons (o := ⟨some 41, _, _, _, _, _⟩) rfl (fun K hK => ?_) AllReadyH.nil)
      go_simp
      refine (D4.out _ (some ⟨g2, 0, none⟩) c2 w2.heap.size HC2.out HM2.out (PS.out _ (HQ7.out.trans (hHeld.mono HQ7.out.size))) (PR.out _ (HQ7.out.trans (hHeld.mono HQ7.out.size)))).mono ?_
      rintro e w8 ⟨v8, rfl, ho8, hb8⟩
      obtain ⟨g8, c8, rfl, _, _, _, _⟩ := own_one ho8
      have HO8 := Lib.hid (hHeld.trans (hb8.mono hHeld.size))
      have HBB8 := Lib.hid hb8
      refine hK.out _ _ (HO8.out) (fun hHeld => ?_)
      clear hK K hb8 ho8
      refine tk 4 37 (.tuple #[.agg #[.int .i64 1, .slice (some ⟨g8, 0, none⟩) 1 c8], .int .i64 1]) rfl hHeld ?_
      simp only [Act.put, sA, sZ, sS]
      refine tk 5 42 (.agg #[.int .i64 1, .slice (some ⟨g8, 0, none⟩) 1 c8]) rfl hHeld ?_
      simp only [Act.put, sA, sZ, sS]
      refine tk 6 43 (.int .i64 1) rfl hHeld ?_
      simp only [Act.put, sA, sZ, sS]
      refine wpAnyH_ready (rs := [8]) (by kernel_rfl) (by simp) (AllReadyH.cons (o := ⟨none, _, _, _, _, _⟩) rfl (fun K hK => ?_) AllReadyH.nil)
      refine step_storeBA rfl 24 (.tmp 8) (.tmp 42) rfl (X0.heap.size) (by rfl) [.int .i64 1, .slice (some ⟨g8, 0, none⟩) 1 c8] (by rfl) [.int .i64 0, .slice none 0 0] (Blk_10.below hnb (Blk_10.lt hnb) HBB8.out) rfl poolSize (by simp [Value.oneCell']) ?_
      intro wz hbz hgz
      have HZ := Lib.hid (below_gb hHeld hgz (HGE.out) hHeld.size)
      refine hK.out _ _ (HZ.out) (fun hHeld => ?_)
      clear hK K hbz hgz
      refine tk 9 9 (.int .i64 1) rfl hHeld ?_
      simp only [Act.put, sA, sZ, sS]
      refine wpAnyH_done (by kernel_rfl) ?_ _
      obtain ⟨gq, hgq⟩ : ∃ g, X0.heap.size = g := ⟨_, rfl⟩
      rw [hgq]
      obtain ⟨vq, hvq⟩ : ∃ v, Value.slice (some ⟨g8, 0, none⟩) 1 c8 = v := ⟨_, rfl⟩
      rw [hvq]
      exact hc wz gq vq hHeld
  case h2 =>
    intro w9 gq vq hb9
    have HQ9 := Lib.hid (HQ7.out.trans (hb9.mono HQ7.out.size))
    have HB79 := Lib.hid hb9
    clear hb9
    have p0 := P0.out w9 HQ9.out
    have p1 := P1.out w9 HQ9.out
    go_upto_region 7 with (first | ((with_reducible refine (D5.out w9 (some ⟨g2, 0, none⟩) c2 w2.heap.size HC2.out HM2.out (PS.out _ HQ9.out) (PR.out _ HQ9.out)).mono ?_); rintro e w10 ⟨v10, rfl, ho10, hb10⟩; obtain ⟨A10, c10, rfl⟩ := own_none ho10; clear ho10; have HB10 := Lib.hid hb10; have HQ10 := Lib.hid (HQ9.out.trans (hb10.mono HQ9.out.size)); clear hb10) | ((with_reducible show wpList _ _ _ (⟨none, .store 24 (.tmp 10) _, _, _, _, _⟩ :: _) _ _); refine wpList_storeNewG rfl 24 (.tmp 10) _ rfl (by rfl) ([.int .i64 2, .slice A10 0 c10]) (by rfl) (by simp) (poolSize) (by simp [Value.oneCell']) ?_; intro w11 hb hB hz; have HK11 := Lib.hid hb; have HBw11 := Lib.hid hB; clear hb hB hz))
    have HQ11 := Lib.hid (HQ10.out.trans (HBw11.out.mono HQ10.out.size))
    clear p0 p1
    have p0 := P0.out w11 HQ11.out
    have p1 := P1.out w11 HQ11.out
    have HFI : Hid (∀ (W : World), w2.heap.size ≤ W.heap.size → RdG eB W w2.heap.size (some ⟨g2, 0, none⟩) 1 [abk] → Calls Try.prog 21 #[.agg #[.int .i64 1, .slice (some ⟨g2, 0, none⟩) 1 c2], .string ⟨#[97]⟩] W fun e w' => e = .returned (.tuple #[.agg LA, .bool true]) ∧ Below W.heap.size W w') := Lib.hid (by
      intro W hB hr
      have h := S.find c2 HC2.out HM2.out right_one (by decide) [97] (by decide) W hB hr
      have h2 : fndV (some abk) = .agg LA := by show Value.agg (bkL abk).toArray = _; rw [HLA.out]
      rw [findA, h2] at h
      exact h)
    go_upto_region 8 with (first | ((with_reducible refine (HFI.out w11 (PS.out _ HQ11.out) (PR.out _ HQ11.out)).mono ?_); rintro e w12 ⟨rfl, hb12⟩; have HB12 := Lib.hid hb12; have HQ12 := Lib.hid (HQ11.out.trans (hb12.mono HQ11.out.size)); clear hb12) | ((with_reducible show wpList _ _ _ (⟨none, .store 36 (.tmp 12) _, _, _, _, _⟩ :: _) _ _); refine wpList_storeNewG rfl 36 (.tmp 12) _ rfl (by rfl) (bkL abk) (by rw [HLA.out]; rfl) (by rw [bkL_len]; rfl) (by rw [bkL_len]; exact sizeBk) (bkL_one abk) ?_; intro w13 hb hB hz; have HK13 := Lib.hid hb; have HBw13 := Lib.hid hB; clear hb hB hz))
    have HQ13 := Lib.hid (HQ12.out.trans (HBw13.out.mono HQ12.out.size))
    clear p0 p1
    have p0 := P0.out w13 HQ13.out
    have p1 := P1.out w13 HQ13.out
    have HS1 : Hid (∀ (g c B : Nat) (_ : 1 ≤ c) (_ : c ≤ maxLen) (W : World), B ≤ W.heap.size → RdG eB W B (some ⟨g, 0, none⟩) 1 [abk] → Calls Try.prog 23 #[.agg #[.int .i64 1, .slice (some ⟨g, 0, none⟩) 1 c], .slice none 0 0] W fun e w' => ∃ r, e = .returned r ∧ OwnG eS w' W.heap.size r [⟨[97], 1536⟩] ∧ Below W.heap.size W w') := Lib.hid (by
      intro g c B hc hm W hB hr
      have h := S.shares c 0 hc hm (Nat.le_refl _) (Nat.zero_le _) right_one (ds := []) (by decide) (by decide) (fun _ h => by cases h) W hB hr (RdG.nil_ none)
      rw [sharesA] at h
      exact h)
    have HS2 : Hid (∀ (g c B : Nat) (_ : 1 ≤ c) (_ : c ≤ maxLen) (W : World), B ≤ W.heap.size → RdG eB W B (some ⟨g, 0, none⟩) 1 [abkD] → Calls Try.prog 23 #[.agg #[.int .i64 2, .slice (some ⟨g, 0, none⟩) 1 c], .slice none 0 0] W fun e w' => ∃ r, e = .returned r ∧ OwnG eS w' W.heap.size r [⟨[97], 0⟩] ∧ Below W.heap.size W w') := Lib.hid (by
      intro g c B hc hm W hB hr
      have h := S.shares c 0 hc hm (Nat.le_refl _) (Nat.zero_le _) right_two (ds := []) (by decide) (by decide) (fun _ h => by cases h) W hB hr (RdG.nil_ none)
      rw [sharesD] at h
      exact h)
    go_upto_region 9 with (first | ((with_reducible refine (HS1.out g2 c2 w2.heap.size HC2.out HM2.out w13 (PS.out _ HQ13.out) (PR.out _ HQ13.out)).mono ?_); rintro e w14 ⟨v14, rfl, ho14, hb14⟩; obtain ⟨g14, c14, rfl, hc14, hm14, hg14, hr14⟩ := own_one ho14; have HR14 := Lib.hid hr14; have HC14 := Lib.hid hc14; have HM14 := Lib.hid hm14; clear ho14 hc14 hm14 hg14 hr14; have HB14 := Lib.hid hb14; have HQ14 := Lib.hid (HQ13.out.trans (hb14.mono HQ13.out.size)); clear hb14))
    clear p0 p1
    have E13 := Lib.hid HB14.out
    have E12 := Lib.hid (bel2 HBw13.out E13.out)
    have E11 := Lib.hid (bel2 HB12.out E12.out)
    have E10 := Lib.hid (bel2 HBw11.out E11.out)
    have E9 := Lib.hid (bel2 HB10.out E10.out)
    have E7 := Lib.hid (bel2 HB79.out E9.out)
    have E6 := Lib.hid (bel2 HBw7.out E7.out)
    have E5 := Lib.hid (bel2 HB6.out E6.out)
    have E4 := Lib.hid (bel2 HBw5.out E5.out)
    have L5 := Lib.hid (Blk_10.lt HK5.out)
    have L7 := Lib.hid (Blk_10.lt HK7.out)
    have L11 := Lib.hid (Blk_10.lt HK11.out)
    have L13 := Lib.hid (Blk_10.lt HK13.out)
    have QC : Hid (∀ W, Below w14.heap.size w14 W → W.cell? ⟨w4.heap.size, 0, none⟩ = some (.int .i64 1) ∧ W.cell? ⟨w4.heap.size, 1, none⟩ = some (.slice (some ⟨g4, 0, none⟩) 1 c4)) := Lib.hid (fun W h => ⟨((bel2 E5.out h).cell (p := ⟨w4.heap.size, 0, none⟩) L5.out).trans (Blk_10.cell HK5.out (i := 0) rfl), ((bel2 E5.out h).cell (p := ⟨w4.heap.size, 1, none⟩) L5.out).trans (Blk_10.cell HK5.out (i := 1) rfl)⟩)
    have RC : Hid (∀ W, Below w14.heap.size w14 W → W.cell? ⟨w6.heap.size, 0, none⟩ = some (.int .i64 2) ∧ W.cell? ⟨w6.heap.size, 1, none⟩ = some (.slice (some ⟨g6, 0, none⟩) 1 c6)) := Lib.hid (fun W h => ⟨((bel2 E7.out h).cell (p := ⟨w6.heap.size, 0, none⟩) L7.out).trans (Blk_10.cell HK7.out (i := 0) rfl), ((bel2 E7.out h).cell (p := ⟨w6.heap.size, 1, none⟩) L7.out).trans (Blk_10.cell HK7.out (i := 1) rfl)⟩)
    have SC : Hid (∀ W, Below w14.heap.size w14 W → W.cell? ⟨w10.heap.size, 1, none⟩ = some (.slice A10 0 c10)) := Lib.hid (fun W h => ((bel2 E11.out h).cell (p := ⟨w10.heap.size, 1, none⟩) L11.out).trans (Blk_10.cell HK11.out (i := 1) rfl))
    have FC : Hid (∀ W, Below w14.heap.size w14 W → W.cell? ⟨w12.heap.size, 18, none⟩ = some (.int .i64 80)) := Lib.hid (fun W h => ((bel2 E13.out h).cell (p := ⟨w12.heap.size, 18, none⟩) L13.out).trans (Blk_10.cell HK13.out (bk_port abk)))
    have XC : Hid (∀ W, Below w14.heap.size w14 W → W.cell? ⟨g14, 1, none⟩ = some (.int .i64 1536)) := Lib.hid (fun W h => (HR14.out.below h).quanta (j := 0) rfl)
    have r01 := RC.out w14 (Below.refl _ _)
    obtain ⟨r0, r1⟩ := r01
    have HSM : Hid (∀ W, Below w14.heap.size w14 W → Calls Try.prog 16 #[.agg #[.int .i64 1, .slice (some ⟨g2, 0, none⟩) 1 c2], .agg #[.int .i64 1, .slice (some ⟨g4, 0, none⟩) 1 c4]] W fun e w' => e = .returned (.bool true) ∧ Below W.heap.size W w') := Lib.hid (by
      intro W hW
      have h := S.same (p := ⟨1, [abk]⟩) (q := ⟨1, [abk]⟩) c2 c4 HC2.out HM2.out HC4.out HM4.out (by decide) (by decide) W (Nat.le_refl _) ((PR.out W (HQ14.out.trans (hW.mono HQ14.out.size))).more (PS.out W (HQ14.out.trans (hW.mono HQ14.out.size)))) ((HR4.out.below (bel2 E4.out hW)).more (Nat.le_trans E4.out.size hW.size))
      rw [sameA] at h
      exact h)
    have HN1 := Lib.hid (fun W => S.name [119, 101, 98, 45, 49, 46, 120] (by decide) W)
    have HN2 := Lib.hid (fun W => S.name [87, 101, 98] (by decide) W)
    rw [nameA.1] at HN1
    rw [nameA.2] at HN2
    have HRG : Hid (∀ W, Below w3.heap.size w3 W → Calls Try.prog 14 #[.agg #[.int .i64 1, .slice (some ⟨g2, 0, none⟩) 1 c2]] W (RightGave W ⟨1, [abk]⟩)) := Lib.hid (fun W hW => S.right (p := ⟨1, [abk]⟩) c2 HC2.out HM2.out (by decide) (fun x hx => (by rw [List.mem_singleton.1 hx]; decide)) W (PS.out W hW) (PR.out W hW))
    go_wp2_with (first | ((with_reducible refine (HS2.out g6 c6 w6.heap.size HC6.out HM6.out w14 E6.out.size (HR6.out.below E6.out)).mono ?_); rintro e w15 ⟨v15, rfl, ho15, hb15⟩; obtain ⟨g15, c15, rfl, hc15, hm15, hg15, hr15⟩ := own_one ho15; have HR15 := Lib.hid hr15; have HC15 := Lib.hid hc15; have HM15 := Lib.hid hm15; clear ho15 hc15 hm15 hg15 hr15; have HB15 := Lib.hid hb15; have HQ15 := Lib.hid (HQ14.out.trans (hb15.mono HQ14.out.size)); clear hb15 r0 r1; have p0 := P0.out w15 HQ15.out; have p1 := P1.out w15 HQ15.out; obtain ⟨q0, q1⟩ := QC.out w15 HB15.out; have YC : Hid (∀ W, Below w15.heap.size w15 W → W.cell? ⟨g15, 1, none⟩ = some (.int .i64 0)) := Lib.hid (fun W h => (HR15.out.below h).quanta (j := 0) rfl)) | ((with_reducible refine (HSM.out w15 HB15.out).mono ?_); rintro e w16 ⟨rfl, hb16⟩; have HB16 := Lib.hid (bel2 HB15.out hb16); have HQ16 := Lib.hid (bel2 HQ15.out hb16); clear p0 p1 q0 q1; obtain ⟨r0, r1⟩ := RC.out w16 HB16.out; have s1 := SC.out w16 HB16.out; have f1 := FC.out w16 HB16.out; have x1 := XC.out w16 HB16.out; have y1 := YC.out w16 hb16; clear hb16) | ((with_reducible refine (HN1.out w16).mono ?_); rintro e w17 ⟨rfl, hb17⟩; have HQ17 := Lib.hid (bel2 HQ16.out hb17); clear hb17) | ((with_reducible refine (HN2.out w17).mono ?_); rintro e w18 ⟨rfl, hb18⟩; have HQ18 := Lib.hid (bel2 HQ17.out hb18); clear hb18; have p0 := P0.out w18 HQ18.out; have p1 := P1.out w18 HQ18.out) | ((with_reducible refine (HRG.out w18 HQ18.out).mono ?_); rintro e w19 ⟨rr, rfl, hrr, hb19⟩; obtain rfl : rr = true := hrr.2 right_one; clear hrr; have HQ19 := Lib.hid (bel2 HQ18.out hb19); clear hb19))
    go_ret
    exact ⟨rfl, HBw1.out.trans ((bel2 HB2.out (bel2 HBw3.out HQ19.out)).mono HBw1.out.size)⟩
end Go.Proofs.Ytajmppaodhpmgaa
