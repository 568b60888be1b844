/-
  The document's Run.
-/
import Derived.Test.YteljijjebocbiaaYCell
namespace Go.Proofs.Yteljijjebocbiaa
set_option maxRecDepth 100000
open Go.RowKit Go.Lib

def InR (h : Hl) : Prop := -9223372036854775808 ≤ h.run ∧ h.run ≤ 9223372036854775807
theorem step_in {rise fall : Int} {h : Hl} (_hr : InR h) (b : Bool) : InR (stepH rise fall h b).1 := by
  unfold stepH
  by_cases h1 : b = h.dn
  · rw [if_pos h1]
    by_cases h2 : brZ (if h.dn = true then rise else fall) ≤ rnZ h.run + 1
    · rw [if_pos h2]
      exact ⟨by show (-9223372036854775808 : Int) ≤ 0; decide, by show (0 : Int) ≤ 9223372036854775807; decide⟩
    · rw [if_neg h2]
      have h3 := (brZ_low (if h.dn = true then rise else fall)).2
      have h4 := rnZ_low h.run
      exact ⟨by show -9223372036854775808 ≤ rnZ h.run + 1; omega, by show rnZ h.run + 1 ≤ 9223372036854775807; omega⟩
  · rw [if_neg h1]
    exact ⟨by show (-9223372036854775808 : Int) ≤ 0; decide, by show (0 : Int) ≤ 9223372036854775807; decide⟩
theorem run_in {rise fall : Int} : ∀ (l : List Bool) {h : Hl} (_ : InR h), InR (runH rise fall h l).1
  | [], _, hr => hr
  | b :: l, h, hr => by
    rw [run_cons]
    exact run_in l (step_in hr b)
theorem take_more {α : Type} {l : List α} {k : Nat} {x : α} (h : l[k]? = some x) : l.take (k + 1) = l.take k ++ [x] := by rw [List.take_add_one, h]; rfl
def RunGave (w : World) (rise fall : Int) (h : Hl) (l : List Bool) (e : Ending) (w' : World) : Prop :=
  e = .returned (.tuple #[hlC (runH rise fall h l).1, .int .i64 (runH rise fall h l).2]) ∧ Below w.heap.size w w'
set_option maxHeartbeats 8000000 in
theorem rrun_any {A : Option Addr} {n B : Nat} (c : Nat) {l : List Bool} (hn : n ≤ 1000000) (h : Hl) (hr : InR h) (rise fall : Int) (w : World) (hB : B ≤ w.heap.size) (hI : RdG eT w B A n l) :
    Calls Try.prog 14 #[hlC h, .slice A n c, .int .i64 rise, .int .i64 fall] w (RunGave w rise fall h l) := by
  unfold RunGave hlC
  obtain ⟨Y, hY⟩ : ∃ Y, (w.alloc (.cells #[strV h.nm, .bool h.dn, .int .i64 h.run] 23)).alloc (.cells #[.string ⟨#[]⟩, .bool false, .int .i64 0] 23) = Y := ⟨_, rfl⟩
  have hs := World.size_alloc w (.cells #[strV h.nm, .bool h.dn, .int .i64 h.run] 23)
  have HX := Lib.hid (show Blk Y 23 w.heap.size (hlL h) by rw [← hY]; exact Blk_10.alloc (Blk_10.new w _ (hlL h)) _)
  have HZ := Lib.hid (show Blk Y 23 (w.heap.size + 1) [.string ⟨#[]⟩, .bool false, .int .i64 0] by
    rw [← hY]
    have := Blk_10.new (w.alloc (.cells #[strV h.nm, .bool h.dn, .int .i64 h.run] 23)) 23 [.string ⟨#[]⟩, .bool false, .int .i64 0]
    rw [hs] at this
    exact this)
  have hB0 : Below w.heap.size w Y := by rw [← hY]; exact ((Below.refl w.heap.size w).alloc (Nat.le_refl _) _).alloc (by rw [hs]; exact Nat.le_succ _) _
  have HB := Lib.hid hB0
  have HR := Lib.hid (hI.below (hB0.mono hB))
  have HBB := Lib.hid hB
  have HL := Lib.hid hI.len
  have HIN := Lib.hid hr
  have HN := Lib.hid hn
  have HCN := Lib.hid (fun k => run_count rise fall (l.take k) h)
  have HRI := Lib.hid (fun k => run_in (rise := rise) (fall := fall) (l.take k) hr)
  have HYS := Lib.hid (show Y.heap.size = w.heap.size + 2 by rw [← hY, World.size_alloc, hs])
  have HY := Lib.hid hY
  clear hY hs hB0 hI hr hB hn
  unfold strV at HY
  go_enter Try.func14, Try.ntmps14
  go_upto_region 1 with (fail)
  unfold strV
  rw [HY.out]
  go_wp2_with fail
  go_loopw [10, 11] (fun m i wr => ∃ k : Nat, k ≤ n ∧ i = .int .i64 (k : Int) ∧ m = .int .i64 (runH rise fall h (l.take k)).2 ∧ Hid (Blk wr 23 w.heap.size (hlL (runH rise fall h (l.take k)).1)) ∧ Hid (Blk wr 23 (w.heap.size + 1) [.string ⟨#[]⟩, .bool false, .int .i64 0]) ∧ Hid (RdG eT wr B A n l) ∧ Hid (Below w.heap.size w wr)) (fun _ i _ => n - (intOf i).toNat)
  case atStart => exact ⟨0, Nat.zero_le _, rfl, rfl, HX, HZ, HR, HB⟩
  case round =>
    clear HX HZ HR HB
    obtain ⟨k, hk, rfl, rfl, HX, HZ, HR, HB⟩ := hrel
    have hcn := HCN.out k
    have HG := Lib.hid (HRI.out k)
    by_cases hlt : k < n
    · have h1 : (k : Int) < (n : Int) := by omega
      have h0 : (0 : Int) ≤ (k : Int) := by omega
      obtain ⟨b, off, rfl, _⟩ := HR.out.addr (Nat.lt_of_le_of_lt (Nat.zero_le _) hlt)
      obtain ⟨x, hx⟩ : ∃ x, l[k]? = some x := ⟨_, List.getElem?_eq_getElem (by rw [HL.out]; exact hlt)⟩
      have HTK := Lib.hid (take_more hx)
      have HSN := Lib.hid (run_snoc rise fall h (l.take k) x)
      have PX : Hid (∀ W, Below wr.heap.size wr W → W.cell? ⟨b, off + k, none⟩ = some (.bool x)) := Lib.hid (fun W hW => (HR.out.below (hW.mono (Nat.le_trans HBB.out HB.out.size))).cell1 hx rfl)
      have HLTN := Lib.hid hlt
      have hk9 : k < 9223372036854775807 := by have := HN.out; omega
      have hkl : k < 1000000 := by have := HN.out; omega
      have hll := List.length_take_le k l
      generalize hgg : runH rise fall h (l.take k) = gg at HX hcn HG HSN ⊢
      clear hgg
      obtain ⟨g, m⟩ := gg
      obtain ⟨nm, dn, run⟩ := g
      simp only at hcn ⊢
      have hm1 : m ≤ 1000000 := by omega
      have hm0 : 0 ≤ m := hcn.1
      have LX := Lib.hid (Blk_10.lt HX.out)
      have HC : Hid (∀ W, Below wr.heap.size wr W → W.cell? ⟨w.heap.size, 0, none⟩ = some (.string ⟨nm.toArray⟩) ∧ W.cell? ⟨w.heap.size, 1, none⟩ = some (.bool dn) ∧ W.cell? ⟨w.heap.size, 2, none⟩ = some (.int .i64 run)) := Lib.hid (fun W hW => ⟨Blk_10.cell (Blk_10.below HX.out LX.out hW) (i := 0) rfl, Blk_10.cell (Blk_10.below HX.out LX.out hW) (i := 1) rfl, Blk_10.cell (Blk_10.below HX.out LX.out hW) (i := 2) rfl⟩)
      have HST := Lib.hid (fun W => rstep_any ⟨nm, dn, run⟩ x rise fall HG.out.1 HG.out.2 W)
      have HSN2 : Hid (runH rise fall h (l.take k ++ [x]) = ((stepH rise fall ⟨nm, dn, run⟩ x).1, m + cntZ (stepH rise fall ⟨nm, dn, run⟩ x).2)) := HSN
      clear HSN hx hlt hcn hll
      obtain ⟨st, hst⟩ : ∃ s, stepH rise fall ⟨nm, dn, run⟩ x = s := ⟨_, rfl⟩
      unfold StepGave hlC at HST
      rw [hst] at HST HSN2
      clear hst
      obtain ⟨⟨nm2, dn2, run2⟩, tn⟩ := st
      unfold strV at HST
      simp only at HST
      go_upto_region 5 with (fail)
      go_cut [12, 13] (fun s12 s13 wx => ∃ g : Nat, s12 = .pointer (some ⟨g, 0, none⟩) ∧ s13 = .bool tn ∧ Blk wx 23 g [.string ⟨nm2.toArray⟩, .bool dn2, .int .i64 run2] ∧ Below wr.heap.size wr wx)
      case first =>
        refine wp_region_held_drew (S := fun W => Below wr.heap.size wr W) (by kernel_rfl) ((Below.refl _ _).drew) (fun hHeld => ?_)
        obtain ⟨X0, hX0⟩ : ∃ X, wr.drew = X := ⟨_, rfl⟩
        rw [hX0] at hHeld ⊢
        clear hX0
        refine tkY 0 21 (.agg #[.string ⟨nm.toArray⟩, .bool dn, .int .i64 run]) rfl (Or.inl ⟨by rfl, fun W hW => by obtain ⟨h1, h2, h3⟩ := HC.out W hW; go_simp⟩) hHeld ?_
        simp only [Act.put, sA, sZ, sS]
        refine tk 1 22 (.slice (some ⟨b, off, none⟩) n c) rfl hHeld ?_
        simp only [Act.put, sA, sZ, sS]
        refine tk 2 23 (.int .i64 (k : Int)) rfl hHeld ?_
        simp only [Act.put, sA, sZ, sS]
        refine tk 3 24 (.pointer (some ⟨b, off + k, none⟩)) rfl hHeld ?_
        simp only [Act.put, sA, sZ, sS]
        refine tkY 4 25 (.bool x) rfl (Or.inl ⟨by rfl, fun W hW => by have hc := PX.out W hW; go_simp⟩) hHeld ?_
        simp only [Act.put, sA, sZ, sS]
        refine tk 5 26 (.int .i64 rise) rfl hHeld ?_
        simp only [Act.put, sA, sZ, sS]
        refine tk 6 27 (.int .i64 fall) rfl hHeld ?_
        simp only [Act.put, sA, sZ, sS]
        refine wpAnyH_ready (rs := [7, 11]) (by kernel_rfl) (by simp) (AllReadyH.cons (o := ⟨some 28, _, _, _, _, _⟩) rfl (fun K hK => ?_) (AllReadyH.cons (o := ⟨some 12, _, _, _, _, _⟩) rfl (fun K hK => ?_) AllReadyH.nil))
        · skip
          go_simp
          refine (HST.out _).mono ?_
          rintro e wx ⟨rfl, hbx⟩
          have HBX := Lib.hid hbx
          have HBH := Lib.hid (hHeld.trans (hbx.mono hHeld.size))
          refine hK.out _ _ (HBH.out) (fun hHeld => ?_)
          clear hK K hbx
          refine tk 8 20 (.tuple #[.agg #[.string ⟨nm2.toArray⟩, .bool dn2, .int .i64 run2], .bool tn]) rfl hHeld ?_
          simp only [Act.put, sA, sZ, sS]
          refine tk 9 29 (.agg #[.string ⟨nm2.toArray⟩, .bool dn2, .int .i64 run2]) rfl hHeld ?_
          simp only [Act.put, sA, sZ, sS]
          refine tk 10 30 (.bool tn) rfl hHeld ?_
          simp only [Act.put, sA, sZ, sS]
          refine wpAnyH_ready (rs := [11]) (by kernel_rfl) (by simp) (AllReadyH.cons (o := ⟨some 12, _, _, _, _, _⟩) rfl (fun K hK => ?_) AllReadyH.nil)
          have hbn := Blk_10.new wx 23 [.string ⟨#[]⟩, .bool false, .int .i64 0]
          have hnb := hHeld.alloc hHeld.size (.cells #[.string ⟨#[]⟩, .bool false, .int .i64 0] 23)
          have HGE := Lib.hid hHeld.size
          go_simp
          refine hK.out _ _ hnb (fun hHeld => ?_)
          clear hK K hnb
          refine wpAnyH_ready (rs := [12]) (by kernel_rfl) (by simp) (AllReadyH.cons (o := ⟨none, _, _, _, _, _⟩) rfl (fun K hK => ?_) AllReadyH.nil)
          refine step_storeBA rfl 23 (.tmp 12) (.tmp 29) rfl (wx.heap.size) (by rfl) [.string ⟨nm2.toArray⟩, .bool dn2, .int .i64 run2] (by rfl) [.string ⟨#[]⟩, .bool false, .int .i64 0] (hbn) rfl hlSize (by simp [Value.oneCell']) ?_
          intro wz hbz hgz
          have HZZ := Lib.hid (below_gb hHeld hgz HGE.out hHeld.size)
          have HBZ := Lib.hid hbz
          refine hK.out _ _ (HZZ.out) (fun hHeld => ?_)
          clear hK K hbz hgz
          refine tk 13 13 (.bool tn) rfl hHeld ?_
          simp only [Act.put, sA, sZ, sS]
          refine wpAnyH_done (by kernel_rfl) ?_ _
          go_wp2_with fail
          go_meet
          case rel => exact ⟨_, rfl, rfl, HBZ.out, hHeld⟩
        · skip
          have hbn := Blk_10.new X0 23 [.string ⟨#[]⟩, .bool false, .int .i64 0]
          have HBN2 := Lib.hid hbn
          have hnb := hHeld.alloc hHeld.size (.cells #[.string ⟨#[]⟩, .bool false, .int .i64 0] 23)
          have HGE := Lib.hid hHeld.size
          go_simp
          refine hK.out _ _ hnb (fun hHeld => ?_)
          clear hK K hnb
          refine wpAnyH_ready (rs := [7]) (by kernel_rfl) (by simp) (AllReadyH.cons (o := ⟨some 28, _, _, _, _, _⟩) rfl (fun K hK => ?_) AllReadyH.nil)
          go_simp
          refine (HST.out _).mono ?_
          rintro e wx ⟨rfl, hbx⟩
          have HBX := Lib.hid hbx
          have HBH := Lib.hid (hHeld.trans (hbx.mono hHeld.size))
          refine hK.out _ _ (HBH.out) (fun hHeld => ?_)
          clear hK K hbx
          refine tk 8 20 (.tuple #[.agg #[.string ⟨nm2.toArray⟩, .bool dn2, .int .i64 run2], .bool tn]) rfl hHeld ?_
          simp only [Act.put, sA, sZ, sS]
          refine tk 9 29 (.agg #[.string ⟨nm2.toArray⟩, .bool dn2, .int .i64 run2]) rfl hHeld ?_
          simp only [Act.put, sA, sZ, sS]
          refine tk 10 30 (.bool tn) rfl hHeld ?_
          simp only [Act.put, sA, sZ, sS]
          refine wpAnyH_ready (rs := [12]) (by kernel_rfl) (by simp) (AllReadyH.cons (o := ⟨none, _, _, _, _, _⟩) rfl (fun K hK => ?_) AllReadyH.nil)
          refine step_storeBA rfl 23 (.tmp 12) (.tmp 29) rfl (X0.heap.size) (by rfl) [.string ⟨nm2.toArray⟩, .bool dn2, .int .i64 run2] (by rfl) [.string ⟨#[]⟩, .bool false, .int .i64 0] (Blk_10.below HBN2.out (Blk_10.lt HBN2.out) HBX.out) rfl hlSize (by simp [Value.oneCell']) ?_
          intro wz hbz hgz
          have HZZ := Lib.hid (below_gb hHeld hgz HGE.out hHeld.size)
          have HBZ := Lib.hid hbz
          refine hK.out _ _ (HZZ.out) (fun hHeld => ?_)
          clear hK K hbz hgz
          refine tk 13 13 (.bool tn) rfl hHeld ?_
          simp only [Act.put, sA, sZ, sS]
          refine wpAnyH_done (by kernel_rfl) ?_ _
          go_wp2_with fail
          go_meet
          case rel => exact ⟨_, rfl, rfl, HBZ.out, hHeld⟩
      case rest =>
      obtain ⟨g, rfl, rfl, hbg, hbw⟩ := hcut
      have HG2 := Lib.hid hbg
      have HW := Lib.hid hbw
      clear hbg hbw
      obtain ⟨w5, hw5⟩ : ∃ z, z = wc := ⟨_, rfl⟩
      subst hw5
      have d0 : w5.cell? ⟨g, 0, none⟩ = some (.string ⟨nm2.toArray⟩) := Blk_10.cell HG2.out (i := 0) rfl
      have d1 : w5.cell? ⟨g, 1, none⟩ = some (.bool dn2) := Blk_10.cell HG2.out (i := 1) rfl
      have d2 : w5.cell? ⟨g, 2, none⟩ = some (.int .i64 run2) := Blk_10.cell HG2.out (i := 2) rfl
      have HX5 := Lib.hid (Blk_10.below HX.out LX.out HW.out)
      have HZ5 := Lib.hid (Blk_10.below HZ.out (Blk_10.lt HZ.out) HW.out)
      have HR5 := Lib.hid (HR.out.below (HW.out.mono (Nat.le_trans HBB.out HB.out.size)))
      have HB5 := Lib.hid (HB.out.trans (HW.out.mono HB.out.size))
      cases tn
      · go_wp2_with (first | ((with_reducible show wpList _ _ _ (⟨none, .store 23 (.tmp 4) _, _, _, _, _⟩ :: _) _ _); refine wpList_storeBA rfl 23 (.tmp 4) _ rfl w.heap.size (by rfl) [.string ⟨nm2.toArray⟩, .bool dn2, .int .i64 run2] (by rfl) _ HX5.out rfl hlSize (by simp [Value.oneCell']) ?_; intro w9 hb9 hg9; have HX9 := Lib.hid hb9; have HG9 := Lib.hid hg9; clear hb9 hg9))
        refine ⟨⟨k + 1, HLTN.out, by go_num, by rw [HTK.out, HSN2.out]; show Value.int .i64 m = .int .i64 (m + 0); rw [Int.add_zero], Lib.hid (by rw [HTK.out, HSN2.out]; exact HX9.out), Lib.hid (Blk.gb HZ5.out HG9.out (fun e => by have := Option.some.inj e; omega)), Lib.hid (HR5.out.grown HG9.out (Nat.le_trans HBB.out HB5.out.size) (fun gq hq => by cases hq; exact HBB.out)), Lib.hid (below_gb HB5.out HG9.out (Nat.le_refl _) HB5.out.size)⟩, ?_⟩
        have := HLTN.out
        simp [intOf]
        omega
      · go_wp2_with (first | ((with_reducible show wpList _ _ _ (⟨none, .store 23 (.tmp 4) _, _, _, _, _⟩ :: _) _ _); refine wpList_storeBA rfl 23 (.tmp 4) _ rfl w.heap.size (by rfl) [.string ⟨nm2.toArray⟩, .bool dn2, .int .i64 run2] (by rfl) _ HX5.out rfl hlSize (by simp [Value.oneCell']) ?_; intro w9 hb9 hg9; have HX9 := Lib.hid hb9; have HG9 := Lib.hid hg9; clear hb9 hg9))
        refine ⟨⟨k + 1, HLTN.out, by go_num, by rw [HTK.out, HSN2.out]; rfl, Lib.hid (by rw [HTK.out, HSN2.out]; exact HX9.out), Lib.hid (Blk.gb HZ5.out HG9.out (fun e => by have := Option.some.inj e; omega)), Lib.hid (HR5.out.grown HG9.out (Nat.le_trans HBB.out HB5.out.size) (fun gq hq => by cases hq; exact HBB.out)), Lib.hid (below_gb HB5.out HG9.out (Nat.le_refl _) HB5.out.size)⟩, ?_⟩
        have := HLTN.out
        simp [intOf]
        omega
    · obtain rfl : k = n := by omega
      have h1 : ¬ (k : Int) < (k : Int) := by omega
      have HTK : Hid (l.take k = l) := Lib.hid (List.take_of_length_le (Nat.le_of_eq HL.out))
      rw [HTK.out] at HX ⊢
      clear hlt hcn HG HCN HRI
      obtain ⟨gg, hgg⟩ : ∃ g, runH rise fall h l = g := ⟨_, rfl⟩
      rw [hgg] at HX ⊢
      obtain ⟨⟨nm, dn, run⟩, m⟩ := gg
      have HGG := Lib.hid hgg
      clear hgg
      simp only
      have c0 : wr.cell? ⟨w.heap.size, 0, none⟩ = some (.string ⟨nm.toArray⟩) := Blk_10.cell HX.out (i := 0) rfl
      have c1 : wr.cell? ⟨w.heap.size, 1, none⟩ = some (.bool dn) := Blk_10.cell HX.out (i := 1) rfl
      have c2 : wr.cell? ⟨w.heap.size, 2, none⟩ = some (.int .i64 run) := Blk_10.cell HX.out (i := 2) rfl
      go_wp2_with (first | ((with_reducible show wpList _ _ _ (⟨none, .store 23 (.tmp 8) _, _, _, _, _⟩ :: _) _ _); refine wpList_storeBA rfl 23 (.tmp 8) _ rfl (w.heap.size + 1) (by rfl) [.string ⟨nm.toArray⟩, .bool dn, .int .i64 run] (by rfl) _ HZ.out rfl hlSize (by simp [Value.oneCell']) ?_; intro w9 hb9 hg9; have HZ9 := Lib.hid hb9; have HG9 := Lib.hid hg9; clear hb9 hg9))
      refine bodyPost_ret (v := .tuple #[.agg #[.string ⟨nm.toArray⟩, .bool dn, .int .i64 run], .int .i64 m]) (results_hl rfl _ _ (w.heap.size + 1) (by rfl) [.string ⟨nm.toArray⟩, .bool dn, .int .i64 run] rfl HZ9.out _ (by rfl)) rfl ?_
      exact ⟨by rw [HGG.out]; rfl, below_gb HB.out HG9.out (Nat.le_succ _) HB.out.size⟩
end Go.Proofs.Yteljijjebocbiaa
