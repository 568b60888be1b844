/-
  The program: Run, Set.
-/
import Derived.Test.YteljijjebocbiaaYP3
import Derived.Test.YteljijjebocbiaaYSet
namespace Go.Proofs.Yteljijjebocbiaa
set_option maxRecDepth 100000
open Go.RowKit Go.Lib Go.Maps

set_option maxHeartbeats 8000000 in
theorem prun_any {A : Option Addr} {n B : Nat} (c : Nat) {l : List Bool} (hn : n ≤ 1000000) (h : Hl) (hr : InR h) (rise fall : Int) (w : World) (hB : B ≤ w.heap.size) (hI : RdG eT w B A n l) :
    Calls Try.prog 13 #[hlC h, .slice A n c, .int .i64 rise, .int .i64 fall] w (RunGave w rise fall h l) := by
  unfold RunGave hlC
  obtain ⟨Y, hY⟩ : ∃ Y, (w.alloc (.cells #[strV h.nm, .bool h.dn, .int .i64 h.run] 23)).alloc (.cells #[.string ⟨#[]⟩, .bool false, .int .i64 0] 23) = Y := ⟨_, rfl⟩
  have hs := World.size_alloc w (.cells #[strV h.nm, .bool h.dn, .int .i64 h.run] 23)
  have HX := Lib.hid (show Blk Y 23 w.heap.size (hlL h) by rw [← hY]; exact Blk_10.alloc (Blk_10.new w _ (hlL h)) _)
  have HZ := Lib.hid (show Blk Y 23 (w.heap.size + 1) [.string ⟨#[]⟩, .bool false, .int .i64 0] by
    rw [← hY]
    have := Blk_10.new (w.alloc (.cells #[strV h.nm, .bool h.dn, .int .i64 h.run] 23)) 23 [.string ⟨#[]⟩, .bool false, .int .i64 0]
    rw [hs] at this
    exact this)
  have hB0 : Below w.heap.size w Y := by rw [← hY]; exact ((Below.refl w.heap.size w).alloc (Nat.le_refl _) _).alloc (by rw [hs]; exact Nat.le_succ _) _
  have HB := Lib.hid hB0
  have HR := Lib.hid hI
  have HBB := Lib.hid hB
  have HL := Lib.hid hI.len
  have HN := Lib.hid hn
  have HCN := Lib.hid (fun k => run_count rise fall (l.take k) h)
  have HRI := Lib.hid (fun k => run_in (rise := rise) (fall := fall) (l.take k) hr)
  have HY := Lib.hid hY
  clear hY hs hB0 hI hr hB hn
  unfold strV at HY
  go_enter Try.func13, Try.ntmps13
  go_upto_region 1 with (fail)
  unfold strV
  rw [HY.out]
  go_wp2_with fail
  go_loopw [10, 17] (fun m i wr => ∃ k : Nat, k ≤ n ∧ i = .int .i64 (k : Int) ∧ m = .int .i64 (runH rise fall h (l.take k)).2 ∧ Hid (Blk wr 23 w.heap.size (hlL (runH rise fall h (l.take k)).1)) ∧ Hid (Blk wr 23 (w.heap.size + 1) [.string ⟨#[]⟩, .bool false, .int .i64 0]) ∧ Hid (Below w.heap.size w wr)) (fun _ i _ => n - (RowKit.intOf i).toNat)
  case atStart => exact ⟨0, Nat.zero_le _, rfl, rfl, HX, HZ, HB⟩
  case round =>
    clear HX HZ HB
    obtain ⟨k, hk, rfl, rfl, HX, HZ, HB⟩ := hrel
    have hcn := HCN.out k
    have HG := Lib.hid (HRI.out k)
    by_cases hlt : k < n
    · have h1 : (k : Int) < (n : Int) := by omega
      have h0 : (0 : Int) ≤ (k : Int) := by omega
      obtain ⟨b, off, rfl, _⟩ := HR.out.addr (Nat.lt_of_le_of_lt (Nat.zero_le _) hlt)
      obtain ⟨x, hx⟩ : ∃ x, l[k]? = some x := ⟨_, List.getElem?_eq_getElem (by rw [HL.out]; exact hlt)⟩
      have HTK := Lib.hid (take_more hx)
      have HSN := Lib.hid (run_snoc rise fall h (l.take k) x)
      have p0 : wr.cell? ⟨b, off + k, none⟩ = some (.bool x) := (HR.out.below (HB.out.mono HBB.out)).cell1 hx rfl
      have HLTN := Lib.hid hlt
      have hk9 : k < 9223372036854775807 := by have := HN.out; omega
      have hkl : k < 1000000 := by have := HN.out; omega
      have hll := List.length_take_le k l
      generalize hgg : runH rise fall h (l.take k) = gg at HX hcn HG HSN ⊢
      clear hgg
      obtain ⟨g, m⟩ := gg
      obtain ⟨nm, dn, run⟩ := g
      simp only at hcn ⊢
      have hm1 : m ≤ 1000000 := by omega
      have hm0 : 0 ≤ m := hcn.1
      have HST := Lib.hid (fun W => pstep_any ⟨nm, dn, run⟩ x rise fall HG.out.1 HG.out.2 W)
      have HSN2 : Hid (runH rise fall h (l.take k ++ [x]) = ((stepH rise fall ⟨nm, dn, run⟩ x).1, m + cntZ (stepH rise fall ⟨nm, dn, run⟩ x).2)) := HSN
      clear HSN hx hlt hcn hll
      obtain ⟨st, hst⟩ : ∃ s, stepH rise fall ⟨nm, dn, run⟩ x = s := ⟨_, rfl⟩
      unfold StepGave hlC at HST
      rw [hst] at HST HSN2
      clear hst
      obtain ⟨⟨nm2, dn2, run2⟩, tn⟩ := st
      unfold strV at HST
      simp only at HST
      cases tn
      · go_wp2_with (first
          | ((with_reducible show wpList _ _ _ (⟨some 22, _, _, _, _, _⟩ :: _) _ _); refine wpList_loadHl (.tmp 4) rfl (by rfl) w.heap.size 0 (by rfl) ⟨nm, dn, run⟩ (Blk_10.range HX.out) #[.string ⟨nm.toArray⟩, .bool dn, .int .i64 run] rfl ?_)
          | (go_at_call 11; refine (HST.out _).mono ?_; rintro e w5 ⟨rfl, hb5⟩; have HX5 := Lib.hid (Blk_10.below HX.out (Blk_10.lt HX.out) hb5); have HZ5 := Lib.hid (Blk_10.below HZ.out (Blk_10.lt HZ.out) hb5); have HB5 := Lib.hid (HB.out.trans (hb5.mono HB.out.size)); clear hb5)
          | ((with_reducible show wpList _ _ _ (⟨none, .store _ (.tmp 13) _, _, _, _, _⟩ :: _) _ _); refine wpList_storeNewG rfl 23 (.tmp 13) (.tmp 27) rfl (by rfl) [.string ⟨nm2.toArray⟩, .bool dn2, .int .i64 run2] (by rfl) rfl hlSize (by simp [Value.oneCell']) ?_; intro w6 hb6 hbel6 hsz6; have HX6 := Lib.hid (Blk_10.below HX5.out (Blk_10.lt HX5.out) hbel6); have HZ6 := Lib.hid (Blk_10.below HZ5.out (Blk_10.lt HZ5.out) hbel6); have HB6 := Lib.hid (HB5.out.trans (hbel6.mono HB5.out.size)); have HN6 := Lib.hid hb6; clear hb6 hbel6 hsz6)
          | ((with_reducible show wpList _ _ _ (⟨some 32, _, _, _, _, _⟩ :: _) _ _); refine wpList_loadHl (.tmp 13) rfl (by rfl) w5.heap.size 0 (by rfl) ⟨nm2, dn2, run2⟩ (Blk_10.range HN6.out) #[.string ⟨nm2.toArray⟩, .bool dn2, .int .i64 run2] rfl ?_)
          | ((with_reducible show wpList _ _ _ (⟨none, .store _ (.tmp 4) _, _, _, _, _⟩ :: _) _ _); refine wpList_storeBA rfl 23 (.tmp 4) _ rfl w.heap.size (by rfl) [.string ⟨nm2.toArray⟩, .bool dn2, .int .i64 run2] (by rfl) _ HX6.out rfl hlSize (by simp [Value.oneCell']) ?_; intro w7 hb7 hg7; have HX7 := Lib.hid hb7; have HZ7 := Lib.hid (Blk.gb HZ6.out hg7 (by simp)); have HB7 := Lib.hid (below_gb HB6.out hg7 (Nat.le_refl _) HB6.out.size); clear hb7 hg7))
        go_roundw
        case rel => exact ⟨k + 1, HLTN.out, by have := HLTN.out; go_num, by rw [HTK.out, HSN2.out]; show _ = Value.int _ (m + 0); rw [Int.add_zero], by rw [HTK.out, HSN2.out]; exact HX7, HZ7, HB7⟩
        case measure =>
          have := HLTN.out
          simp [RowKit.intOf]
          omega
      · go_wp2_with (first
          | ((with_reducible show wpList _ _ _ (⟨some 22, _, _, _, _, _⟩ :: _) _ _); refine wpList_loadHl (.tmp 4) rfl (by rfl) w.heap.size 0 (by rfl) ⟨nm, dn, run⟩ (Blk_10.range HX.out) #[.string ⟨nm.toArray⟩, .bool dn, .int .i64 run] rfl ?_)
          | (go_at_call 11; refine (HST.out _).mono ?_; rintro e w5 ⟨rfl, hb5⟩; have HX5 := Lib.hid (Blk_10.below HX.out (Blk_10.lt HX.out) hb5); have HZ5 := Lib.hid (Blk_10.below HZ.out (Blk_10.lt HZ.out) hb5); have HB5 := Lib.hid (HB.out.trans (hb5.mono HB.out.size)); clear hb5)
          | ((with_reducible show wpList _ _ _ (⟨none, .store _ (.tmp 13) _, _, _, _, _⟩ :: _) _ _); refine wpList_storeNewG rfl 23 (.tmp 13) (.tmp 27) rfl (by rfl) [.string ⟨nm2.toArray⟩, .bool dn2, .int .i64 run2] (by rfl) rfl hlSize (by simp [Value.oneCell']) ?_; intro w6 hb6 hbel6 hsz6; have HX6 := Lib.hid (Blk_10.below HX5.out (Blk_10.lt HX5.out) hbel6); have HZ6 := Lib.hid (Blk_10.below HZ5.out (Blk_10.lt HZ5.out) hbel6); have HB6 := Lib.hid (HB5.out.trans (hbel6.mono HB5.out.size)); have HN6 := Lib.hid hb6; clear hb6 hbel6 hsz6)
          | ((with_reducible show wpList _ _ _ (⟨some 32, _, _, _, _, _⟩ :: _) _ _); refine wpList_loadHl (.tmp 13) rfl (by rfl) w5.heap.size 0 (by rfl) ⟨nm2, dn2, run2⟩ (Blk_10.range HN6.out) #[.string ⟨nm2.toArray⟩, .bool dn2, .int .i64 run2] rfl ?_)
          | ((with_reducible show wpList _ _ _ (⟨none, .store _ (.tmp 4) _, _, _, _, _⟩ :: _) _ _); refine wpList_storeBA rfl 23 (.tmp 4) _ rfl w.heap.size (by rfl) [.string ⟨nm2.toArray⟩, .bool dn2, .int .i64 run2] (by rfl) _ HX6.out rfl hlSize (by simp [Value.oneCell']) ?_; intro w7 hb7 hg7; have HX7 := Lib.hid hb7; have HZ7 := Lib.hid (Blk.gb HZ6.out hg7 (by simp)); have HB7 := Lib.hid (below_gb HB6.out hg7 (Nat.le_refl _) HB6.out.size); clear hb7 hg7))
        go_roundw
        case rel => exact ⟨k + 1, HLTN.out, by have := HLTN.out; go_num, by rw [HTK.out, HSN2.out]; show Value.int _ (m + 1) = _; rfl, by rw [HTK.out, HSN2.out]; exact HX7, HZ7, HB7⟩
        case measure =>
          have := HLTN.out
          simp [RowKit.intOf]
          omega
    · obtain rfl : k = n := by omega
      have h1 : ¬ (k : Int) < (k : Int) := by omega
      have HT : Hid (l.take k = l) := Lib.hid (by rw [← HL.out, List.take_length])
      rw [HT.out] at HX ⊢
      clear hlt hk hcn HG
      obtain ⟨gg, hgg⟩ : ∃ gg, runH rise fall h l = gg := ⟨_, rfl⟩
      rw [hgg] at HX ⊢
      have HGG := Lib.hid hgg
      clear hgg
      obtain ⟨⟨nm, dn, run⟩, m⟩ := gg
      simp only
      go_wp2_with (first
        | ((with_reducible show wpList _ _ _ (⟨some 34, _, _, _, _, _⟩ :: _) _ _); refine wpList_loadHl (.tmp 4) rfl (by rfl) w.heap.size 0 (by rfl) ⟨nm, dn, run⟩ (Blk_10.range HX.out) #[.string ⟨nm.toArray⟩, .bool dn, .int .i64 run] rfl ?_)
        | ((with_reducible show wpList _ _ _ (⟨none, .store _ (.tmp 8) _, _, _, _, _⟩ :: _) _ _); refine wpList_storeBA rfl 23 (.tmp 8) _ rfl (w.heap.size + 1) (by rfl) [.string ⟨nm.toArray⟩, .bool dn, .int .i64 run] (by rfl) _ HZ.out rfl hlSize (by simp [Value.oneCell']) ?_; intro w9 hb9 hg9; have HB9 := Lib.hid hb9; have HG9 := Lib.hid hg9; clear hb9 hg9))
      refine bodyPost_ret (v := .tuple #[.agg #[.string ⟨nm.toArray⟩, .bool dn, .int .i64 run], .int .i64 m]) (results_hl rfl _ _ (w.heap.size + 1) (by rfl) [.string ⟨nm.toArray⟩, .bool dn, .int .i64 run] rfl HB9.out _ (by rfl)) rfl ?_
      exact ⟨by rw [HGG.out]; rfl, below_gb HB.out HG9.out (Nat.le_succ _) HB.out.size⟩
theorem setL_no (g : Hl → Hl) {p : Int} (hp : p < 0) (l : List Hl) : setL g p l = l := by
  unfold setL
  refine List.ext_getElem? fun i => ?_
  rw [List.getElem?_mapIdx]
  cases h : l[i]? with
  | none => rfl
  | some x =>
    show some (if (i : Int) = p then g x else x) = some x
    rw [if_neg (by omega)]
theorem setL_at (g : Hl → Hl) {l : List Hl} {k : Nat} {x : Hl} (hx : l[k]? = some x) : setL g (k : Int) l = l.set k (g x) := by
  unfold setL
  refine List.ext_getElem? fun i => ?_
  rw [List.getElem?_mapIdx, List.getElem?_set]
  have hk := (List.getElem?_eq_some_iff.1 hx).1
  by_cases e : k = i
  · subst e
    rw [if_pos rfl, if_pos hk, hx]
    show some (if (k : Int) = (k : Int) then g x else x) = _
    rw [if_pos rfl]
  · rw [if_neg e]
    cases h : l[i]? with
    | none => rfl
    | some y =>
      show some (if (i : Int) = (k : Int) then g y else y) = some y
      rw [if_neg (by omega)]
theorem setT_no (f : Hl → Bool) {p : Int} (hp : p < 0) (l : List Hl) : setT f p l = false := by
  unfold setT
  rw [if_pos hp]
theorem setT_some (f : Hl → Bool) {l : List Hl} {k : Nat} {x : Hl} (hx : l[k]? = some x) : setT f (k : Int) l = f x := by
  unfold setT
  rw [if_neg (by omega), Int.toNat_natCast, hx]
set_option maxHeartbeats 8000000 in
theorem pset_any {A : Option Addr} {n B : Nat} (c : Nat) {l : List Hl} (hn : n ≤ 1000000) (hr : ∀ x, x ∈ l → InR x) (hnm : ∀ x, x ∈ l → x.nm.length ≤ maxLen) (s : List UInt8) (hsl : s.length ≤ maxLen) (well : Bool) (rise fall : Int) (w : World) (hB : B ≤ w.heap.size) (h : RdG eH w B A n l) :
    Calls Try.prog 23 #[.slice A n c, .string ⟨s.toArray⟩, .bool well, .int .i64 rise, .int .i64 fall] w (SetGave w rise fall well s l) := by
  unfold SetGave
  have HP := Lib.hid (places_any c hn hnm w hB h)
  have HC := Lib.hid (fun W (hW : Below w.heap.size w W) => pcloneH_any c hn W (Nat.le_trans hB hW.size) (h.below (hW.mono hB)))
  have HL := Lib.hid h.len
  have HBB := Lib.hid hB
  have HN := Lib.hid hn
  have HRR := Lib.hid hr
  have HKEY := Lib.hid (keyStr hsl)
  clear h hB hn hr hnm hsl
  obtain ⟨p, hp⟩ : ∃ p, placeH (nmsH l) s = p := ⟨_, rfl⟩
  have HPP := Lib.hid hp
  have hlow := place_low (nmsH l) s
  rw [nms_len, HL.out, hp] at hlow
  rw [hp]
  clear hp
  by_cases hneg : 0 ≤ p
  · obtain ⟨k, rfl⟩ : ∃ k : Nat, p = (k : Int) := ⟨p.toNat, by omega⟩
    have hkn : k < n := by omega
    obtain ⟨x, hx⟩ : ∃ x, l[k]? = some x := ⟨_, List.getElem?_eq_getElem (by rw [HL.out]; exact hkn)⟩
    have HX := Lib.hid hx
    rw [setT_some _ hx, setL_at _ hx]
    have e5 : setE (k : Int) = 0 := if_neg (by omega)
    rw [e5]
    clear e5
    have HST := Lib.hid (fun W => pstep_any x well rise fall (HRR.out x (List.mem_of_getElem? hx)).1 (HRR.out x (List.mem_of_getElem? hx)).2 W)
    obtain ⟨st, hst⟩ : ∃ z, stepH rise fall x well = z := ⟨_, rfl⟩
    unfold StepGave hlC at HST
    rw [hst] at HST
    rw [hst]
    clear hst
    obtain ⟨⟨nm2, dn2, run2⟩, tn⟩ := st
    obtain ⟨⟨nm, dn, run⟩, hxe⟩ : ∃ y, x = y := ⟨_, rfl⟩
    subst hxe
    unfold strV at HST
    simp only at HST ⊢
    have HKN := Lib.hid hkn
    have hkn' : (k : Int) < (n : Int) := by omega
    have h0 : (0 : Int) ≤ (k : Int) := by omega
    clear hx hlow hneg
    go_enter Try.func23, Try.ntmps23
    go_wp2_with (first
      | (go_at_call 27; refine HP.out.mono ?_; rintro e w1 ⟨rfl, hb1, D, hM, hD⟩; have HB1 := Lib.hid hb1; have HM1 := Lib.hid hM; have HHAS : Hid (Maps.has D (.string s) = true) := Lib.hid (by rw [(hD.2 s).1, HPP.out]; exact decide_eq_true (by omega)); have HAT : Hid (∀ z, D.atKey (.string s) z = .lit (.int .i64 (k : Int))) := Lib.hid (by have := (hD.2 s).2; rw [HPP.out] at this; exact this (by omega)); clear hb1 hM hD)
      | (at_lookup; refine wpList_lookup_own_ok_int _ rfl _ _ 51 rfl 9 3 .i64 strKeyed Try.underlying51 Try.underlying3 (zeroIntY _) w.heap.size n _ rfl HM1.out _ _ rfl HKEY.out ?_; intro c0 hat hwf; rw [HHAS.out]; have hck : c0 = (k : Int) := by { have h9 := HAT.out (.lit (.int .i64 0)); rw [hat] at h9; injection h9 with h9; injection h9 }; subst hck; clear hat hwf)
      | (go_at_call 32; refine (HC.out _ HB1.out).mono ?_; rintro e w2 ⟨v, rfl, ho, hb2⟩; obtain ⟨g, c2, rfl, hcl, hcm, hbg, hgw⟩ := ho.form (by rw [HL.out]; exact Nat.lt_of_le_of_lt (Nat.zero_le _) HKN.out); rw [HL.out] at ho hcl ⊢; have HO2 := Lib.hid ho; have HB2 := Lib.hid (HB1.out.trans (hb2.mono HB1.out.size)); have HBG := Lib.hid hbg; clear ho hb2 hcl hcm hbg hgw)
      | ((with_reducible show wpList _ _ _ (⟨some 33, _, _, _, _, _⟩ :: _) _ _); refine wpList_loadHl (.tmp 32) rfl (by rfl) g (0 + k * 3) (by simp [Act.eval]) ⟨nm, dn, run⟩ (HO2.out.rd.range HX.out) #[.string ⟨nm.toArray⟩, .bool dn, .int .i64 run] rfl ?_)
      | (go_at_call 11; refine (HST.out _).mono ?_; rintro e w5 ⟨rfl, hb5⟩; have HO5 := Lib.hid (HO2.out.below hb5); have HB5 := Lib.hid (HB2.out.trans (hb5.mono HB2.out.size)); clear hb5)
      | ((with_reducible show wpList _ _ _ (⟨none, .store _ (.tmp 15) _, _, _, _, _⟩ :: _) _ _); refine wpList_storeNewG rfl 23 (.tmp 15) (.tmp 38) rfl (by rfl) [.string ⟨nm2.toArray⟩, .bool dn2, .int .i64 run2] (by rfl) rfl hlSize (by simp [Value.oneCell']) ?_; intro w6 hb6 hbel6 hsz6; have HO6 := Lib.hid (HO5.out.below hbel6); have HB6 := Lib.hid (HB5.out.trans (hbel6.mono HB5.out.size)); have HN6 := Lib.hid hb6; clear hb6 hbel6 hsz6)
      | ((with_reducible show wpList _ _ _ (⟨some 42, _, _, _, _, _⟩ :: _) _ _); refine wpList_loadHl (.tmp 15) rfl (by rfl) w5.heap.size 0 (by rfl) ⟨nm2, dn2, run2⟩ (Blk_10.range HN6.out) #[.string ⟨nm2.toArray⟩, .bool dn2, .int .i64 run2] rfl ?_)
      | ((with_reducible show wpList _ _ _ (⟨none, .store _ (.tmp 43) _, _, _, _, _⟩ :: _) _ _); refine wpList_storeEG eH rfl (.tmp 43) _ rfl g k (k * 3) rfl (by simp [Act.eval]) ⟨nm2, dn2, run2⟩ #[.string ⟨nm2.toArray⟩, .bool dn2, .int .i64 run2] rfl (by rfl) _ n c2 w1.heap.size HO6.out _ HX.out ?_; intro w7 ho7 hg7; have HO7 := Lib.hid ho7; have HB7 := Lib.hid (HB6.out.grown hg7 HB6.out.size (fun j hj => by cases hj; exact Nat.le_trans HB1.out.size HBG.out)); clear ho7 hg7))
    go_ret3
    exact ⟨_, rfl, HO7.out.base_le HB1.out.size, HB7.out⟩
  · have hp0 : p < 0 := by omega
    rw [setT_no _ hp0, setL_no _ hp0]
    have e5 : setE p = 5 := if_pos hp0
    rw [e5]
    have HP0 := Lib.hid hp0
    clear e5 hlow hneg hp0
    go_enter Try.func23, Try.ntmps23
    go_wp2_with (first
      | (go_at_call 27; refine HP.out.mono ?_; rintro e w1 ⟨rfl, hb1, D, hM, hD⟩; have HB1 := Lib.hid hb1; have HM1 := Lib.hid hM; have HHAS : Hid (Maps.has D (.string s) = false) := Lib.hid (by rw [(hD.2 s).1, HPP.out]; exact decide_eq_false (by have := HP0.out; omega)); clear hb1 hM hD)
      | (at_lookup; refine wpList_lookup_own_ok_int _ rfl _ _ 51 rfl 9 3 .i64 strKeyed Try.underlying51 Try.underlying3 (zeroIntY _) w.heap.size n _ rfl HM1.out _ _ rfl HKEY.out ?_; intro c0 hat hwf; rw [HHAS.out]; clear hat hwf)
      | (go_at_call 32; refine (HC.out _ HB1.out).mono ?_; rintro e w2 ⟨v, rfl, ho, hb2⟩; have HO2 := Lib.hid ho; have HB2 := Lib.hid (HB1.out.trans (hb2.mono HB1.out.size)); clear ho hb2))
    go_ret3
    exact ⟨_, rfl, HO2.out.base_le HB1.out.size, HB2.out⟩
end Go.Proofs.Yteljijjebocbiaa
