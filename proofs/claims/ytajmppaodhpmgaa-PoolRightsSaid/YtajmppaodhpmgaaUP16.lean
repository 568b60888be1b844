/-
  The program: Shares.
-/
import Derived.Test.YtajmppaodhpmgaaWRt
import Derived.Test.YtajmppaodhpmgaaURef8
import Derived.Maps.OwnSet
import Derived.Maps.AppendAt
import Derived.WalkKit
namespace Go.Proofs.Ytajmppaodhpmgaa
set_option maxRecDepth 100000
open Go.RowKit Go.Lib Go.Maps

theorem strKeyed : Keyed Try.prog 9 := string_keyed Try.underlying9
theorem zeroUnit (w : World) : (zeroValue 76).run Try.prog w = .ok (.agg #[]) w := by kernel_rfl
theorem run_makeMapH (W : World) (z : Int) : (Instr.makeMap 75 (some (.int .i64 z))).run Try.prog W = .ok (.map (some W.heap.size)) (W.alloc (.map #[] 0)) := by
  simp [Instr.makeMap, run_underlying Try.underlying75, asInt, asIntOf]
/-- The names that are down, as a set. -/
def dnS (ds : List (List UInt8)) (k : Nat) : DataW Unit := setOf (.agg []) ((ds.take k).map fun x => Lit.string x)
theorem dnS_zero (ds : List (List UInt8)) : dnS ds 0 = .map [] := rfl
theorem dnS_succ {ds : List (List UInt8)} {k : Nat} {x : List UInt8} (hx : ds[k]? = some x) : dnS ds (k + 1) = (dnS ds k).put (.string x) (.agg []) := by
  unfold dnS
  rw [List.take_add_one, hx]
  simp only [Option.toList_some, List.map_append, List.map_cons, List.map_nil]
  exact setOf_snoc _ _ _
theorem any_str (s : List UInt8) : ∀ l : List (List UInt8), (l.map fun x => Lit.string x).any (fun y => y.sameKey (.string s)) = decide (s ∈ l)
  | [] => rfl
  | a :: r => by
    rw [List.map_cons, List.any_cons, any_str s r]
    show ((a == s) || decide (s ∈ r)) = _
    by_cases e : a = s
    · subst e
      simp
    · have e' : ¬ s = a := fun h => e h.symm
      simp [e, e']
theorem has_dnS (ds : List (List UInt8)) (s : List UInt8) : Maps.has (dnS ds ds.length) (.string s) = decide (s ∈ ds) := by
  unfold dnS
  rw [has_setOf _ _ _ (fun y hy => by obtain ⟨_, _, rfl⟩ := List.mem_map.1 hy; trivial), List.take_length]
  exact any_str s ds
theorem keyStr {x : List UInt8} (h : x.length ≤ maxLen) : keyOf Try.prog 9 (.string ⟨x.toArray⟩) = some (.string x) :=
  WideMaps.keyOf_string_mk Try.underlying9 (s := ⟨x.toArray⟩) (by simpa [ByteArray.size] using h)
/-- The shares that are laid, behind them noughts. -/
def laidS (ds : List (List UInt8)) (l : List Bk) (n k : Nat) : List Shr := sharesL ds (l.take k) ++ List.replicate (n - k) ⟨[], 0⟩
theorem sharesL_len (ds : List (List UInt8)) (l : List Bk) {k : Nat} (h : k ≤ l.length) : (sharesL ds (l.take k)).length = k := by
  unfold sharesL
  rw [List.length_map, List.length_take, Nat.min_eq_left h]
theorem laidS_at {ds : List (List UInt8)} {l : List Bk} {n k : Nat} (hl : l.length = n) (hk : k < n) : (laidS ds l n k)[k]? = some ⟨[], 0⟩ := by
  unfold laidS
  rw [List.getElem?_append_right (by rw [sharesL_len ds l (by omega)]; exact Nat.le_refl _), sharesL_len ds l (by omega), Nat.sub_self, List.getElem?_replicate, if_pos (by omega)]
theorem laidS_set {ds : List (List UInt8)} {l : List Bk} {n k : Nat} (hl : l.length = n) {x : Bk} (hx : l[k]? = some x) : (laidS ds l n k).set k (shrB ds x) = laidS ds l n (k + 1) := by
  have hk : k < n := by rw [← hl]; exact (List.getElem?_eq_some_iff.1 hx).1
  unfold laidS
  rw [List.set_append_right _ _ (by rw [sharesL_len ds l (by omega)]; exact Nat.le_refl _), sharesL_len ds l (by omega), Nat.sub_self, shares_succ hx, show n - k = (n - (k + 1)) + 1 by omega, List.replicate_succ, List.set_cons_zero, List.append_assoc]
  rfl
theorem laidS_all {ds : List (List UInt8)} {l : List Bk} {n : Nat} (hl : l.length = n) : laidS ds l n n = sharesL ds l := by
  unfold laidS
  rw [Nat.sub_self, List.replicate_zero, List.append_nil, ← hl, List.take_length]
theorem laidS_zero (ds : List (List UInt8)) (l : List Bk) (n : Nat) : laidS ds l n 0 = List.replicate n ⟨[], 0⟩ := rfl
set_option maxHeartbeats 16000000 in
theorem pshares_any {A A2 : Option Addr} {n n2 B : Nat} (c c2 : Nat) {p : Pl} {ds : List (List UInt8)} (hn : n ≤ 1000000) (hn2 : n2 ≤ 1000000) (hds : ∀ x, x ∈ ds → x.length ≤ maxLen) (hnm : ∀ x, x ∈ p.l → x.nm.length ≤ 1000000) (w : World) (hB : B ≤ w.heap.size) (h : RdG eB w B A n p.l) (h2 : RdG eN w B A2 n2 ds) :
    Calls Try.prog 23 #[.agg #[.int .i64 p.ver, .slice A n c], .slice A2 n2 c2] w fun e w' => ∃ r, e = .returned r ∧ OwnG eS w' w.heap.size r (sharesL ds p.l) ∧ Below w.heap.size w w' := by
  obtain ⟨v, hv⟩ : ∃ v, p.ver = v := ⟨_, rfl⟩
  rw [hv]
  obtain ⟨Y, hY⟩ : ∃ Y, w.alloc (.cells #[.int .i64 v, .slice A n c] 24) = Y := ⟨_, rfl⟩
  have HT := Lib.hid (show Blk Y 24 w.heap.size [.int .i64 v, .slice A n c] by rw [← hY]; exact Blk_10.new w _ [.int .i64 v, .slice A n c])
  have hB0 : Below w.heap.size w Y := by rw [← hY]; exact (Below.refl w.heap.size w).alloc (Nat.le_refl _) _
  have HB := Lib.hid hB0
  have HX := Lib.hid (h.below (hB0.mono hB))
  have HD := Lib.hid (h2.below (hB0.mono hB))
  have HBB := Lib.hid (Nat.le_trans hB hB0.size)
  have HLT := Lib.hid (Blk_10.lt HT.out)
  have HL := Lib.hid h.len
  have HL2 := Lib.hid h2.len
  have HY := Lib.hid hY
  have HDS := Lib.hid hds
  have HNM := Lib.hid hnm
  have HN := Lib.hid hn
  have HN2 := Lib.hid hn2
  obtain ⟨l, hl⟩ : ∃ l, p.l = l := ⟨_, rfl⟩
  rw [hl] at HX HL HNM ⊢
  clear h h2 hY hB hB0 hv hds hnm hn hn2 hl
  have hmm := run_makeMapH
  go_enter Try.func23, Try.ntmps23
  go_upto_region 1 with (fail)
  rw [HY.out]
  go_wp2_with fail
  go_loopw [18] (fun i wr => ∃ k : Nat, k ≤ n2 ∧ i = .int .i64 (k : Int) ∧ Hid (wr.ownsMap Try.prog 9 (unitElem (H := Unit)) Y.heap.size k (dnS ds k)) ∧ Below Y.heap.size Y wr) (fun i _ => n2 - (RowKit.intOf i).toNat)
  case atStart => exact ⟨0, Nat.zero_le _, rfl, Lib.hid (World.ownsMap_made _ _ _ _), (Below.refl _ _).alloc (Nat.le_refl _) _⟩
  case round =>
    obtain ⟨k, hk, rfl, HM, hw⟩ := hrel
    have HW := Lib.hid hw
    clear hw
    by_cases hlt : k < n2
    · have h1 : (k : Int) < (n2 : Int) := by omega
      have h0 : (0 : Int) ≤ (k : Int) := by omega
      obtain ⟨b, off, rfl, _⟩ := HD.out.addr (by omega)
      obtain ⟨x, hx⟩ : ∃ x, ds[k]? = some x := ⟨_, List.getElem?_eq_getElem (by rw [HL2.out]; exact hlt)⟩
      have q3 : wr.cell? ⟨b, off + k, none⟩ = some (.string ⟨x.toArray⟩) := (HD.out.below (HW.out.mono HBB.out)).cell1 hx rfl
      have HKEY := Lib.hid (keyStr (HDS.out x (List.mem_of_getElem? hx)))
      have HS := Lib.hid (dnS_succ hx)
      have HLT2 := Lib.hid hlt
      have hk9 : k < 9223372036854775807 := by have := HN2.out; omega
      clear hx hlt hk
      go_wp2_with (at_mapUpdate; refine wpList_mapUpdate_own _ rfl _ _ _ 75 rfl 9 76 strKeyed Try.underlying75 (unitElem (H := Unit)) Y.heap.size k _ rfl HM.out (by unfold maxLen; omega) _ _ _ rfl rfl HKEY.out _ [] unitElem_mk ?_; intro w1 hown1 hgrow1; have HM1 := Lib.hid hown1; have HG1 := Lib.hid hgrow1; clear hown1 hgrow1)
      go_roundw
      case rel => exact ⟨k + 1, HLT2.out, by have := HLT2.out; go_num, Lib.hid (by rw [HS.out]; exact HM1.out), HW.out.grown HG1.out HW.out.size (fun j hj => by cases hj; exact Nat.le_refl _)⟩
      case measure =>
        have := HLT2.out
        simp [RowKit.intOf]
        omega
    · obtain rfl : k = n2 := by omega
      have h1 : ¬ (k : Int) < (k : Int) := by omega
      have a1 : wr.cell? ⟨w.heap.size, 1, none⟩ = some (.slice A n c) := (HW.out.cell (p := ⟨w.heap.size, 1, none⟩) HLT.out).trans (Blk_10.cell HT.out (i := 1) rfl)
      obtain ⟨w6, hrun, hown, hg6⟩ := run_makeG eS ⟨[], 0⟩ rfl n (by have := HN.out; omega) Y.heap.size wr HW.out.size
      obtain ⟨g, hg⟩ : ∃ g, wr.heap.size = g := ⟨_, rfl⟩
      have hrun2 : (Instr.makeSlice 51 (.int .i64 (n : Int)) (.int .i64 (n : Int))).run Try.prog wr = .ok (.slice (some ⟨wr.heap.size, 0, none⟩) n n) w6 := hrun
      rw [hg] at hrun2 hown
      have HO6 := Lib.hid hown
      have HM6 := Lib.hid (HM.out.kept hg6 (by simp))
      have HW6 := Lib.hid (HW.out.grown hg6 HW.out.size (fun j hj => by cases hj))
      have a6 : w6.cell? ⟨w.heap.size, 1, none⟩ = some (.slice A n c) := (HW6.out.cell (p := ⟨w.heap.size, 1, none⟩) HLT.out).trans (Blk_10.cell HT.out (i := 1) rfl)
      have HGY : Hid (Y.heap.size < g) := Lib.hid (by rw [← hg]; exact HM.out.lt)
      clear hrun hown hg6 hg hk hlt
      go_wp2_with fail
      have HKK := Lib.hid HL2.out
      have HHAS0 := Lib.hid (fun s => has_dnS ds s)
      rw [HL2.out] at HHAS0
      clear a1 a6 hmm hrun2 HM
      obtain ⟨k2, hk2⟩ : ∃ k2, k = k2 := ⟨_, rfl⟩
      rw [hk2] at HM6 HHAS0
      clear hk2 h1
      go_loopw [33] (fun i wr => ∃ k : Nat, k ≤ n ∧ i = .int .i64 (k : Int) ∧ Hid (OwnG eS wr Y.heap.size (.slice (some ⟨g, 0, none⟩) n n) (laidS ds l n k)) ∧ Hid (wr.ownsMap Try.prog 9 (unitElem (H := Unit)) Y.heap.size k2 (dnS ds k2)) ∧ Below Y.heap.size Y wr) (fun i _ => n - (RowKit.intOf i).toNat)
      case atStart => exact ⟨0, Nat.zero_le _, rfl, Lib.hid (by rw [laidS_zero]; exact HO6.out), HM6, HW6.out⟩
      case round =>
        clear HM6 HO6 HW6 HW
        obtain ⟨k, hk, rfl, HO3, HM3, hw⟩ := hrel
        have HW3 := Lib.hid hw
        clear hw
        have a3 : wr.cell? ⟨w.heap.size, 1, none⟩ = some (.slice A n c) := (HW3.out.cell (p := ⟨w.heap.size, 1, none⟩) HLT.out).trans (Blk_10.cell HT.out (i := 1) rfl)
        by_cases hlt : k < n
        · have h1 : (k : Int) < (n : Int) := by omega
          have h0 : (0 : Int) ≤ (k : Int) := by omega
          obtain ⟨b, off, rfl, hbB⟩ := HX.out.addr (by omega)
          obtain ⟨x, hx⟩ : ∃ x, l[k]? = some x := ⟨_, List.getElem?_eq_getElem (by rw [HL.out]; exact hlt)⟩
          have q0 : wr.cell? ⟨b, off + k * 27, none⟩ = some (.string ⟨x.nm.toArray⟩) := (HX.out.below (HW3.out.mono HBB.out)).cell hx 0 (bk_nm x)
          have HXX := Lib.hid hx
          have HBL := Lib.hid (Nat.lt_of_lt_of_le hbB HBB.out)
          have HAT := Lib.hid (laidS_at (ds := ds) HL.out hlt)
          have HAT2 : Hid (((laidS ds l n k).set k ⟨x.nm, 0⟩)[k]? = some ⟨x.nm, 0⟩) := Lib.hid (List.getElem?_set_self (List.getElem?_eq_some_iff.1 HAT.out).1)
          have HKEY := Lib.hid (keyStr (x := x.nm) (by have := HNM.out x (List.mem_of_getElem? hx); unfold maxLen; omega))
          have HQ := Lib.hid (fun W => wqu_any x.hw W)
          have HLT3 := Lib.hid hlt
          have hk9 : k < 9223372036854775807 := by have := HN.out; omega
          obtain ⟨dr, hdr⟩ : ∃ dr, x.dr = dr := ⟨_, rfl⟩
          have HDR := Lib.hid hdr
          have HHAS := Lib.hid (HHAS0.out x.nm)
          obtain ⟨qq, hqq⟩ : ∃ qq, quW x.wt = qq := ⟨_, rfl⟩
          rw [hqq] at HQ
          have HQQ := Lib.hid hqq
          clear hx hlt hk hdr hqq hbB
          by_cases hm : x.nm ∈ ds
          · have HSH : Hid (shrB ds x = ⟨x.nm, 0⟩) := Lib.hid (shrB_zero (.inr hm))
            rw [decide_eq_true hm] at HHAS
            clear hm
            go_wp2_with (first
              | ((with_reducible show wpList _ _ _ (⟨none, .store _ (.tmp 47) _, _, _, _, _⟩ :: _) _ _); refine wpList_storeG eS rfl _ _ _ rfl g k 0 (k * 2) rfl (by rfl) (.string ⟨x.nm.toArray⟩) (by rfl) (laidS ds l n k) n n Y.heap.size HO3.out ⟨[], 0⟩ ⟨x.nm, 0⟩ HAT.out (by decide) rfl (by kernel_rfl) rfl rfl ?_; intro w4 ho4 hg4; have HO4 := Lib.hid ho4; have HM4 := Lib.hid (HM3.out.kept hg4 (by simp; exact fun e => Nat.lt_irrefl _ (e ▸ HGY.out))); have HW4 := Lib.hid (HW3.out.grown hg4 HW3.out.size (fun j hj => by cases hj; exact Nat.le_of_lt HGY.out)); have r0 : w4.cell? ⟨b, off + k * 27, none⟩ = some (.string ⟨x.nm.toArray⟩) := (HX.out.below (HW4.out.mono HBB.out)).cell HXX.out 0 (bk_nm x); have r5 : w4.cell? ⟨b, off + k * 27 + 26, none⟩ = some (.bool dr) := by { have h9 := (HX.out.below (HW4.out.mono HBB.out)).cell HXX.out 26 (bk_dr x); rw [HDR.out] at h9; exact h9 }; have r4 : w4.cell? ⟨b, off + k * 27 + 25, none⟩ = some (.float .f64 x.wt) := (HX.out.below (HW4.out.mono HBB.out)).cell HXX.out 25 (bk_wt x); have hbl : b < w4.heap.size := Nat.lt_of_lt_of_le HBL.out HW4.out.size; clear ho4 hg4 q0 a3 HO3 HM3 HW3)
              | (at_lookup; refine wpList_lookup_own_unit _ rfl _ _ 75 rfl 9 76 strKeyed Try.underlying75 (zeroUnit _) Y.heap.size k2 _ rfl HM4.out _ _ rfl HKEY.out ?_; rw [HHAS.out]))
            go_roundw
            case rel => exact ⟨k + 1, HLT3.out, by have := HLT3.out; go_num, Lib.hid (by
              have h9 := HO4.out.alloc (.cells #[] 76)
              rw [← HSH.out, laidS_set HL.out HXX.out] at h9
              exact h9), Lib.hid (HM4.out.alloc _), HW4.out.alloc HW4.out.size _⟩
            case measure =>
              have := HLT3.out
              simp [RowKit.intOf]
              omega
          · rw [decide_eq_false hm] at HHAS
            cases dr
            · have HSH : Hid (shrB ds x = ⟨x.nm, (qq : Int)⟩) := Lib.hid (by rw [shrB_full HDR.out hm, HQQ.out])
              clear hm
              go_wp2_with (first
                | ((with_reducible show wpList _ _ _ (⟨none, .store _ (.tmp 47) _, _, _, _, _⟩ :: _) _ _); refine wpList_storeG eS rfl _ _ _ rfl g k 0 (k * 2) rfl (by rfl) (.string ⟨x.nm.toArray⟩) (by rfl) (laidS ds l n k) n n Y.heap.size HO3.out ⟨[], 0⟩ ⟨x.nm, 0⟩ HAT.out (by decide) rfl (by kernel_rfl) rfl rfl ?_; intro w4 ho4 hg4; have HO4 := Lib.hid ho4; have HM4 := Lib.hid (HM3.out.kept hg4 (by simp; exact fun e => Nat.lt_irrefl _ (e ▸ HGY.out))); have HW4 := Lib.hid (HW3.out.grown hg4 HW3.out.size (fun j hj => by cases hj; exact Nat.le_of_lt HGY.out)); have r0 : w4.cell? ⟨b, off + k * 27, none⟩ = some (.string ⟨x.nm.toArray⟩) := (HX.out.below (HW4.out.mono HBB.out)).cell HXX.out 0 (bk_nm x); have r5 : w4.cell? ⟨b, off + k * 27 + 26, none⟩ = some (.bool false) := by { have h9 := (HX.out.below (HW4.out.mono HBB.out)).cell HXX.out 26 (bk_dr x); rw [HDR.out] at h9; exact h9 }; have r4 : w4.cell? ⟨b, off + k * 27 + 25, none⟩ = some (.float .f64 x.wt) := (HX.out.below (HW4.out.mono HBB.out)).cell HXX.out 25 (bk_wt x); have hbl : b < w4.heap.size := Nat.lt_of_lt_of_le HBL.out HW4.out.size; clear ho4 hg4 q0 a3 HO3 HM3 HW3)
                | (at_lookup; refine wpList_lookup_own_unit _ rfl _ _ 75 rfl 9 76 strKeyed Try.underlying75 (zeroUnit _) Y.heap.size k2 _ rfl HM4.out _ _ rfl HKEY.out ?_; rw [HHAS.out])
                | (go_at_call 42; refine (HQ.out _).mono ?_; rintro e w7 ⟨rfl, rfl⟩)
                | ((with_reducible show wpList _ _ _ (⟨none, .store _ (.tmp 77) _, _, _, _, _⟩ :: _) _ _); refine wpList_storeG eS rfl _ _ _ rfl g k 1 (k * 2 + 1) rfl (by rfl) (.int .i64 (qq : Int)) (by rfl) _ n n Y.heap.size (HO4.out.alloc _) ⟨x.nm, 0⟩ ⟨x.nm, (qq : Int)⟩ HAT2.out (by decide) rfl (by kernel_rfl) rfl rfl ?_; intro w8 ho8 hg8; have HO8 := Lib.hid ho8; have HM8 := Lib.hid ((HM4.out.alloc (.cells #[] 76)).kept hg8 (by simp; exact fun e => Nat.lt_irrefl _ (e ▸ HGY.out))); have HW8 := Lib.hid ((HW4.out.alloc HW4.out.size (.cells #[] 76)).grown hg8 (by rw [World.size_alloc]; have := HW4.out.size; omega) (fun j hj => by cases hj; exact Nat.le_of_lt HGY.out)); clear ho8 hg8))
              go_roundw
              case rel => exact ⟨k + 1, HLT3.out, by have := HLT3.out; go_num, Lib.hid (by
                have h9 := HO8.out
                rw [List.set_set, ← HSH.out, laidS_set HL.out HXX.out] at h9
                exact h9), HM8, HW8.out⟩
              case measure =>
                have := HLT3.out
                simp [RowKit.intOf]
                omega
            · have HSH : Hid (shrB ds x = ⟨x.nm, 0⟩) := Lib.hid (shrB_zero (.inl HDR.out))
              clear hm
              go_wp2_with (first
                | ((with_reducible show wpList _ _ _ (⟨none, .store _ (.tmp 47) _, _, _, _, _⟩ :: _) _ _); refine wpList_storeG eS rfl _ _ _ rfl g k 0 (k * 2) rfl (by rfl) (.string ⟨x.nm.toArray⟩) (by rfl) (laidS ds l n k) n n Y.heap.size HO3.out ⟨[], 0⟩ ⟨x.nm, 0⟩ HAT.out (by decide) rfl (by kernel_rfl) rfl rfl ?_; intro w4 ho4 hg4; have HO4 := Lib.hid ho4; have HM4 := Lib.hid (HM3.out.kept hg4 (by simp; exact fun e => Nat.lt_irrefl _ (e ▸ HGY.out))); have HW4 := Lib.hid (HW3.out.grown hg4 HW3.out.size (fun j hj => by cases hj; exact Nat.le_of_lt HGY.out)); have r0 : w4.cell? ⟨b, off + k * 27, none⟩ = some (.string ⟨x.nm.toArray⟩) := (HX.out.below (HW4.out.mono HBB.out)).cell HXX.out 0 (bk_nm x); have r5 : w4.cell? ⟨b, off + k * 27 + 26, none⟩ = some (.bool true) := by { have h9 := (HX.out.below (HW4.out.mono HBB.out)).cell HXX.out 26 (bk_dr x); rw [HDR.out] at h9; exact h9 }; have r4 : w4.cell? ⟨b, off + k * 27 + 25, none⟩ = some (.float .f64 x.wt) := (HX.out.below (HW4.out.mono HBB.out)).cell HXX.out 25 (bk_wt x); have hbl : b < w4.heap.size := Nat.lt_of_lt_of_le HBL.out HW4.out.size; clear ho4 hg4 q0 a3 HO3 HM3 HW3)
                | (at_lookup; refine wpList_lookup_own_unit _ rfl _ _ 75 rfl 9 76 strKeyed Try.underlying75 (zeroUnit _) Y.heap.size k2 _ rfl HM4.out _ _ rfl HKEY.out ?_; rw [HHAS.out]))
              go_roundw
              case rel => exact ⟨k + 1, HLT3.out, by have := HLT3.out; go_num, Lib.hid (by
                have h9 := HO4.out.alloc (.cells #[] 76)
                rw [← HSH.out, laidS_set HL.out HXX.out] at h9
                exact h9), Lib.hid (HM4.out.alloc _), HW4.out.alloc HW4.out.size _⟩
              case measure =>
                have := HLT3.out
                simp [RowKit.intOf]
                omega
        · obtain rfl : k = n := by omega
          have h1 : ¬ (k : Int) < (k : Int) := by omega
          clear hlt hk
          go_wp2_with fail
          go_ret
          refine ⟨_, rfl, ?_, HB.out.trans (HW3.out.mono HB.out.size)⟩
          have h9 := HO3.out.base_le HB.out.size
          rw [laidS_all HL.out] at h9
          exact h9
end Go.Proofs.Ytajmppaodhpmgaa
