/-
  The document's Do: what is done to a pool.
-/
import Derived.Test.YtajmppaodhpmgaaUAdd
import Derived.Deep.DeepCutAuto
namespace Go.Proofs.Ytajmppaodhpmgaa
set_option maxRecDepth 100000
open Go.RowKit Go.Lib

theorem rise_idx {l : List Bk} (h : RiseB l) {i j : Nat} {a b : Bk} (ha : l[i]? = some a) (hb : l[j]? = some b) (hne : i ≠ j) : a.nm ≠ b.nm := by
  obtain ⟨h1, e1⟩ := List.getElem?_eq_some_iff.1 ha
  obtain ⟨h2, e2⟩ := List.getElem?_eq_some_iff.1 hb
  intro e
  rcases Nat.lt_or_gt_of_ne hne with hl | hl
  · have := List.pairwise_iff_getElem.1 h i j h1 h2 hl
    rw [e1, e2, e, less_irr] at this
    cases this
  · have := List.pairwise_iff_getElem.1 h j i h2 h1 hl
    rw [e1, e2, e, less_irr] at this
    cases this
/-- One backend more behind what is done. -/
theorem list_snoc {o : OpU} (hk : o.kind ≠ 1) (l : List Bk) (y : Bk) : o.list (l ++ [y]) = o.list l ++ (if o.kind = 2 then (if y.nm = o.nm then [] else [y]) else [o.at_ y]) := by
  unfold OpU.list
  rw [if_neg hk, if_neg hk]
  by_cases h2 : o.kind = 2
  · rw [if_pos h2, if_pos h2, if_pos h2, List.filter_append]
    by_cases h : y.nm = o.nm
    · rw [if_pos h, List.filter_cons_of_neg (by simp [h])]
      rfl
    · rw [if_neg h, List.filter_cons_of_pos (by simp [h])]
      rfl
  · rw [if_neg h2, if_neg h2, if_neg h2, List.map_append]
    rfl
theorem list_keep {o : OpU} (hk : o.kind ≠ 1) (l : List Bk) {y : Bk} (h : y.nm ≠ o.nm) : o.list (l ++ [y]) = o.list l ++ [y] := by
  rw [list_snoc hk]
  unfold OpU.at_
  rw [if_neg h, if_neg h]
  by_cases h2 : o.kind = 2
  · rw [if_pos h2]
  · rw [if_neg h2]
theorem list_drop {o : OpU} (h2 : o.kind = 2) (l : List Bk) {y : Bk} (h : y.nm = o.nm) : o.list (l ++ [y]) = o.list l := by
  rw [list_snoc (by omega), if_pos h2, if_pos h, List.append_nil]
theorem list_set {o : OpU} (hk : o.kind ≠ 1) (h2 : o.kind ≠ 2) (l : List Bk) {y : Bk} (h : y.nm = o.nm) : o.list (l ++ [y]) = o.list l ++ [o.set y] := by
  rw [list_snoc hk, if_neg h2]
  unfold OpU.at_
  rw [if_pos h]
theorem list_len_le {o : OpU} (hk : o.kind ≠ 1) (l : List Bk) : (o.list l).length ≤ l.length := by
  unfold OpU.list
  rw [if_neg hk]
  split
  · exact List.length_filter_le _ _
  · rw [List.length_map]
    exact Nat.le_refl _
theorem set_wt {o : OpU} (h : o.kind = 3) (y : Bk) : o.set y = { y with wt := plainW o.wt, hw := plain_lt o.hw } := if_pos h
theorem set_dr {o : OpU} (h : o.kind ≠ 3) (y : Bk) : o.set y = { y with dr := decide (o.kind = 4) } := if_neg h
theorem opu_range {o : OpU} {w : World} {T : TypeId} {g : Nat} (h : Blk w T g (opuL o)) : w.rangeAt g 1 (bkL o.b) :=
  Blk_10.mid h (pre := [.int .i64 o.kind]) (post := [strV o.nm, .float .f64 o.wt]) rfl rfl
/-- Why nothing of a form that may be is done. -/
theorem err_form {p : Pl} {o : OpU} (hk : o.kind ≠ 1) (h : o.kind < 1 ∨ 5 < o.kind ∨ o.kind = 3 ∧ wtW o.wt = false) : o.err p = 1 := by
  unfold OpU.err
  rw [if_neg hk, if_pos h]
theorem err_none {p : Pl} {o : OpU} (hk : o.kind ≠ 1) (h : ¬ (o.kind < 1 ∨ 5 < o.kind ∨ o.kind = 3 ∧ wtW o.wt = false)) (hf : findB p.l o.nm = none) : o.err p = 5 := by
  unfold OpU.err
  rw [if_neg hk, if_neg h, hf]
theorem err_some {p : Pl} {o : OpU} (hk : o.kind ≠ 1) (h : ¬ (o.kind < 1 ∨ 5 < o.kind ∨ o.kind = 3 ∧ wtW o.wt = false)) {b : Bk} (hf : findB p.l o.nm = some b) :
    o.err p = if o.kind = 4 ∧ b.dr = true ∨ o.kind = 5 ∧ b.dr = false then 6 else if 1099511627776 ≤ p.ver then 7 else 0 := by
  unfold OpU.err
  rw [if_neg hk, if_neg h, hf]
theorem DoGave.yes {B : Nat} {w w' : World} {p : Pl} {o : OpU} {n c : Nat} {A : Option Addr} (he : o.err p = 0) {v : Int} (hv : p.ver = v) {l : List Bk} (hl : o.list p.l = l) (hr : OwnG eB w' w.heap.size (.slice A n c) l) (hb : Below w.heap.size w w') :
    DoGave B w p o (.returned (.tuple #[.agg #[.int .i64 (v + 1), .slice A n c], .int .i64 0])) w' := by
  subst hv hl
  refine ⟨A, n, c, ?_, ?_, fun h0 => ?_, hb⟩
  · rw [do_yes he, he]
  · rw [do_yes he]
    exact hr.rd
  · obtain ⟨b, off, e, hb⟩ := hr.place h0
    exact ⟨b, off, e, .inr hb⟩
set_option maxHeartbeats 16000000 in
theorem rdo_any {A : Option Addr} {n B : Nat} (c : Nat) {p : Pl} (hp : RightP p) (o : OpU) (hnm : o.b.nm.length ≤ 1000000) (w : World) (hB : B ≤ w.heap.size) (h : RdG eB w B A n p.l) :
    Calls Try.prog 20 #[.agg #[.int .i64 p.ver, .slice A n c], opuC o] w (DoGave B w p o) := by
  have HRP := Lib.hid hp
  have hlow := hp.low
  have htop := hp.top
  have hfew := hp.few
  have HRISE := Lib.hid hp.rise
  obtain ⟨v, hv⟩ : ∃ v, p.ver = v := ⟨_, rfl⟩
  have HE := Lib.hid (show o.kind ≠ 1 → (o.kind < 1 ∨ 5 < o.kind ∨ o.kind = 3 ∧ wtW o.wt = false) → o.err p = 1 from fun h1 h2 => err_form h1 h2)
  have HNMB := Lib.hid hnm
  have HADD := Lib.hid (fun (hk : o.kind = 1) (W : World) (hW : w.heap.size ≤ W.heap.size) (hr : RdG eB W B A n p.l) => radd_any c hp o hk hnm W (Nat.le_trans hB hW) hr)
  unfold bkC at HADD
  rw [hv] at HADD
  rw [hv] at hlow htop ⊢
  have HVV := Lib.hid hv
  unfold opuC
  obtain ⟨LX, hLX⟩ : ∃ L, (opuL o).toArray = L := ⟨_, rfl⟩
  rw [hLX]
  obtain ⟨LB, hLB⟩ : ∃ L, (bkL o.b).toArray = L := ⟨_, rfl⟩
  rw [hLB] at HADD
  have HLB := Lib.hid hLB
  obtain ⟨Y, hY⟩ : ∃ Y, ((w.alloc (.cells #[.int .i64 v, .slice A n c] 24)).alloc (.cells LX 38)).alloc (.cells #[.int .i64 0, .slice none 0 0] 24) = Y := ⟨_, rfl⟩
  have hs1 := World.size_alloc w (.cells #[.int .i64 v, .slice A n c] 24)
  have hs2 := World.size_alloc (w.alloc (.cells #[.int .i64 v, .slice A n c] 24)) (.cells LX 38)
  have HT := Lib.hid (show Blk Y 24 w.heap.size [.int .i64 v, .slice A n c] by rw [← hY]; exact Blk_10.alloc (Blk_10.alloc (Blk_10.new w _ [.int .i64 v, .slice A n c]) _) _)
  have HX := Lib.hid (show Blk Y 38 (w.heap.size + 1) (opuL o) by
    rw [← hY, ← hLX]
    have := Blk_10.new (w.alloc (.cells #[.int .i64 v, .slice A n c] 24)) 38 (opuL o)
    rw [hs1] at this
    exact Blk_10.alloc this _)
  have HZ := Lib.hid (show Blk Y 24 (w.heap.size + 2) [.int .i64 0, .slice none 0 0] by
    rw [← hY]
    have := Blk_10.new ((w.alloc (.cells #[.int .i64 v, .slice A n c] 24)).alloc (.cells LX 38)) 24 [.int .i64 0, .slice none 0 0]
    rw [hs2, hs1] at this
    exact this)
  have hB0 : Below w.heap.size w Y := by rw [← hY]; exact ((((Below.refl w.heap.size w).alloc (Nat.le_refl _) _).alloc (by rw [hs1]; exact Nat.le_succ _) _).alloc (by rw [hs2, hs1]; omega) _)
  have HYS := Lib.hid (show Y.heap.size = w.heap.size + 3 by rw [← hY, World.size_alloc, hs2, hs1])
  have HB := Lib.hid hB0
  have HR := Lib.hid (h.below (hB0.mono hB))
  have HBB := Lib.hid hB
  have HL := Lib.hid h.len
  have HFI : Hid (∀ W : World, Y.heap.size ≤ W.heap.size → RdG eB W B A n p.l → Calls Try.prog 38 #[.agg #[.int .i64 v, .slice A n c], .string ⟨o.nm.toArray⟩] W fun e w' => e = .returned (.int .i64 (placeB p.l o.nm)) ∧ Below W.heap.size W w') := Lib.hid (fun W hW hr => rfindU_any c (by rw [← h.len]; omega) v o.nm W (Nat.le_trans (Nat.le_trans hB hB0.size) hW) hr)
  have HPL := Lib.hid (fun W => rplain18_any o.hw W)
  have HRW := Lib.hid (fun W => rright14_any o.hw W)
  have HLX := Lib.hid hLX
  have HY := Lib.hid hY
  have HLT := Lib.hid (Blk_10.lt HT.out)
  have HLX1 := Lib.hid (Blk_10.lt HX.out)
  have HLZ := Lib.hid (Blk_10.lt HZ.out)
  have HBY := Lib.hid (Nat.le_trans hB hB0.size)
  have hn1 : n ≤ 1024 := by rw [← h.len]; exact hfew
  have HN1 := Lib.hid hn1
  have HV1 := Lib.hid (show 0 ≤ v ∧ v ≤ 1099511627776 from ⟨hlow, htop⟩)
  obtain ⟨K, hK⟩ : ∃ K, o.kind = K := ⟨_, rfl⟩
  have HK := Lib.hid hK
  have a0 : Y.cell? ⟨w.heap.size, 0, none⟩ = some (.int .i64 v) := Blk_10.cell HT.out (i := 0) rfl
  have a1 : Y.cell? ⟨w.heap.size, 1, none⟩ = some (.slice A n c) := Blk_10.cell HT.out (i := 1) rfl
  have ak : Y.cell? ⟨w.heap.size + 1, 0, none⟩ = some (.int .i64 K) := by rw [← hK]; exact Blk_10.cell HX.out (opu_kind o)
  have an : Y.cell? ⟨w.heap.size + 1, 28, none⟩ = some (.string ⟨o.nm.toArray⟩) := Blk_10.cell HX.out (opu_nm o)
  have aw : Y.cell? ⟨w.heap.size + 1, 29, none⟩ = some (.float .f64 o.wt) := Blk_10.cell HX.out (opu_wt o)
  rw [hK] at HADD HE
  clear hp hv hLX hLB hY hs1 hs2 hB0 hB h hnm hfew hlow htop hK
  by_cases hk1 : K = 1
  · have HADD2 := Lib.hid (HADD.out hk1 Y HB.out.size HR.out)
    have hkb : (K == 1) = true := by rw [hk1]; rfl
    clear hk1 an aw
    go_enter Try.func20, Try.ntmps20
    go_upto_region 1 with (fail)
    rw [HY.out]
    go_wp2_with (first | ((with_reducible show wpList _ _ _ (⟨some 15, _, _, _, _, _⟩ :: _) _ _); refine wpList_loadBk (op := ⟨some 15, _, _, _, _, _⟩) _ rfl (by rfl) (w.heap.size + 1) 1 (by rfl) o.b (opu_range HX.out) _ HLB.out ?_) | ((with_reducible refine HADD2.out.mono ?_); rintro e w1 ⟨A1, n1, c1, rfl, hr1, hq1, hb1⟩; have HR1 := Lib.hid hr1; have HQ1 := Lib.hid hq1; have HB1 := Lib.hid hb1; clear hr1 hb1 hq1) | ((with_reducible show wpList _ _ _ (⟨none, .store 24 (.tmp 4) _, _, _, _, _⟩ :: _) _ _); refine wpList_storeBA rfl 24 (.tmp 4) _ rfl (w.heap.size + 2) (by rfl) [.int .i64 (doP p o).ver, .slice A1 n1 c1] (by rfl) _ (Blk_10.below HZ.out HLZ.out HB1.out) rfl poolSize (by simp [Value.oneCell']) ?_; intro w9 hb9 hg9; have HB9 := Lib.hid hb9; have HG9 := Lib.hid hg9; clear hb9 hg9))
    refine bodyPost_ret (v := .tuple #[.agg #[.int .i64 (doP p o).ver, .slice A1 n1 c1], .int .i64 (o.err p)]) (results_pool rfl _ _ (w.heap.size + 2) (by rfl) [.int .i64 (doP p o).ver, .slice A1 n1 c1] rfl HB9.out _ (by rfl)) rfl ?_
    have hsz := Nat.le_trans HB.out.size HB1.out.size
    refine ⟨A1, n1, c1, rfl, HR1.out.off HG9.out (Nat.le_refl _) HG9.out.size (fun h0 => ?_), fun h0 => ?_, below_gb (HB.out.trans (HB1.out.mono HB.out.size)) HG9.out (by omega) hsz⟩
    · obtain ⟨b, off, e, hb⟩ := HQ1.out h0
      exact ⟨b, off, e, by have := HBB.out; have := HYS.out; omega⟩
    · obtain ⟨b, off, e, hb⟩ := HQ1.out h0
      exact ⟨b, off, e, by have := HBB.out; have := HYS.out; omega⟩
  · have hkb : (K == 1) = false := beq_eq_false_iff_ne.2 hk1
    have HKN := Lib.hid (show o.kind ≠ 1 by rw [HK.out]; exact hk1)
    clear HADD hk1
    obtain ⟨wt, hwt⟩ : ∃ x, wtW o.wt = x := ⟨_, rfl⟩
    have HWT := Lib.hid hwt
    rw [hwt] at HRW HE
    obtain ⟨bad, hbad⟩ : ∃ c, decide (K < 1 ∨ 5 < K ∨ K = 3 ∧ wt = false) = c := ⟨_, rfl⟩
    have HBAD := Lib.hid hbad
    clear hwt hbad
    go_enter Try.func20, Try.ntmps20
    go_upto_region 1 with (fail)
    rw [HY.out]
    go_upto_region 3 with (fail)
    go_cut [37] (fun s wx => s = .bool bad ∧ wx = Y)
    case first =>
      by_cases c1 : K < 1
      · skip
        have HPF := Lib.hid (congrArg Value.bool ((decide_eq_true (show K < 1 ∨ 5 < K ∨ K = 3 ∧ wt = false from .inl c1)).symm.trans HBAD.out))
        go_wp2_with fail
        go_meet
        case rel => exact ⟨HPF.out, rfl⟩
      · by_cases c2 : 5 < K
        · skip
          have HPF := Lib.hid (congrArg Value.bool ((decide_eq_true (show K < 1 ∨ 5 < K ∨ K = 3 ∧ wt = false from .inr (.inl c2))).symm.trans HBAD.out))
          go_wp2_with fail
          go_meet
          case rel => exact ⟨HPF.out, rfl⟩
        · by_cases c3 : K = 3
          · have k3 : (K == 3) = true := by rw [c3]; rfl
            cases wt
            · have HPF := Lib.hid (congrArg Value.bool ((decide_eq_true (show K < 1 ∨ 5 < K ∨ K = 3 ∧ false = false from .inr (.inr ⟨c3, rfl⟩))).symm.trans HBAD.out))
              clear c3
              go_wp2_with ((with_reducible refine (HRW.out Y).mono ?_); rintro e w' ⟨rfl, rfl⟩)
              go_meet
              case rel => exact ⟨HPF.out, rfl⟩
            · have HPF := Lib.hid (congrArg Value.bool ((decide_eq_false (show ¬ (K < 1 ∨ 5 < K ∨ K = 3 ∧ true = false) from fun h => h.elim c1 (fun h => h.elim c2 (fun h => by cases h.2)))).symm.trans HBAD.out))
              clear c3
              go_wp2_with ((with_reducible refine (HRW.out Y).mono ?_); rintro e w' ⟨rfl, rfl⟩)
              go_meet
              case rel => exact ⟨HPF.out, rfl⟩
          · have k3 : (K == 3) = false := beq_eq_false_iff_ne.2 c3
            have HPF := Lib.hid (congrArg Value.bool ((decide_eq_false (show ¬ (K < 1 ∨ 5 < K ∨ K = 3 ∧ wt = false) from fun h => h.elim c1 (fun h => h.elim c2 (fun h => c3 h.1)))).symm.trans HBAD.out))
            go_wp2_with fail
            go_meet
            case rel => exact ⟨HPF.out, rfl⟩
    case rest =>
      obtain ⟨rfl, hwx⟩ := hcut
      have hwx := hwx.symm
      subst hwx
      have bad1 := HBAD.out
      cases bad
      · have HOK := Lib.hid (of_decide_eq_false bad1)
        have HOKK := Lib.hid (show ¬ (o.kind < 1 ∨ 5 < o.kind ∨ o.kind = 3 ∧ wtW o.wt = false) by rw [HK.out, HWT.out]; exact HOK.out)
        clear bad1 HE
        rcases find_place p.l o.nm with ⟨j, b, h1, h2, h3, h4⟩ | ⟨h1, h2⟩
        · have HES := Lib.hid (err_some HKN.out HOKK.out h1)
          rw [HK.out, HVV.out] at HES
          rw [h3] at HFI
          have hj0 : (0 : Int) ≤ (j : Int) := by omega
          have hj1 : ¬ (j : Int) < 0 := by omega
          have hjn : j < n := by have := (List.getElem?_eq_some_iff.1 h2).1; rw [HL.out] at this; exact this
          have hjn2 : (j : Int) < (n : Int) := by omega
          have HJN := Lib.hid hjn
          have HJ := Lib.hid h2
          have HBN := Lib.hid (find_some h1).2
          have hj9 : j < 9223372036854775807 := by have := HN1.out; omega
          clear h1 h2 h3 h4
          obtain ⟨bA, off, rfl, hbA⟩ := HR.out.addr (Nat.lt_of_le_of_lt (Nat.zero_le _) hjn)
          have HBA := Lib.hid hbA
          clear hbA hjn
          go_upto_region 8 with ((with_reducible refine (HFI.out Y (Nat.le_refl _) HR.out).mono ?_); rintro e w2 ⟨rfl, hb2⟩; have HB2 := Lib.hid hb2; clear a0 a1 ak an aw; have a0 : w2.cell? ⟨w.heap.size, 0, none⟩ = some (.int .i64 v) := (HB2.out.cell (p := ⟨w.heap.size, 0, none⟩) HLT.out).trans (Blk_10.cell HT.out (i := 0) rfl); have a1 : w2.cell? ⟨w.heap.size, 1, none⟩ = some (.slice (some ⟨bA, off, none⟩) n c) := (HB2.out.cell (p := ⟨w.heap.size, 1, none⟩) HLT.out).trans (Blk_10.cell HT.out (i := 1) rfl); have ak : w2.cell? ⟨w.heap.size + 1, 0, none⟩ = some (.int .i64 K) := (HB2.out.cell (p := ⟨w.heap.size + 1, 0, none⟩) HLX1.out).trans (by rw [← HK.out]; exact Blk_10.cell HX.out (opu_kind o)); have aw : w2.cell? ⟨w.heap.size + 1, 29, none⟩ = some (.float .f64 o.wt) := (HB2.out.cell (p := ⟨w.heap.size + 1, 29, none⟩) HLX1.out).trans (Blk_10.cell HX.out (opu_wt o)); clear hb2)
          obtain ⟨dr, hdr⟩ : ∃ d, b.dr = d := ⟨_, rfl⟩
          have ad : w2.cell? ⟨bA, off + j * 27 + 26, none⟩ = some (.bool dr) := by have := (HR.out.below (HB2.out.mono HBY.out)).cell HJ.out 26 (bk_dr b); rw [hdr, ← Nat.add_assoc] at this; exact this
          rw [hdr] at HES
          obtain ⟨bad2, hbad2⟩ : ∃ c, decide (K = 4 ∧ dr = true ∨ K = 5 ∧ dr = false) = c := ⟨_, rfl⟩
          have HBAD2 := Lib.hid hbad2
          clear hdr hbad2
          go_cut [70] (fun s wx => s = .bool bad2 ∧ wx = w2)
          case first =>
            by_cases c4 : K = 4
            · have k4 : (K == 4) = true := by rw [c4]; rfl
              have k5 : (K == 5) = false := by rw [c4]; rfl
              cases dr
              · have HPF := Lib.hid (congrArg Value.bool ((decide_eq_false (show ¬ (K = 4 ∧ false = true ∨ K = 5 ∧ false = false) from fun h => h.elim (fun h => by cases h.2) (fun h => by omega))).symm.trans HBAD2.out))
                clear c4
                go_wp2_with fail
                go_meet
                case rel => exact ⟨HPF.out, rfl⟩
              · have HPF := Lib.hid (congrArg Value.bool ((decide_eq_true (show (K = 4 ∧ true = true ∨ K = 5 ∧ true = false) from .inl ⟨c4, rfl⟩)).symm.trans HBAD2.out))
                clear c4
                go_wp2_with fail
                go_meet
                case rel => exact ⟨HPF.out, rfl⟩
            · have k4 : (K == 4) = false := beq_eq_false_iff_ne.2 c4
              by_cases c5 : K = 5
              · have k5 : (K == 5) = true := by rw [c5]; rfl
                cases dr
                · have HPF := Lib.hid (congrArg Value.bool ((decide_eq_true (show (K = 4 ∧ false = true ∨ K = 5 ∧ false = false) from .inr ⟨c5, rfl⟩)).symm.trans HBAD2.out))
                  clear c4 c5
                  go_wp2_with fail
                  go_meet
                  case rel => exact ⟨HPF.out, rfl⟩
                · have HPF := Lib.hid (congrArg Value.bool ((decide_eq_false (show ¬ (K = 4 ∧ true = true ∨ K = 5 ∧ true = false) from fun h => h.elim (fun h => c4 h.1) (fun h => by cases h.2))).symm.trans HBAD2.out))
                  clear c4 c5
                  go_wp2_with fail
                  go_meet
                  case rel => exact ⟨HPF.out, rfl⟩
              · have k5 : (K == 5) = false := beq_eq_false_iff_ne.2 c5
                have HPF := Lib.hid (congrArg Value.bool ((decide_eq_false (show ¬ (K = 4 ∧ dr = true ∨ K = 5 ∧ dr = false) from fun h => h.elim (fun h => c4 h.1) (fun h => c5 h.1))).symm.trans HBAD2.out))
                clear c4 c5
                go_wp2_with fail
                go_meet
                case rel => exact ⟨HPF.out, rfl⟩
          case rest =>
            obtain ⟨rfl, hwx⟩ := hcut
            have hwx := hwx.symm
            subst hwx
            have bad1 := HBAD2.out
            cases bad2
            · have HE2 := Lib.hid HES.out
              rw [if_neg (of_decide_eq_false bad1)] at HE2
              clear bad1 HES ad
              by_cases hver : 1099511627776 ≤ v
              · have HC := Lib.hid HE2.out
                rw [if_pos hver] at HC
                go_wp2_with (first | ((with_reducible show wpList _ _ _ (⟨none, .store 24 (.tmp 4) _, _, _, _, _⟩ :: _) _ _); refine wpList_storeBA rfl 24 (.tmp 4) _ rfl (w.heap.size + 2) (by rfl) [.int .i64 v, .slice (some ⟨bA, off, none⟩) n c] (by rfl) _ (Blk_10.below HZ.out HLZ.out HB2.out) rfl poolSize (by simp [Value.oneCell']) ?_; intro w9 hb9 hg9; have HB9 := Lib.hid hb9; have HG9 := Lib.hid hg9; clear hb9 hg9))
                refine bodyPost_ret (v := .tuple #[.agg #[.int .i64 v, .slice (some ⟨bA, off, none⟩) n c], .int .i64 7]) (results_pool rfl _ _ (w.heap.size + 2) (by rfl) [.int .i64 v, .slice (some ⟨bA, off, none⟩) n c] rfl HB9.out _ (by rfl)) rfl ?_
                have hsz := Nat.le_trans HB.out.size HB2.out.size
                exact DoGave.no HC.out (by decide) (fun h0 => HR.out.addr h0) (((HR.out.below (HB2.out.mono HBY.out)).grown HG9.out (Nat.le_trans HBB.out hsz) (fun g hg => by cases hg; have := HBB.out; omega)).more (Nat.le_trans (Nat.le_trans HBB.out hsz) HG9.out.size)) (below_gb (HB.out.trans (HB2.out.mono HB.out.size)) HG9.out (by omega) hsz) HVV.out
              · have HC := Lib.hid HE2.out
                rw [if_neg hver] at HC
                have HVER := Lib.hid hver
                have hvd : decide (1099511627776 ≤ v) = false := decide_eq_false hver
                clear hver HE2
                have HS2 := Lib.hid (Nat.le_trans HBY.out HB2.out.size)
                have HR2 := Lib.hid (HR.out.below (HB2.out.mono HBY.out))
                have HDIS := Lib.hid (fun (k : Nat) (y : Bk) (hy : p.l[k]? = some y) (hne : k ≠ j) => (by rw [← HBN.out]; exact rise_idx HRISE.out hy HJ.out hne : y.nm ≠ o.nm))
                go_wp2_with fail
                clear a0 a1 ak aw hvd
                go_loopw [7, 8] (fun t i wr => ∃ k : Nat, k ≤ n ∧ i = .int .i64 (k : Int) ∧ OwnG eB wr w2.heap.size t (o.list (p.l.take k)) ∧ Below w2.heap.size w2 wr) (fun _ i _ => n - (RowKit.intOf i).toNat)
                case atStart => exact ⟨0, Nat.zero_le _, rfl, by rw [List.take_zero]; unfold OpU.list; rw [if_neg HKN.out]; split <;> exact OwnG.nil_ eB _ _, Below.refl _ _⟩
                case round =>
                  obtain ⟨k, hk, rfl, hown, hw⟩ := hrel
                  have HW := Lib.hid (HB2.out.trans (hw.mono HB2.out.size))
                  have HW2 := Lib.hid hw
                  have HO := Lib.hid hown
                  have a0 : wr.cell? ⟨w.heap.size, 0, none⟩ = some (.int .i64 v) := (HW.out.cell (p := ⟨w.heap.size, 0, none⟩) HLT.out).trans (Blk_10.cell HT.out (i := 0) rfl)
                  have a1 : wr.cell? ⟨w.heap.size, 1, none⟩ = some (.slice (some ⟨bA, off, none⟩) n c) := (HW.out.cell (p := ⟨w.heap.size, 1, none⟩) HLT.out).trans (Blk_10.cell HT.out (i := 1) rfl)
                  have ak : wr.cell? ⟨w.heap.size + 1, 0, none⟩ = some (.int .i64 K) := (HW.out.cell (p := ⟨w.heap.size + 1, 0, none⟩) HLX1.out).trans (by rw [← HK.out]; exact Blk_10.cell HX.out (opu_kind o))
                  have aw : wr.cell? ⟨w.heap.size + 1, 29, none⟩ = some (.float .f64 o.wt) := (HW.out.cell (p := ⟨w.heap.size + 1, 29, none⟩) HLX1.out).trans (Blk_10.cell HX.out (opu_wt o))
                  clear hw hown
                  by_cases hlt : k < n
                  · have h1 : (k : Int) < (n : Int) := by omega
                    have h0 : (0 : Int) ≤ (k : Int) := by omega
                    obtain ⟨y, hy⟩ : ∃ y, p.l[k]? = some y := ⟨_, List.getElem?_eq_getElem (by rw [HL.out]; exact hlt)⟩
                    have RY := Lib.hid ((HR.out.below (HW.out.mono HBY.out)).range hy)
                    have HTK : Hid (p.l.take (k + 1) = p.l.take k ++ [y]) := Lib.hid (by rw [List.take_add_one, hy]; rfl)
                    have HLK : Hid ((o.list (p.l.take k)).length + 1 ≤ 100000000) := Lib.hid (by have h1 := list_len_le HKN.out (p.l.take k); have h2 := List.length_take_le k p.l; have := HN1.out; omega)
                    obtain ⟨LY, hLY⟩ : ∃ L, (bkL y).toArray = L := ⟨_, rfl⟩
                    have HLY := Lib.hid hLY
                    have HLTN := Lib.hid hlt
                    have HYY := Lib.hid hy
                    have hk9 : k < 9223372036854775807 := by have := HN1.out; omega
                    clear hLY hy hlt
                    go_upto_region 17 with (first
                      | ((with_reducible show wpList _ _ _ (⟨some 87, _, _, _, _, _⟩ :: _) _ _); refine wpList_loadBk (op := ⟨some 87, _, _, _, _, _⟩) _ rfl (by rfl) bA (off + k * 27) (by rfl) y RY.out _ HLY.out ?_)
                      | ((with_reducible show wpList _ _ _ (⟨none, _, _, _, _, _⟩ :: _) _ _); refine wpList_storeNewG rfl 36 _ _ rfl (by rfl) (bkL y) (by rw [HLY.out]; rfl) (by rw [bkL_len]; rfl) (by rw [bkL_len]; exact sizeBk) (bkL_one y) ?_; intro w3 hb3 hB3 hz3))
                    have HK3 := Lib.hid hb3
                    have HW3 := Lib.hid (HW.out.trans (hB3.mono HW.out.size))
                    have HW23 := Lib.hid (HW2.out.trans (hB3.mono HW2.out.size))
                    have HO3 := Lib.hid (HO.out.below hB3)
                    have HS3 := Lib.hid hz3
                    clear hb3 hB3 hz3 a0 a1 ak aw
                    have a0 : w3.cell? ⟨w.heap.size, 0, none⟩ = some (.int .i64 v) := (HW3.out.cell (p := ⟨w.heap.size, 0, none⟩) HLT.out).trans (Blk_10.cell HT.out (i := 0) rfl)
                    have a1 : w3.cell? ⟨w.heap.size, 1, none⟩ = some (.slice (some ⟨bA, off, none⟩) n c) := (HW3.out.cell (p := ⟨w.heap.size, 1, none⟩) HLT.out).trans (Blk_10.cell HT.out (i := 1) rfl)
                    have ak : w3.cell? ⟨w.heap.size + 1, 0, none⟩ = some (.int .i64 K) := (HW3.out.cell (p := ⟨w.heap.size + 1, 0, none⟩) HLX1.out).trans (by rw [← HK.out]; exact Blk_10.cell HX.out (opu_kind o))
                    have aw : w3.cell? ⟨w.heap.size + 1, 29, none⟩ = some (.float .f64 o.wt) := (HW3.out.cell (p := ⟨w.heap.size + 1, 29, none⟩) HLX1.out).trans (Blk_10.cell HX.out (opu_wt o))
                    by_cases hkj : k = j
                    · subst hkj
                      have hyb : y = b := by have h1 := HYY.out; have h2 := HJ.out; rw [h1] at h2; cases h2; rfl
                      have HYN := Lib.hid (show y.nm = o.nm by rw [hyb]; exact HBN.out)
                      have hkk : ((k : Int) == (k : Int)) = true := by simp
                      clear hyb
                      by_cases c2 : K = 2
                      · have k2 : (K == 2) = true := by rw [c2]; rfl
                        have HD := Lib.hid (list_drop (o := o) (by rw [HK.out]; exact c2) (p.l.take k) HYN.out)
                        clear c2
                        go_wp2_with fail
                        refine ⟨⟨k + 1, HLTN.out, by go_num, by rw [HTK.out, HD.out]; exact HO3.out, HW23.out⟩, ?_⟩
                        have := HLTN.out
                        simp [RowKit.intOf]
                        omega
                      · have k2 : (K == 2) = false := beq_eq_false_iff_ne.2 c2
                        have HD := Lib.hid (list_set (o := o) HKN.out (by rw [HK.out]; exact c2) (p.l.take k) HYN.out)
                        clear c2
                        by_cases c3 : K = 3
                        · have k3 : (K == 3) = true := by rw [c3]; rfl
                          have hz := set_wt (o := o) (by rw [HK.out]; exact c3) y
                          clear c3
                          obtain ⟨z, hzz⟩ : ∃ z : Bk, { y with wt := plainW o.wt, hw := plain_lt o.hw } = z := ⟨_, rfl⟩
                          obtain ⟨LZ, hLZ⟩ : ∃ L, (bkL z).toArray = L := ⟨_, rfl⟩
                          have HLZ2 := Lib.hid hLZ
                          rw [hzz] at hz
                          have HDZ := Lib.hid HD.out
                          rw [hz] at HDZ
                          have HZZ := Lib.hid hzz
                          clear hz hLZ hzz HD
                          go_wp2_with (first | ((with_reducible refine (HPL.out w3).mono ?_); rintro e w' ⟨rfl, rfl⟩) | ((with_reducible show wpList _ _ _ (⟨none, .store 34 (.tmp 100) _, _, _, _, _⟩ :: _) _ _); refine wpList_storeB1 rfl 34 (.tmp 100) _ rfl wr.heap.size 25 (by rfl) (.float .f64 (plainW o.wt)) (by rfl) 36 (bkL y) HK3.out (by rw [bkL_len]; decide) (by kernel_rfl) rfl rfl ?_; intro w4 hb4 hg4; rw [bkL_wt y (plain_lt o.hw)] at hb4; rw [HZZ.out] at hb4; have HK4 := Lib.hid hb4; have HO4 := Lib.hid (HO3.out.kept hg4 (.inr (fun e => Nat.lt_irrefl _ (HO.out.ltS _ e)))); have HW4 := Lib.hid (below_gb HW23.out hg4 HW2.out.size HW23.out.size); clear hb4 hg4) | ((with_reducible show wpList _ _ _ (⟨some 106, _, _, _, _, _⟩ :: _) _ _); refine wpList_loadBk (op := ⟨some 106, _, _, _, _, _⟩) _ rfl (by rfl) wr.heap.size 0 (by rfl) (z) (Blk_10.range HK4.out) _ HLZ2.out ?_) | ((with_reducible show wpList _ _ _ (⟨some 107, _, _, _, _, _⟩ :: _) _ _); refine wpList_build1 (o := ⟨some 107, _, _, _, _, _⟩) eB (by decide) (z) rfl 106 rfl _ HLZ2.out (by rfl) ?_) | ((with_reducible show wpList _ _ _ (⟨some 108, _, _, _, _, _⟩ :: _) _ _); refine wpList_appendG (o := ⟨some 108, _, _, _, _, _⟩) eB rfl _ _ rfl w2.heap.size _ (o.list (p.l.take k)) (by rfl) (HO4.out.alloc _) (w4.heap.size + 1) _ 1 1 [z] (by rfl) (RdG.laid eB w4 [z] 1 rfl _ (by rw [← HLZ2.out]; simp [Enc.cells]; rfl)) HLK.out (by rw [World.size_alloc]; exact Nat.le_succ_of_le HW4.out.size) ?_; intro v8 w8 ho hg _; have hb := (HW4.out.alloc HW4.out.size (.cells LZ 36)).grown hg (by rw [World.size_alloc]; exact Nat.le_succ_of_le HW4.out.size) (HO4.out.lt); have HO8 := Lib.hid ho; have HN8 := Lib.hid hb; clear ho hg hb))
                          refine ⟨⟨k + 1, HLTN.out, by go_num, by rw [HTK.out, HDZ.out]; exact HO8.out, HN8.out⟩, ?_⟩
                          have := HLTN.out
                          simp [RowKit.intOf]
                          omega
                        · have k3 : (K == 3) = false := beq_eq_false_iff_ne.2 c3
                          have hz := set_dr (o := o) (by rw [HK.out]; exact c3) y
                          obtain ⟨k4, hk4⟩ : ∃ d, (K == 4) = d := ⟨_, rfl⟩
                          have hd4 : decide (o.kind = 4) = k4 := by rw [HK.out, ← hk4]; rfl
                          rw [hd4] at hz
                          clear c3 hd4
                          obtain ⟨z, hzz⟩ : ∃ z : Bk, { y with dr := k4 } = z := ⟨_, rfl⟩
                          obtain ⟨LZ, hLZ⟩ : ∃ L, (bkL z).toArray = L := ⟨_, rfl⟩
                          have HLZ2 := Lib.hid hLZ
                          rw [hzz] at hz
                          have HDZ := Lib.hid HD.out
                          rw [hz] at HDZ
                          have HZZ := Lib.hid hzz
                          clear hz hLZ hzz HD
                          go_wp2_with (first | ((with_reducible show wpList _ _ _ (⟨none, .store 4 (.tmp 104) _, _, _, _, _⟩ :: _) _ _); refine wpList_storeB1 rfl 4 (.tmp 104) _ rfl wr.heap.size 26 (by rfl) (.bool k4) (by rfl) 36 (bkL y) HK3.out (by rw [bkL_len]; decide) (by kernel_rfl) rfl rfl ?_; intro w4 hb4 hg4; rw [bkL_dr y k4] at hb4; rw [HZZ.out] at hb4; have HK4 := Lib.hid hb4; have HO4 := Lib.hid (HO3.out.kept hg4 (.inr (fun e => Nat.lt_irrefl _ (HO.out.ltS _ e)))); have HW4 := Lib.hid (below_gb HW23.out hg4 HW2.out.size HW23.out.size); clear hb4 hg4) | ((with_reducible show wpList _ _ _ (⟨some 106, _, _, _, _, _⟩ :: _) _ _); refine wpList_loadBk (op := ⟨some 106, _, _, _, _, _⟩) _ rfl (by rfl) wr.heap.size 0 (by rfl) (z) (Blk_10.range HK4.out) _ HLZ2.out ?_) | ((with_reducible show wpList _ _ _ (⟨some 107, _, _, _, _, _⟩ :: _) _ _); refine wpList_build1 (o := ⟨some 107, _, _, _, _, _⟩) eB (by decide) (z) rfl 106 rfl _ HLZ2.out (by rfl) ?_) | ((with_reducible show wpList _ _ _ (⟨some 108, _, _, _, _, _⟩ :: _) _ _); refine wpList_appendG (o := ⟨some 108, _, _, _, _, _⟩) eB rfl _ _ rfl w2.heap.size _ (o.list (p.l.take k)) (by rfl) (HO4.out.alloc _) (w4.heap.size + 1) _ 1 1 [z] (by rfl) (RdG.laid eB w4 [z] 1 rfl _ (by rw [← HLZ2.out]; simp [Enc.cells]; rfl)) HLK.out (by rw [World.size_alloc]; exact Nat.le_succ_of_le HW4.out.size) ?_; intro v8 w8 ho hg _; have hb := (HW4.out.alloc HW4.out.size (.cells LZ 36)).grown hg (by rw [World.size_alloc]; exact Nat.le_succ_of_le HW4.out.size) (HO4.out.lt); have HO8 := Lib.hid ho; have HN8 := Lib.hid hb; clear ho hg hb))
                          refine ⟨⟨k + 1, HLTN.out, by go_num, by rw [HTK.out, HDZ.out]; exact HO8.out, HN8.out⟩, ?_⟩
                          have := HLTN.out
                          simp [RowKit.intOf]
                          omega
                    · have hkk : ((k : Int) == (j : Int)) = false := beq_eq_false_iff_ne.2 (by omega)
                      have HD := Lib.hid (list_keep HKN.out (p.l.take k) (HDIS.out k y HYY.out hkj))
                      clear hkj
                      go_wp2_with (first | ((with_reducible show wpList _ _ _ (⟨some 106, _, _, _, _, _⟩ :: _) _ _); refine wpList_loadBk (op := ⟨some 106, _, _, _, _, _⟩) _ rfl (by rfl) wr.heap.size 0 (by rfl) (y) (Blk_10.range HK3.out) _ HLY.out ?_) | ((with_reducible show wpList _ _ _ (⟨some 107, _, _, _, _, _⟩ :: _) _ _); refine wpList_build1 (o := ⟨some 107, _, _, _, _, _⟩) eB (by decide) (y) rfl 106 rfl _ HLY.out (by rfl) ?_) | ((with_reducible show wpList _ _ _ (⟨some 108, _, _, _, _, _⟩ :: _) _ _); refine wpList_appendG (o := ⟨some 108, _, _, _, _, _⟩) eB rfl _ _ rfl w2.heap.size _ (o.list (p.l.take k)) (by rfl) (HO3.out.alloc _) (w3.heap.size + 1) _ 1 1 [y] (by rfl) (RdG.laid eB w3 [y] 1 rfl _ (by rw [← HLY.out]; simp [Enc.cells]; rfl)) HLK.out (by rw [World.size_alloc]; exact Nat.le_succ_of_le HW23.out.size) ?_; intro v8 w8 ho hg _; have hb := (HW23.out.alloc HW23.out.size (.cells LY 36)).grown hg (by rw [World.size_alloc]; exact Nat.le_succ_of_le HW23.out.size) (HO3.out.lt); have HO8 := Lib.hid ho; have HN8 := Lib.hid hb; clear ho hg hb))
                      refine ⟨⟨k + 1, HLTN.out, by go_num, by rw [HTK.out, HD.out]; exact HO8.out, HN8.out⟩, ?_⟩
                      have := HLTN.out
                      simp [RowKit.intOf]
                      omega
                  · obtain rfl : k = n := by omega
                    have h1 : ¬ (k : Int) < (k : Int) := by omega
                    have hvw : v + 1 ≤ 1099511627776 := by have := HVER.out; omega
                    have hvl : 0 ≤ v := HV1.out.1
                    have HTK : Hid (p.l.take k = p.l) := Lib.hid (List.take_of_length_le (Nat.le_of_eq HL.out))
                    rw [HTK.out] at HO
                    obtain ⟨A9, n9, c9, rfl, e9, q9, r9, _, _⟩ := HO.out.sl
                    clear e9 q9 r9 hlt ak aw
                    go_wp2_with (first | ((with_reducible show wpList _ _ _ (⟨none, .store 24 (.tmp 4) _, _, _, _, _⟩ :: _) _ _); refine wpList_storeBA rfl 24 (.tmp 4) _ rfl (w.heap.size + 2) (by rfl) [.int .i64 (v + 1), .slice A9 n9 c9] (by rfl) _ (Blk_10.below HZ.out HLZ.out HW.out) rfl poolSize (by simp [Value.oneCell']) ?_; intro w9 hb9 hg9; have HB9 := Lib.hid hb9; have HG9 := Lib.hid hg9; clear hb9 hg9))
                    refine bodyPost_ret (v := .tuple #[.agg #[.int .i64 (v + 1), .slice A9 n9 c9], .int .i64 0]) (results_pool rfl _ _ (w.heap.size + 2) (by rfl) [.int .i64 (v + 1), .slice A9 n9 c9] rfl HB9.out _ (by rfl)) rfl ?_
                    have hsz := Nat.le_trans HB.out.size HB2.out.size
                    have hs4 := HYS.out
                    have hs5 := HB2.out.size
                    exact DoGave.yes HC.out HVV.out rfl ((HO.out.kept HG9.out (.inr (fun e => by have := HO.out.lt _ e; omega))).base_le hsz) (below_gb (HB.out.trans (HW.out.mono HB.out.size)) HG9.out (by omega) (Nat.le_trans HB.out.size HW.out.size))
            · have HC := Lib.hid HES.out
              rw [if_pos (of_decide_eq_true bad1)] at HC
              clear bad1 ad
              go_wp2_with (first | ((with_reducible show wpList _ _ _ (⟨none, .store 24 (.tmp 4) _, _, _, _, _⟩ :: _) _ _); refine wpList_storeBA rfl 24 (.tmp 4) _ rfl (w.heap.size + 2) (by rfl) [.int .i64 v, .slice (some ⟨bA, off, none⟩) n c] (by rfl) _ (Blk_10.below HZ.out HLZ.out HB2.out) rfl poolSize (by simp [Value.oneCell']) ?_; intro w9 hb9 hg9; have HB9 := Lib.hid hb9; have HG9 := Lib.hid hg9; clear hb9 hg9))
              refine bodyPost_ret (v := .tuple #[.agg #[.int .i64 v, .slice (some ⟨bA, off, none⟩) n c], .int .i64 6]) (results_pool rfl _ _ (w.heap.size + 2) (by rfl) [.int .i64 v, .slice (some ⟨bA, off, none⟩) n c] rfl HB9.out _ (by rfl)) rfl ?_
              have hsz := Nat.le_trans HB.out.size HB2.out.size
              exact DoGave.no HC.out (by decide) (fun h0 => HR.out.addr h0) (((HR.out.below (HB2.out.mono HBY.out)).grown HG9.out (Nat.le_trans HBB.out hsz) (fun g hg => by cases hg; have := HBB.out; omega)).more (Nat.le_trans (Nat.le_trans HBB.out hsz) HG9.out.size)) (below_gb (HB.out.trans (HB2.out.mono HB.out.size)) HG9.out (by omega) hsz) HVV.out
        · have HC := Lib.hid (err_none HKN.out HOKK.out h1)
          rw [h2] at HFI
          clear h1 h2
          go_wp2_with (first | ((with_reducible refine (HFI.out Y (Nat.le_refl _) HR.out).mono ?_); rintro e w2 ⟨rfl, hb2⟩; have HB2 := Lib.hid hb2; clear a0 a1 ak an aw; have a0 : w2.cell? ⟨w.heap.size, 0, none⟩ = some (.int .i64 v) := (HB2.out.cell (p := ⟨w.heap.size, 0, none⟩) HLT.out).trans (Blk_10.cell HT.out (i := 0) rfl); have a1 : w2.cell? ⟨w.heap.size, 1, none⟩ = some (.slice A n c) := (HB2.out.cell (p := ⟨w.heap.size, 1, none⟩) HLT.out).trans (Blk_10.cell HT.out (i := 1) rfl); have ak : w2.cell? ⟨w.heap.size + 1, 0, none⟩ = some (.int .i64 K) := (HB2.out.cell (p := ⟨w.heap.size + 1, 0, none⟩) HLX1.out).trans (by rw [← HK.out]; exact Blk_10.cell HX.out (opu_kind o)); have aw : w2.cell? ⟨w.heap.size + 1, 29, none⟩ = some (.float .f64 o.wt) := (HB2.out.cell (p := ⟨w.heap.size + 1, 29, none⟩) HLX1.out).trans (Blk_10.cell HX.out (opu_wt o)); clear hb2) | ((with_reducible show wpList _ _ _ (⟨none, .store 24 (.tmp 4) _, _, _, _, _⟩ :: _) _ _); refine wpList_storeBA rfl 24 (.tmp 4) _ rfl (w.heap.size + 2) (by rfl) [.int .i64 v, .slice A n c] (by rfl) _ (Blk_10.below HZ.out HLZ.out HB2.out) rfl poolSize (by simp [Value.oneCell']) ?_; intro w9 hb9 hg9; have HB9 := Lib.hid hb9; have HG9 := Lib.hid hg9; clear hb9 hg9))
          refine bodyPost_ret (v := .tuple #[.agg #[.int .i64 v, .slice A n c], .int .i64 5]) (results_pool rfl _ _ (w.heap.size + 2) (by rfl) [.int .i64 v, .slice A n c] rfl HB9.out _ (by rfl)) rfl ?_
          have hsz := Nat.le_trans HB.out.size HB2.out.size
          exact DoGave.no HC.out (by decide) (fun h0 => HR.out.addr h0) (((HR.out.below (HB2.out.mono HBY.out)).grown HG9.out (Nat.le_trans HBB.out hsz) (fun g hg => by cases hg; have := HBB.out; omega)).more (Nat.le_trans (Nat.le_trans HBB.out hsz) HG9.out.size)) (below_gb (HB.out.trans (HB2.out.mono HB.out.size)) HG9.out (by omega) hsz) HVV.out
      · have HC := Lib.hid (HE.out (by rw [← HK.out]; exact HKN.out) (of_decide_eq_true bad1))
        clear bad1
        go_wp2_with (first | ((with_reducible show wpList _ _ _ (⟨none, .store 24 (.tmp 4) _, _, _, _, _⟩ :: _) _ _); refine wpList_storeBA rfl 24 (.tmp 4) _ rfl (w.heap.size + 2) (by rfl) [.int .i64 v, .slice A n c] (by rfl) _ (Blk_10.below HZ.out HLZ.out (Below.refl Y.heap.size Y)) rfl poolSize (by simp [Value.oneCell']) ?_; intro w9 hb9 hg9; have HB9 := Lib.hid hb9; have HG9 := Lib.hid hg9; clear hb9 hg9))
        refine bodyPost_ret (v := .tuple #[.agg #[.int .i64 v, .slice A n c], .int .i64 1]) (results_pool rfl _ _ (w.heap.size + 2) (by rfl) [.int .i64 v, .slice A n c] rfl HB9.out _ (by rfl)) rfl ?_
        have hsz := Nat.le_trans HB.out.size (Below.refl Y.heap.size Y).size
        exact DoGave.no HC.out (by decide) (fun h0 => HR.out.addr h0) (((HR.out.below ((Below.refl Y.heap.size Y).mono HBY.out)).grown HG9.out (Nat.le_trans HBB.out hsz) (fun g hg => by cases hg; have := HBB.out; omega)).more (Nat.le_trans (Nat.le_trans HBB.out hsz) HG9.out.size)) (below_gb (HB.out.trans ((Below.refl Y.heap.size Y).mono HB.out.size)) HG9.out (by omega) hsz) HVV.out
end Go.Proofs.Ytajmppaodhpmgaa
