/-
  The document's Same of two pools.
-/
import Derived.Test.YtajmppaodhpmgaaURef6
import Derived.Deep.RegionHeld3
namespace Go.Proofs.Ytajmppaodhpmgaa
set_option maxRecDepth 100000
open Go.RowKit Go.Lib

def samePl (p q : Pl) : Bool := decide (p.ver = q.ver) && decide (p.l.length = q.l.length) && (p.l.zip q.l).all fun x => bkQ x.1 x.2
theorem samePl_yes {p q : Pl} {n : Nat} (hv : p.ver = q.ver) (h1 : p.l.length = n) (h2 : q.l.length = n) (h : ∀ j a b, j < n → p.l[j]? = some a → q.l[j]? = some b → bkQ a b = true) : samePl p q = true := by
  unfold samePl
  rw [decide_eq_true hv, h1, h2, decide_eq_true rfl, Bool.true_and, Bool.true_and, List.all_eq_true]
  intro x hx
  obtain ⟨j, hj⟩ := List.getElem?_of_mem hx
  obtain ⟨a, b⟩ := x
  obtain ⟨ha, hb⟩ := List.getElem?_zip_eq_some.1 hj
  exact h j a b (by rw [← h1]; exact (List.getElem?_eq_some_iff.1 ha).1) ha hb
theorem samePl_no {p q : Pl} {j : Nat} {a b : Bk} (ha : p.l[j]? = some a) (hb : q.l[j]? = some b) (h : bkQ a b = false) : samePl p q = false := by
  unfold samePl
  apply Bool.eq_false_iff.2
  intro h2
  simp only [Bool.and_eq_true, List.all_eq_true] at h2
  have h3 := h2.2 (a, b) (List.mem_of_getElem? (List.getElem?_zip_eq_some.2 ⟨ha, hb⟩))
  rw [h] at h3
  cases h3
theorem samePl_ver {p q : Pl} (h : p.ver ≠ q.ver) : samePl p q = false := by
  unfold samePl
  rw [decide_eq_false h]
  rfl
theorem samePl_len {p q : Pl} (h : p.l.length ≠ q.l.length) : samePl p q = false := by
  unfold samePl
  rw [decide_eq_false h]
  simp
theorem box_pl2 (w : World) (xs bs : Array Value) : ∃ Y : World, (w.alloc (.cells xs 24)).alloc (.cells bs 24) = Y ∧ Blk Y 24 w.heap.size xs.toList ∧ Blk Y 24 (w.heap.size + 1) bs.toList ∧ Below w.heap.size w Y := by
  refine ⟨_, rfl, Blk_10.alloc (Blk_10.new w _ xs.toList) _, ?_, ((Below.refl w.heap.size w).alloc (Nat.le_refl _) _).alloc (by simp) _⟩
  have h := Blk_10.new (w.alloc (.cells xs 24)) 24 bs.toList
  rw [World.size_alloc] at h
  exact h
set_option maxHeartbeats 8000000 in
theorem rsame18_any {A A' : Option Addr} {n n' B : Nat} (c c' : Nat) {p q : Pl} (hn : n ≤ 9223372036854775807) (hn' : n' ≤ 9223372036854775807) (w : World) (hB : B ≤ w.heap.size) (h : RdG eB w B A n p.l) (h' : RdG eB w B A' n' q.l) :
    Calls Try.prog 17 #[.agg #[.int .i64 p.ver, .slice A n c], .agg #[.int .i64 q.ver, .slice A' n' c']] w fun e w' => e = .returned (.bool (samePl p q)) ∧ Below w.heap.size w w' := by
  obtain ⟨Y, hY, ka, kb, hb0⟩ := box_pl2 w #[.int .i64 p.ver, .slice A n c] #[.int .i64 q.ver, .slice A' n' c']
  have hBY := Nat.le_trans hB hb0.size
  have HLT := Lib.hid (Blk_10.lt kb)
  have HKA := Lib.hid ka
  have HKB := Lib.hid kb
  have HB := Lib.hid hb0
  have HX := Lib.hid (h.below (hb0.mono hB))
  have HZ := Lib.hid (h'.below (hb0.mono hB))
  have HL := Lib.hid h.len
  have HL' := Lib.hid h'.len
  have HS := Lib.hid (fun a b W => rsame1_any a b W)
  obtain ⟨va, hva⟩ : ∃ v, p.ver = v := ⟨_, rfl⟩
  obtain ⟨vb, hvb⟩ : ∃ v, q.ver = v := ⟨_, rfl⟩
  rw [hva, hvb]
  rw [hva, hvb] at hY
  rw [hva] at HKA
  rw [hvb] at HKB
  have HVA := Lib.hid hva
  have HVB := Lib.hid hvb
  have a0 : Y.cell? ⟨w.heap.size, 0, none⟩ = some (.int .i64 va) := Blk_10.cell HKA.out rfl
  have a1 : Y.cell? ⟨w.heap.size, 1, none⟩ = some (.slice A n c) := Blk_10.cell HKA.out rfl
  have b0 : Y.cell? ⟨w.heap.size + 1, 0, none⟩ = some (.int .i64 vb) := Blk_10.cell HKB.out rfl
  have b1 : Y.cell? ⟨w.heap.size + 1, 1, none⟩ = some (.slice A' n' c') := Blk_10.cell HKB.out rfl
  have a1h := Lib.hid a1
  have b1h := Lib.hid b1
  obtain ⟨R, hRR⟩ : ∃ R, samePl p q = R := ⟨_, rfl⟩
  rw [hRR]
  have HF := Lib.hid hRR
  have HBB := Lib.hid hBY
  have HY := Lib.hid hY
  clear h h' hRR ka kb hb0 hBY hB hva hvb
  rw [← hY] at a0 a1 b0 b1
  clear hY
  by_cases h1 : va = vb
  · by_cases h2 : n = n'
    · subst h2
      have e1 : (va != vb) = false := by rw [h1]; simp
      have H1 := Lib.hid h1
      clear h1
      go_enter Try.func17, Try.ntmps17
      go_wp2_with fail
      rw [HY.out]
      clear a0 a1 b0 b1
      go_loopw [5] (fun i wr => ∃ k : Nat, k ≤ n ∧ i = .int .i64 (k : Int) ∧ Hid (∀ j a b, j < k → p.l[j]? = some a → q.l[j]? = some b → bkQ a b = true) ∧ Below Y.heap.size Y wr) (fun i _ => n - (intOf i).toNat)
      case atStart => exact ⟨0, Nat.zero_le _, rfl, Lib.hid (fun j _ _ hj => absurd hj (by omega)), Below.refl _ _⟩
      case round =>
        obtain ⟨k, hk, rfl, HK, hw⟩ := hrel
        have HW := Lib.hid hw
        have a1 : wr.cell? ⟨w.heap.size, 1, none⟩ = some (.slice A n c) := (hw.cell (p := ⟨w.heap.size, 1, none⟩) (Nat.lt_of_succ_lt HLT.out)).trans a1h.out
        clear hw
        by_cases hlt : k < n
        · have h1 : (k : Int) < (n : Int) := by omega
          have h0 : (0 : Int) ≤ (k : Int) := by omega
          obtain ⟨b, off, rfl, _⟩ := HX.out.addr (by omega)
          obtain ⟨b', off', rfl, _⟩ := HZ.out.addr (by omega)
          obtain ⟨x, hx⟩ : ∃ x, p.l[k]? = some x := ⟨_, List.getElem?_eq_getElem (by rw [HL.out]; exact hlt)⟩
          obtain ⟨y, hy⟩ : ∃ y, q.l[k]? = some y := ⟨_, List.getElem?_eq_getElem (by rw [HL'.out]; exact hlt)⟩
          have CA := Lib.hid (fun W (hW : Below Y.heap.size Y W) => (hW.cell (p := ⟨w.heap.size, 1, none⟩) (Nat.lt_of_succ_lt HLT.out)).trans a1h.out)
          have CB := Lib.hid (fun W (hW : Below Y.heap.size Y W) => (hW.cell (p := ⟨w.heap.size + 1, 1, none⟩) HLT.out).trans b1h.out)
          have RX := Lib.hid (fun W (hW : Below Y.heap.size Y W) => (HX.out.below (hW.mono HBB.out)).range hx)
          have RY := Lib.hid (fun W (hW : Below Y.heap.size Y W) => (HZ.out.below (hW.mono HBB.out)).range hy)
          have HSS := Lib.hid (fun W => HS.out x y W)
          unfold bkC at HSS
          obtain ⟨LX, hLX⟩ : ∃ L, (bkL x).toArray = L := ⟨_, rfl⟩
          obtain ⟨LY, hLY⟩ : ∃ L, (bkL y).toArray = L := ⟨_, rfl⟩
          rw [hLX, hLY] at HSS
          have HLX := Lib.hid hLX
          have HLY := Lib.hid hLY
          have HXX := Lib.hid hx
          have HYY := Lib.hid hy
          obtain ⟨f, hf⟩ : ∃ f, bkQ x y = f := ⟨_, rfl⟩
          have HFF := Lib.hid hf
          rw [hf] at HSS
          have HLTN := Lib.hid hlt
          have hk9 : k < 9223372036854775807 := by omega
          clear hLX hLY hx hy hf hlt
          go_wp2_with fail
          refine wp_region_held_drew (S := fun W => Below Y.heap.size Y W) (by kernel_rfl) (HW.out.drew) (fun hHeld => ?_)
          refine wpAnyH_take (i := 0) (oi := ⟨some 27, _, _, _, _, _⟩) (v := .pointer (some ⟨w.heap.size, 1, none⟩)) rfl (by kernel_rfl) (by kernel_rfl) (by kernel_rfl) (fun _ _ _ h => h) (Or.inl ⟨by rfl, fun _ _ => by go_simp⟩) hHeld ?_
          simp only [Act.put, List.setIfInBounds_toArray, List.set_cons_zero, List.set_cons_succ]
          refine wpAnyH_take (i := 1) (oi := ⟨some 28, _, _, _, _, _⟩) (v := .slice (some ⟨b, off, none⟩) n c) rfl (by kernel_rfl) (by kernel_rfl) (by kernel_rfl) (fun _ _ _ h => h) (Or.inl ⟨by rfl, fun W hW => by have hc := CA.out W hW; go_simp⟩) hHeld ?_
          simp only [Act.put, List.setIfInBounds_toArray, List.set_cons_zero, List.set_cons_succ]
          refine wpAnyH_take (i := 2) (oi := ⟨some 29, _, _, _, _, _⟩) (v := .int .i64 (k : Int)) rfl (by kernel_rfl) (by kernel_rfl) (by kernel_rfl) (fun _ _ _ h => h) (Or.inl ⟨by rfl, fun _ _ => by go_simp⟩) hHeld ?_
          simp only [Act.put, List.setIfInBounds_toArray, List.set_cons_zero, List.set_cons_succ]
          refine wpAnyH_take (i := 3) (oi := ⟨some 30, _, _, _, _, _⟩) (v := .pointer (some ⟨b, off + k * 27, none⟩)) rfl (by kernel_rfl) (by kernel_rfl) (by kernel_rfl) (fun _ _ _ h => h) (Or.inl ⟨by rfl, fun _ _ => by go_simp⟩) hHeld ?_
          simp only [Act.put, List.setIfInBounds_toArray, List.set_cons_zero, List.set_cons_succ]
          refine wpAnyH_take (i := 4) (oi := ⟨some 31, _, _, _, _, _⟩) (v := .agg LX) rfl (by kernel_rfl) (by kernel_rfl) (by kernel_rfl) (fun _ _ _ h => h) (by rw [← HLX.out]; exact yieldsIf_load_mid (by rfl) 36 _ rfl b (off + k * 27) (by rfl) (bkL x) _ RX.out Try.underlying36 rfl (by rw [bkL_len]; exact sizeBk)) hHeld ?_
          simp only [Act.put, List.setIfInBounds_toArray, List.set_cons_zero, List.set_cons_succ]
          refine wpAnyH_take (i := 5) (oi := ⟨some 32, _, _, _, _, _⟩) (v := .pointer (some ⟨w.heap.size + 1, 1, none⟩)) rfl (by kernel_rfl) (by kernel_rfl) (by kernel_rfl) (fun _ _ _ h => h) (Or.inl ⟨by rfl, fun _ _ => by go_simp⟩) hHeld ?_
          simp only [Act.put, List.setIfInBounds_toArray, List.set_cons_zero, List.set_cons_succ]
          refine wpAnyH_take (i := 6) (oi := ⟨some 33, _, _, _, _, _⟩) (v := .slice (some ⟨b', off', none⟩) n c') rfl (by kernel_rfl) (by kernel_rfl) (by kernel_rfl) (fun _ _ _ h => h) (Or.inl ⟨by rfl, fun W hW => by have hc := CB.out W hW; go_simp⟩) hHeld ?_
          simp only [Act.put, List.setIfInBounds_toArray, List.set_cons_zero, List.set_cons_succ]
          refine wpAnyH_take (i := 7) (oi := ⟨some 34, _, _, _, _, _⟩) (v := .int .i64 (k : Int)) rfl (by kernel_rfl) (by kernel_rfl) (by kernel_rfl) (fun _ _ _ h => h) (Or.inl ⟨by rfl, fun _ _ => by go_simp⟩) hHeld ?_
          simp only [Act.put, List.setIfInBounds_toArray, List.set_cons_zero, List.set_cons_succ]
          refine wpAnyH_take (i := 8) (oi := ⟨some 35, _, _, _, _, _⟩) (v := .pointer (some ⟨b', off' + k * 27, none⟩)) rfl (by kernel_rfl) (by kernel_rfl) (by kernel_rfl) (fun _ _ _ h => h) (Or.inl ⟨by rfl, fun _ _ => by go_simp⟩) hHeld ?_
          simp only [Act.put, List.setIfInBounds_toArray, List.set_cons_zero, List.set_cons_succ]
          refine wpAnyH_take (i := 9) (oi := ⟨some 36, _, _, _, _, _⟩) (v := .agg LY) rfl (by kernel_rfl) (by kernel_rfl) (by kernel_rfl) (fun _ _ _ h => h) (by rw [← HLY.out]; exact yieldsIf_load_mid (by rfl) 36 _ rfl b' (off' + k * 27) (by rfl) (bkL y) _ RY.out Try.underlying36 rfl (by rw [bkL_len]; exact sizeBk)) hHeld ?_
          simp only [Act.put, List.setIfInBounds_toArray, List.set_cons_zero, List.set_cons_succ]
          refine wpAnyH_ready (rs := [10]) (by kernel_rfl) (by simp) (AllReadyH.cons (o := ⟨some 37, _, _, _, _, _⟩) rfl (fun K hK => ?_) AllReadyH.nil)
          go_simp
          refine (HSS.out _).mono ?_
          rintro e w5 ⟨rfl, hb5⟩
          have HB5 := Lib.hid (hHeld.trans (hb5.mono hHeld.size))
          refine hK.out _ _ (HB5.out) (fun hHeld => ?_)
          clear hK K hb5
          cases f
          · refine wpAnyH_take (i := 11) (oi := ⟨some 38, _, _, _, _, _⟩) (v := .bool true) rfl (by kernel_rfl) (by kernel_rfl) (by kernel_rfl) (fun _ _ _ h => h) (Or.inl ⟨by rfl, fun _ _ => by go_simp⟩) hHeld ?_
            simp only [Act.put, List.setIfInBounds_toArray, List.set_cons_zero, List.set_cons_succ]
            refine wpAnyH_done (by kernel_rfl) ?_ _
            have hv : R = false := by rw [← HF.out]; exact samePl_no HXX.out HYY.out HFF.out
            subst hv
            go_wp2_with fail
            go_ret
            exact ⟨rfl, HB.out.trans (HB5.out.mono HB.out.size)⟩
          · refine wpAnyH_take (i := 11) (oi := ⟨some 38, _, _, _, _, _⟩) (v := .bool false) rfl (by kernel_rfl) (by kernel_rfl) (by kernel_rfl) (fun _ _ _ h => h) (Or.inl ⟨by rfl, fun _ _ => by go_simp⟩) hHeld ?_
            simp only [Act.put, List.setIfInBounds_toArray, List.set_cons_zero, List.set_cons_succ]
            refine wpAnyH_done (by kernel_rfl) ?_ _
            go_wp2_with fail
            go_roundw
            case rel =>
              refine ⟨k + 1, HLTN.out, by go_num, Lib.hid (fun j a b hj ha hb => ?_), HB5.out⟩
              rcases Nat.lt_or_ge j k with h5 | h5
              · exact HK.out j a b h5 ha hb
              · obtain rfl : k = j := by omega
                rw [HXX.out] at ha
                rw [HYY.out] at hb
                cases ha
                cases hb
                exact HFF.out
            case measure =>
              have := HLTN.out
              simp [intOf]
              omega
        · obtain rfl : n = k := by omega
          have h1 : ¬ (n : Int) < (n : Int) := by omega
          have hv : R = true := by rw [← HF.out]; exact samePl_yes (by rw [HVA.out, HVB.out]; exact H1.out) HL.out HL'.out HK.out
          subst hv
          clear hlt
          go_wp2_with fail
          go_ret
          exact ⟨rfl, HB.out.trans (HW.out.mono HB.out.size)⟩
    · have e1 : (va != vb) = false := by rw [h1]; simp
      have e2 : ((n : Int) != (n' : Int)) = true := by simp; omega
      have e3 : (n != n') = true := by simp; omega
      have e4 : ((n : Int) == (n' : Int)) = false := beq_eq_false_iff_ne.2 (by omega)
      have hv : R = false := by rw [← HF.out]; exact samePl_len (by rw [HL.out, HL'.out]; exact h2)
      subst hv
      clear h1 h2
      go_enter Try.func17, Try.ntmps17
      go_wp2_with fail
      go_ret
      exact ⟨rfl, by rw [HY.out]; exact HB.out⟩
  · have e1 : (va != vb) = true := by simp; exact h1
    have hv : R = false := by rw [← HF.out]; exact samePl_ver (by rw [HVA.out, HVB.out]; exact h1)
    subst hv
    clear h1
    go_enter Try.func17, Try.ntmps17
    go_wp2_with fail
    go_ret
    exact ⟨rfl, by rw [HY.out]; exact HB.out⟩
end Go.Proofs.Ytajmppaodhpmgaa
