/-
  The program's has, Pick and Count (maglev).
  The program's Count (maglev).
  The program's turns (maglev): the struct, in a slice; the greatest quanta, pays, choose.
-/
import Derived.Test.YtmngagcekhlppaaVC
import Derived.Test.YtmngagcekhlppaaJPCh
import Derived.Deep.RegionHeld3
namespace Go.Proofs.Ytmngagcekhlppaa
set_option maxRecDepth 100000
open Go.RowKit Go.Lib

theorem phas_yes (A A' : Option Addr) (n c m c' j : Nat) (hj : j < n) (w : World) :
    Calls Try.prog 32 #[.agg #[.slice A n c, .slice A' m c'], .int .i64 (j : Int)] w fun e w' => e = .returned (.bool true) ∧ Below w.heap.size w w' := by
  have k1 : (j : Int) < (n : Int) := by omega
  have k2 : (0 : Int) ≤ (j : Int) := by omega
  clear hj
  go_enter Try.func32, Try.ntmps32
  go_wp2_with fail
  go_ret
  exact ⟨rfl, (Below.refl w.heap.size w).alloc (Nat.le_refl _) _⟩
set_option maxHeartbeats 4000000 in
theorem ppick_any {B B' n m : Nat} {A A' : Option Addr} (c c' : Nat) {nm : List (List UInt8)} {xs : List Int} (hm : m ≤ 65537) (w : World) (hB : B ≤ w.heap.size) (hB' : B' ≤ w.heap.size) (h : RdG eN w B A n nm) (h' : RdG eZ w B' A' m xs) (hr : ∀ x, x ∈ xs → 0 ≤ x ∧ x < n) (v : Nat) (hv : v < 18446744073709551616) :
    Calls Try.prog 17 #[tblV (.slice A n c) (.slice A' m c'), .int .u64 (v : Int)] w fun e w' => e = .returned (.tuple #[strV (pickS nm xs v), .bool (decide (0 < m))]) ∧ Below w.heap.size w w' := by
  have HR := Lib.hid h
  have HR2 := Lib.hid h'
  unfold tblV
  rcases Nat.eq_zero_or_pos m with rfl | h0
  · obtain rfl : xs = [] := List.eq_nil_of_length_eq_zero HR2.out.len
    clear h h' hr
    go_enter Try.func17, Try.ntmps17
    go_wp2_with fail
    go_ret2
    exact ⟨rfl, (Below.refl w.heap.size w).alloc (Nat.le_refl _) _⟩
  · obtain ⟨i, hi⟩ : ∃ i, v % m = i := ⟨_, rfl⟩
    have him : i < m := by rw [← hi]; exact Nat.mod_lt _ h0
    have hvi : (v : Int) % (m : Int) = (i : Int) := by omega
    obtain ⟨x, hx⟩ : ∃ x, xs[i]? = some x := ⟨_, List.getElem?_eq_getElem (by rw [h'.len]; exact him)⟩
    have hxr := hr x (List.mem_of_getElem? hx)
    obtain ⟨j, rfl⟩ := Int.eq_ofNat_of_zero_le hxr.1
    have hj : j < n := by omega
    obtain ⟨s, hs⟩ : ∃ s, nm[j]? = some s := ⟨_, List.getElem?_eq_getElem (by rw [h.len]; exact hj)⟩
    have hp : pickS nm xs v = s := pickS_eq (by rw [h'.len, hi]; exact hx) hs
    rw [hp, decide_eq_true h0]
    obtain ⟨b, off, rfl, _⟩ := h.addr (by omega)
    obtain ⟨b', off', rfl, _⟩ := h'.addr (by omega)
    have Y0 := Lib.hid (fun o : Obj => ((h.alloc hB o).more (B' := (w.alloc o).heap.size) (by rw [World.size_alloc]; omega)))
    have Y1 := Lib.hid (fun o : Obj => (h'.alloc hB' o).cell1 hx (u := .int .i64 (j : Int)) rfl)
    have HS := Lib.hid hs
    have HH := Lib.hid (fun W => phas_yes (some ⟨b, off, none⟩) (some ⟨b', off', none⟩) n c m c' j hj W)
    have HMZ : Hid (IntKind.u64.wrap (m : Int) = (m : Int)) := Lib.hid (by simp [IntKind.wrap, IntKind.bits, IntKind.signed]; omega)
    have k1 : ((m : Int) == 0) = false := by simp; omega
    have k2 : (i : Int) < (m : Int) := by omega
    have k3 : (j : Int) < (n : Int) := by omega
    have k4 : (0 : Int) ≤ (i : Int) := by omega
    have k5 : (0 : Int) ≤ (j : Int) := by omega
    clear h h' hr hp hx hs hi hxr h0 HR HR2 him hj hB hB'
    go_enter Try.func17, Try.ntmps17
    go_wp2_with fail
    have q0 := Lib.hid (Y0.out (.cells #[.slice (some ⟨b, off, none⟩) n c, .slice (some ⟨b', off', none⟩) m c'] 30))
    have q1 := Y1.out (.cells #[.slice (some ⟨b, off, none⟩) n c, .slice (some ⟨b', off', none⟩) m c'] 30)
    have b1 := Lib.hid ((Below.refl w.heap.size w).alloc (Nat.le_refl _) (.cells #[.slice (some ⟨b, off, none⟩) n c, .slice (some ⟨b', off', none⟩) m c'] 30))
    have G0 := Lib.hid (Blk_10.new w 30 [.slice (some ⟨b, off, none⟩) n c, .slice (some ⟨b', off', none⟩) m c'])
    have g0 := G0.out.cell (i := 0) rfl
    have g1 := G0.out.cell (i := 1) rfl
    have g2 := HMZ.out
    generalize w.alloc (.cells #[.slice (some ⟨b, off, none⟩) n c, .slice (some ⟨b', off', none⟩) m c'] 30) = Y at q0 q1 b1 g0 g1 G0 ⊢
    clear Y0 Y1
    go_quiet (fail)
    have HLT := Lib.hid (Blk_10.lt G0.out)
    go_wp2_with ((with_reducible refine (HH.out _).mono ?_); rintro e w2 ⟨rfl, hb2⟩; have HB2 := Lib.hid hb2; clear hb2; have q2 := (Blk_10.below G0.out HLT.out ⟨HB2.out.os, HB2.out.tape, HB2.out.output, HB2.out.size, HB2.out.block⟩).cell (i := 0) rfl; have q3 := ((q0.out).below ⟨HB2.out.os, HB2.out.tape, HB2.out.output, HB2.out.size, HB2.out.block⟩).cell1 HS.out (u := strV s) rfl)
    go_ret2
    exact ⟨rfl, b1.out.trans (Below.mono ⟨HB2.out.os, HB2.out.tape, HB2.out.output, HB2.out.size, HB2.out.block⟩ b1.out.size)⟩
end Go.Proofs.Ytmngagcekhlppaa
namespace Go.Proofs.Ytmngagcekhlppaa
set_option maxRecDepth 100000
open Go.RowKit Go.Lib

theorem cntZ_zero (n : Nat) : cntZ n [] = List.replicate n 0 := by
  apply List.ext_getElem?
  intro j
  by_cases h : j < n
  · rw [cntZ_get n [] h, List.getElem?_replicate, if_pos h]
    rfl
  · rw [List.getElem?_eq_none (by rw [cntZ_len]; omega), List.getElem?_eq_none (by rw [List.length_replicate]; omega)]
theorem cntZ_succ {n : Nat} {xs : List Int} {k j : Nat} (hx : xs[k]? = some (j : Int)) : (cntZ n (xs.take k)).set j (((cntN (xs.take k) j : Nat) : Int) + 1) = cntZ n (xs.take (k + 1)) := by
  apply List.ext_getElem?
  intro i
  by_cases h : i < n
  · rw [List.getElem?_set, cntZ_len, cntZ_get n _ h, cntZ_get n _ h, List.take_add_one, hx]
    unfold cntN
    rw [List.countP_append]
    by_cases hj : j = i
    · subst hj
      rw [if_pos rfl, if_pos h]
      simp
    · rw [if_neg hj]
      have : ¬ (j : Int) = (i : Int) := by omega
      simp [this]
  · rw [List.getElem?_eq_none (by rw [List.length_set, cntZ_len]; omega), List.getElem?_eq_none (by rw [cntZ_len]; omega)]
theorem cntN_le (xs : List Int) (k j : Nat) : cntN (xs.take k) j ≤ k := by
  unfold cntN
  exact Nat.le_trans List.countP_le_length (by rw [List.length_take]; exact Nat.min_le_left _ _)
set_option maxHeartbeats 8000000 in
theorem pcount_any {B' n m : Nat} {A A' : Option Addr} (c c' : Nat) {xs : List Int} (hn : n ≤ 1024) (hm : m ≤ 65537) (w : World) (hB' : B' ≤ w.heap.size) (h' : RdG eZ w B' A' m xs) (hr : ∀ x, x ∈ xs → 0 ≤ x ∧ x < n) :
    Calls Try.prog 22 #[tblV (.slice A n c) (.slice A' m c')] w fun e W' => ∃ v, e = .returned v ∧ OwnG eZ W' w.heap.size v (cntZ n xs) ∧ Below w.heap.size w W' := by
  have HR2 := Lib.hid (h'.more hB')
  unfold tblV
  obtain ⟨Y, hY⟩ : ∃ Y, w.alloc (.cells #[.slice A n c, .slice A' m c'] 30) = Y := ⟨_, rfl⟩
  have HY := Lib.hid hY
  have HB0 := Lib.hid (show Below w.heap.size w Y by rw [← hY]; exact (Below.refl w.heap.size w).alloc (Nat.le_refl _) _)
  have HG0 := Lib.hid (show Blk Y 30 w.heap.size [.slice A n c, .slice A' m c'] by rw [← hY]; exact Blk_10.new w _ [.slice A n c, .slice A' m c'])
  have HSZ := Lib.hid (show Y.heap.size = w.heap.size + 1 by rw [← hY]; simp)
  obtain ⟨w2, hrun, hown2, hg2⟩ := run_makeG eZ 0 rfl n (by omega) w.heap.size Y HB0.out.size
  obtain ⟨g, hg⟩ : ∃ g, Y.heap.size = g := ⟨_, rfl⟩
  have hrun2 : (Instr.makeSlice 28 (.int .i64 (n : Int)) (.int .i64 (n : Int))).run Try.prog Y = .ok (.slice (some ⟨Y.heap.size, 0, none⟩) n n) w2 := hrun
  have HGB := Lib.hid (show w.heap.size + 1 ≤ g by rw [← hg, HSZ.out]; exact Nat.le_refl _)
  rw [hg] at hown2 hrun2
  have HO2 := Lib.hid hown2
  have HB2 := Lib.hid (HB0.out.grown hg2 HB0.out.size (fun k hk => by cases hk))
  have HG2 := Lib.hid (Blk.gb HG0.out hg2 (fun e => by cases e))
  have HRA := Lib.hid hr
  have HM := Lib.hid hm
  clear hrun hown2 hg2 hg h' hr hY
  go_enter Try.func22, Try.ntmps22
  go_upto_region 1 with (fail)
  rw [HY.out]
  have g0 := HG0.out.cell (i := 0) rfl
  have g1 := HG2.out.cell (i := 1) rfl
  go_wp2_with fail
  clear hrun2 g0 g1 HG0 HB0 HY HSZ
  go_loopw [13] (fun i wr => ∃ k : Nat, k ≤ m ∧ i = .int .i64 (k : Int) ∧ OwnG eZ wr w.heap.size (.slice (some ⟨g, 0, none⟩) n n) (cntZ n (xs.take k)) ∧ Below w.heap.size w wr ∧ Blk wr 30 w.heap.size [.slice A n c, .slice A' m c'])
    (fun i _ => m - (intOf i).toNat)
  case atStart => exact ⟨0, Nat.zero_le _, rfl, by rw [List.take_zero, cntZ_zero]; exact HO2.out, HB2.out, HG2.out⟩
  case round =>
    clear HO2 HB2 HG2
    obtain ⟨k, hk, rfl, hown, hbel, hblk⟩ := hrel
    have HO := Lib.hid hown
    have HBE := Lib.hid hbel
    have HBK := Lib.hid hblk
    clear hown hbel hblk
    by_cases hlt : k < m
    · have h1 : (k : Int) < (m : Int) := by omega
      have h0 : (0 : Int) ≤ (k : Int) := by omega
      obtain ⟨b', off', rfl, _⟩ := HR2.out.addr (by omega)
      obtain ⟨x, hx⟩ : ∃ x, xs[k]? = some x := ⟨_, List.getElem?_eq_getElem (by rw [HR2.out.len]; exact hlt)⟩
      have hxr := HRA.out x (List.mem_of_getElem? hx)
      obtain ⟨j, rfl⟩ := Int.eq_ofNat_of_zero_le hxr.1
      have hj : j < n := by omega
      have q1 := (HR2.out.below HBE.out).cell1 hx (u := .int .i64 (j : Int)) rfl
      have HH := Lib.hid (fun W => phas_yes A (some ⟨b', off', none⟩) n c m c' j hj W)
      have HGT := Lib.hid (cntZ_get n (xs.take k) hj)
      have HST := Lib.hid (cntZ_succ (n := n) hx)
      have hle := cntN_le xs k j
      have hk2 : k ≤ 65537 := by have := HM.out; omega
      obtain ⟨z, hz⟩ : ∃ z, cntN (xs.take k) j = z := ⟨_, rfl⟩
      rw [hz] at HGT HST hle
      have g0 := HBK.out.cell (i := 0) rfl
      have g1 := HBK.out.cell (i := 1) rfl
      have k3 : (j : Int) < (n : Int) := by omega
      have k5 : (0 : Int) ≤ (j : Int) := by omega
      have HJQ : Hid (j = j * eZ.k + 0) := Lib.hid (by show j = j * 1 + 0; omega)
      have HLT := Lib.hid hlt
      clear hx hxr hz hlt hj hk
      go_wp2_with (first
        | ((with_reducible refine (HH.out _).mono ?_); rintro e w6 ⟨rfl, hb6⟩; have HB6 := Lib.hid hb6; clear hb6; have HO6 := Lib.hid (HO.out.below HB6.out); have HE6 := Lib.hid (HBE.out.trans (HB6.out.mono HBE.out.size)); have HK6 := Lib.hid (Blk_10.below HBK.out (Blk_10.lt HBK.out) HB6.out); have q6 := HO6.out.cell HGT.out 0 rfl; rw [← HJQ.out] at q6)
        | ((with_reducible show wpList _ _ _ (⟨none, .store 3 (.tmp 25) _, _, _, _, _⟩ :: _) _ _); refine wpList_storeG eZ rfl 3 (.tmp 25) _ rfl g j 0 j HJQ.out (by rfl) (.int .i64 ((z : Int) + 1)) (by rfl) _ n n w.heap.size HO6.out ((z : Nat) : Int) ((z : Int) + 1) HGT.out (by decide) rfl size1_int rfl rfl ?_; intro w7 ho7 hg7; rw [HST.out] at ho7; have HO7 := Lib.hid ho7; have HB7 := Lib.hid (below_gb HE6.out hg7 (Nat.le_of_succ_le HGB.out) HE6.out.size); have HK7 := Lib.hid (Blk.gb HK6.out hg7 (fun e => by have h9 := HGB.out; cases e; omega)); clear ho7 hg7))
      refine ⟨⟨k + 1, HLT.out, by have := HLT.out; go_num, HO7.out, HB7.out, HK7.out⟩, ?_⟩
      have := HLT.out
      simp [intOf]
      omega
    · obtain rfl : k = m := by omega
      have h1 : ¬ (k : Int) < (k : Int) := by omega
      have HXL := Lib.hid HR2.out.len
      clear hlt hk
      go_wp2_with fail
      go_ret
      refine ⟨_, rfl, ?_, HBE.out⟩
      have h9 := HO.out
      rw [← HXL.out, List.take_length] at h9
      exact h9
end Go.Proofs.Ytmngagcekhlppaa
namespace Go.Proofs.Ytmngagcekhlppaa
set_option maxRecDepth 100000
open Go.RowKit Go.Lib

/-- A turn: quanta, credit, offset, skip, next. -/
structure Trn where
  q : Nat
  cr : Nat
  off : Nat
  sk : Nat
  nx : Nat
def eT : Enc Trn where
  S := 53
  T := 55
  k := 5
  bytes := 40
  zero := .agg #[.int .i64 0, .int .i64 0, .int .i64 0, .int .i64 0, .int .i64 0]
  f x := [.int .i64 x.q, .int .i64 x.cr, .int .i64 x.off, .int .i64 x.sk, .int .i64 x.nx]
  len _ := rfl
  one x v hv := by
    simp only [List.mem_cons, List.not_mem_nil, or_false] at hv
    rcases hv with rfl | rfl | rfl | rfl | rfl <;> rfl
  und := Try.underlying53
  info := by kernel_rfl
  pos := by decide
  zlen := rfl
  small := by decide
section
variable {w : World} {base n c g : Nat} {ts : List Trn}
theorem OwnG.tq (h : OwnG eT w base (.slice (some ⟨g, 0, none⟩) n c) ts) {j : Nat} {x : Trn} (hx : ts[j]? = some x) : w.cell? ⟨g, j * 5, none⟩ = some (.int .i64 (x.q : Int)) := h.cell hx 0 (u := .int .i64 (x.q : Int)) rfl
theorem OwnG.tcr (h : OwnG eT w base (.slice (some ⟨g, 0, none⟩) n c) ts) {j : Nat} {x : Trn} (hx : ts[j]? = some x) : w.cell? ⟨g, j * 5 + 1, none⟩ = some (.int .i64 (x.cr : Int)) := h.cell hx 1 (u := .int .i64 (x.cr : Int)) rfl
theorem OwnG.toff (h : OwnG eT w base (.slice (some ⟨g, 0, none⟩) n c) ts) {j : Nat} {x : Trn} (hx : ts[j]? = some x) : w.cell? ⟨g, j * 5 + 2, none⟩ = some (.int .i64 (x.off : Int)) := h.cell hx 2 (u := .int .i64 (x.off : Int)) rfl
theorem OwnG.tsk (h : OwnG eT w base (.slice (some ⟨g, 0, none⟩) n c) ts) {j : Nat} {x : Trn} (hx : ts[j]? = some x) : w.cell? ⟨g, j * 5 + 3, none⟩ = some (.int .i64 (x.sk : Int)) := h.cell hx 3 (u := .int .i64 (x.sk : Int)) rfl
theorem OwnG.tnx (h : OwnG eT w base (.slice (some ⟨g, 0, none⟩) n c) ts) {j : Nat} {x : Trn} (hx : ts[j]? = some x) : w.cell? ⟨g, j * 5 + 4, none⟩ = some (.int .i64 (x.nx : Int)) := h.cell hx 4 (u := .int .i64 (x.nx : Int)) rfl
end
def bestT (ts : List Trn) : Nat := ts.foldl (fun n x => if n < x.q then x.q else n) 0
theorem bestT_succ {ts : List Trn} {k : Nat} {x : Trn} (hx : ts[k]? = some x) : bestT (ts.take (k + 1)) = if bestT (ts.take k) < x.q then x.q else bestT (ts.take k) := by
  unfold bestT
  rw [List.take_add_one, hx, List.foldl_append]
  rfl
set_option maxHeartbeats 4000000 in
theorem pgreatest_any {base n c g : Nat} {ts : List Trn} (hn : n ≤ 1024) (w : World) (h : OwnG eT w base (.slice (some ⟨g, 0, none⟩) n c) ts) :
    Calls Try.prog 41 #[.slice (some ⟨g, 0, none⟩) n c] w fun e w' => e = .returned (.int .i64 (bestT ts : Nat)) ∧ Below w.heap.size w w' := by
  have HO := Lib.hid h
  have HL := Lib.hid h.lenEq
  clear h
  go_enter Try.func41, Try.ntmps41
  go_wp2_with fail
  go_loopw [3, 7] (fun b i wr => ∃ k : Nat, k ≤ n ∧ i = .int .i64 (k : Int) ∧ b = .int .i64 ((bestT (ts.take k) : Nat) : Int) ∧ Below w.heap.size w wr ∧ wr.heap = w.heap)
    (fun _ i _ => n - (intOf i).toNat)
  case atStart => exact ⟨0, Nat.zero_le _, rfl, rfl, Below.refl _ _, rfl⟩
  case round =>
    obtain ⟨k, hk, rfl, rfl, hbel, hheap⟩ := hrel
    have ec : ∀ p : Addr, wr.cell? p = w.cell? p := fun p => by unfold World.cell?; rw [hheap]
    have HB := Lib.hid hbel
    have HH := Lib.hid hheap
    clear hbel hheap
    by_cases hlt : k < n
    · have h1 : (k : Int) < (n : Int) := by omega
      have h0 : (0 : Int) ≤ (k : Int) := by omega
      obtain ⟨x, hx⟩ : ∃ x, ts[k]? = some x := ⟨_, List.getElem?_eq_getElem (by rw [← HL.out]; exact hlt)⟩
      have q0 := (ec _).trans (HO.out.tq hx)
      have HS := Lib.hid (bestT_succ hx)
      obtain ⟨q, hq⟩ : ∃ q, x.q = q := ⟨_, rfl⟩
      rw [hq] at q0 HS
      obtain ⟨b, hb⟩ : ∃ b, bestT (ts.take k) = b := ⟨_, rfl⟩
      rw [hb] at HS ⊢
      have HLT := Lib.hid hlt
      clear hx hq hb ec hlt hk
      by_cases hbq : b < q
      · have h2 : (b : Int) < (q : Int) := by omega
        rw [if_pos hbq] at HS
        clear hbq
        go_wp2_with fail
        go_roundw
        case rel => exact ⟨k + 1, HLT.out, by have := HLT.out; go_num, by rw [HS.out], ⟨HB.out.os, HB.out.tape, HB.out.output, HB.out.size, HB.out.block⟩, HH.out⟩
        case measure =>
          have := HLT.out
          simp [intOf]
          omega
      · have h2 : ¬ (b : Int) < (q : Int) := by omega
        rw [if_neg hbq] at HS
        clear hbq
        go_wp2_with fail
        go_roundw
        case rel => exact ⟨k + 1, HLT.out, by have := HLT.out; go_num, by rw [HS.out], ⟨HB.out.os, HB.out.tape, HB.out.output, HB.out.size, HB.out.block⟩, HH.out⟩
        case measure =>
          have := HLT.out
          simp [intOf]
          omega
    · obtain rfl : k = n := by omega
      have h1 : ¬ (k : Int) < (k : Int) := by omega
      have he : ts.take k = ts := by rw [HL.out]; exact List.take_length
      rw [he]
      clear hlt hk he ec
      go_wp2_with fail
      go_ret
      exact ⟨rfl, HB.out⟩
end Go.Proofs.Ytmngagcekhlppaa
