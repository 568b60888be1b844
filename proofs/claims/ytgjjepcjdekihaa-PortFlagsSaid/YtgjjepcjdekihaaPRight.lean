/-
  The contract of port.Right.
-/
import Derived.Test.YtgjjepcjdekihaaPRead
namespace Go.Proofs.Ytgjjepcjdekihaa
open Go.RowKit Go.Lib

section
variable {W : World} {A1 A2 : Option Addr} {n1 n2 c1 c2 : Nat} {x y : List UInt8}
/-- inet.Sum and inet.Right of two texts, their slices just laid in a row. -/
theorem sum_two (h1 : Rd W W.heap.size A1 n1 x) (k1 : n1 ≤ c1) (m1 : c1 ≤ maxLen) (h2 : Rd W W.heap.size A2 n2 y) (k2 : n2 ≤ c2) (m2 : c2 ≤ maxLen) (hlen : n1 + n2 ≤ 1000000) (c : Nat) (hc : ckOf (x ++ y) = c) :
    Calls Try.prog 30 #[.slice (some ⟨W.heap.size, 0, none⟩) 2 2] (W.alloc (.cells #[.slice A1 n1 c1, .slice A2 n2 c2] 22)) fun e W' => e = .returned (.int .u16 (c : Int)) ∧ Below W.heap.size W W' := by
  have hf : ([x, y] : List (List UInt8)).flatten = x ++ y := by simp
  refine (sum_row W [.slice A1 n1 c1, .slice A2 n2 c2] [x, y] ((CellsAt.one h2 k2 m2).cons h1 k1 m1) 2 2 rfl (by omega) (by rw [hf, List.length_append, h1.len, h2.len]; exact hlen) c (by rw [hf]; exact hc) 0).mono ?_
  rintro e W' ⟨h, rfl⟩
  exact ⟨h, (Below.refl _ W).alloc (Nat.le_refl _) _⟩
theorem right_two (h1 : Rd W W.heap.size A1 n1 x) (k1 : n1 ≤ c1) (m1 : c1 ≤ maxLen) (h2 : Rd W W.heap.size A2 n2 y) (k2 : n2 ≤ c2) (m2 : c2 ≤ maxLen) (hlen : n1 + n2 ≤ 1000000) (r : Bool) (hr : decide (ckOf (x ++ y) = 0) = r) :
    Calls Try.prog 25 #[.slice (some ⟨W.heap.size, 0, none⟩) 2 2] (W.alloc (.cells #[.slice A1 n1 c1, .slice A2 n2 c2] 22)) fun e W' => e = .returned (.bool r) ∧ Below W.heap.size W W' := by
  have hf : ([x, y] : List (List UInt8)).flatten = x ++ y := by simp
  subst hr
  by_cases h0 : ckOf (x ++ y) = 0
  · rw [decide_eq_true h0]
    refine (right_row W [.slice A1 n1 c1, .slice A2 n2 c2] [x, y] ((CellsAt.one h2 k2 m2).cons h1 k1 m1) 2 2 rfl (by omega) (by rw [hf, List.length_append, h1.len, h2.len]; exact hlen) (by rw [hf]; exact h0) 0).mono ?_
    rintro e W' ⟨h, rfl⟩
    exact ⟨h, (Below.refl _ W).alloc (Nat.le_refl _) _⟩
  · rw [decide_eq_false h0]
    refine (wrong_row W [.slice A1 n1 c1, .slice A2 n2 c2] [x, y] ((CellsAt.one h2 k2 m2).cons h1 k1 m1) 2 2 rfl (by omega) (by rw [hf, List.length_append, h1.len, h2.len]; exact hlen) (by rw [hf]; exact h0) 0).mono ?_
    rintro e W' ⟨h, rfl⟩
    exact ⟨h, (Below.refl _ W).alloc (Nat.le_refl _) _⟩
end
/-- Two addresses, laid in their boxes. -/
theorem boxes (w : World) (six : Bool) (a b : List UInt8) :
    ((w.alloc (.cells (addrC six a) 35)).alloc (.cells (addrC six b) 35)).rangeAt w.heap.size 0 (addrL six a) ∧ ((w.alloc (.cells (addrC six a) 35)).alloc (.cells (addrC six b) 35)).rangeAt (w.heap.size + 1) 0 (addrL six b) ∧
    Below w.heap.size w ((w.alloc (.cells (addrC six a) 35)).alloc (.cells (addrC six b) 35)) ∧ w.heap.size + 1 < ((w.alloc (.cells (addrC six a) 35)).alloc (.cells (addrC six b) 35)).heap.size := by
  have k0 := addr_range w six a
  have k1 := addr_range (w.alloc (.cells (addrC six a) 35)) six b
  simp only [World.size_alloc] at k1
  refine ⟨range_keep k0 (Nat.lt_succ_self _) ?_, k1, ((Below.refl w.heap.size w).alloc (Nat.le_refl _) _).alloc (by simp) _, by simp⟩
  exact (Below.refl (w.heap.size + 1) (w.alloc (.cells (addrC six a) 35))).alloc (by simp) _
theorem addr_six {w : World} {g : Nat} {s : Bool} {bs : List UInt8} (h : w.rangeAt g 0 (addrL s bs)) : w.cell? ⟨g, 0, none⟩ = some (.bool s) := h 0 (.bool s) rfl

set_option maxRecDepth 100000 in
set_option maxHeartbeats 2000000 in
theorem right_T (six : Bool) (a b : List UInt8) (ha : a.length = 16) (hb : b.length = 16) {A : Option Addr} {len cap : Nat} {xs : List UInt8} (hlen : len ≤ 60000) (hcap : len ≤ cap) (hcm : cap ≤ maxLen) (w : World) (hI : Rd w w.heap.size A len xs) (h0 : faultB false xs = 0) :
    Calls Try.prog 15 #[.agg (addrC six a), .agg (addrC six b), .int .i64 6, .slice A len cap] w fun e w' => e = .returned (.bool (rightS six a b false xs)) ∧ Below w.heap.size w w' := by
  have HL := Lib.hid hI.len
  obtain ⟨t1, t2, t3⟩ := tot_ok h0
  rw [hI.len] at t3
  obtain ⟨k0, k1, hb0, hz⟩ := boxes w six a b
  obtain ⟨Z, hZ⟩ : ∃ Z : World, (w.alloc (.cells (addrC six a) 35)).alloc (.cells (addrC six b) 35) = Z := ⟨_, rfl⟩
  rw [hZ] at k0 k1 hb0 hz
  have HR := Lib.hid (read_any (A := A) (cap := cap) (xs := xs) 6 (by omega) hcap hcm Z ((hI.below hb0).more hb0.size))
  have hf0 : faultP 6 xs = 0 := h0
  have hpt : (rdP 6 xs).t = totN false xs := rdP_tot (u := false) h0
  rw [hf0] at HR
  have hP := pseudo_even six a b ha hb (prN false) (totN false xs)
  have HT := Lib.hid (fun W (hB : Below w.heap.size w W) => (hI.below hB).take t3)
  have hck : decide (ckOf (pseudoOf six a b (prN false) (totN false xs) ++ xs.take (totN false xs)) = 0) = rightS six a b false xs := by unfold rightS; rw [if_neg (fun h => by cases h.1)]; rfl
  have HCK := Lib.hid hck
  clear hck
  generalize rightS six a b false xs = r at *
  obtain ⟨p, hp⟩ : ∃ p, rdP 6 xs = p := ⟨_, rfl⟩
  rw [hp] at HR hpt
  have HPT := Lib.hid hpt
  generalize totN false xs = T at *
  have HPS := Lib.hid (fun W => pseudo_any six a b ha hb (prN false) T (prN_lt _) (by omega) _ rfl W)
  rw [show ((prN false : Nat) : Int) = 6 from rfl] at HPS
  obtain ⟨X, hX⟩ : ∃ X, pseudoOf six a b (prN false) T = X := ⟨_, rfl⟩
  rw [hX] at hP HPS HCK
  obtain ⟨n, hn⟩ : ∃ n, X.length = n := ⟨_, rfl⟩
  rw [hn] at hP
  have HN := Lib.hid hn
  have hn0 : 0 < n := hP.2.1
  have hn40 : n ≤ 40 := hP.2.2
  have HCUT := Lib.hid (fun W => run_upto8 A len cap T (T : Int) rfl (by omega) W)
  have HZ := Lib.hid hZ
  have K0 := Lib.hid k0
  have K1 := Lib.hid k1
  have HB0 := Lib.hid hb0
  have HG := Lib.hid hz
  have HI := Lib.hid hI
  rw [← addrC_eq, ← addrC_eq] at HPS
  obtain ⟨C0, hC0⟩ : ∃ C, addrC six a = C := ⟨_, rfl⟩
  obtain ⟨C1, hC1⟩ : ∃ C, addrC six b = C := ⟨_, rfl⟩
  rw [hC0, hC1] at HZ HPS
  rw [hC0, hC1]
  have HC0 := Lib.hid hC0
  have HC1 := Lib.hid hC1
  clear hX hn hP hZ k0 k1 hb0 hz hp h0 hf0 hpt hI hC0 hC1
  go_enter Try.func15, Try.ntmps15
  go_wp2_with fail
  rw [HZ.out]
  refine HR.out.mono ?_
  rintro e w1 ⟨rfl, hb1⟩
  have HB1 := Lib.hid (HB0.out.trans (hb1.mono HB0.out.size))
  have g0 : w.heap.size < Z.heap.size := Nat.lt_of_succ_lt HG.out
  have K0b := Lib.hid (range_keep K0.out g0 hb1)
  have K1b := Lib.hid (range_keep K1.out HG.out hb1)
  have z1 := hb1.size
  clear hb1
  go_wp2_with ((with_reducible show wpList _ _ _ _ _ _); refine wpList_storeNew rfl _ _ rfl (by rfl) p (by rfl) ?_; intro w2 hp2 hb2 hz2; clear hz2; have HB2 := Lib.hid (HB1.out.trans (hb2.mono HB1.out.size)); have HP2 := Lib.hid hp2; have K0c := Lib.hid (range_keep K0b.out (Nat.lt_of_lt_of_le g0 z1) hb2); have K1c := Lib.hid (range_keep K1b.out (Nat.lt_of_lt_of_le HG.out z1) hb2); have z2 := hb2.size; have HG2 := Lib.hid hp2.lt; clear hp2 hb2)
  have HC4 := Lib.hid (fun W (hW : Below w2.heap.size w2 W) => (HP2.out.below HG2.out hW).cell (i := 4) (v := .int .i64 (T : Int)) (by rw [← HPT.out]; rfl))
  have gg := HG.out
  refine wp_region_held_drew (S := fun W => Below w2.heap.size w2 W) (by kernel_rfl) ((Below.refl _ _).drew) (fun hHeld => ?_)
  refine wpAnyH_take (i := 0) (oi := ⟨some 34, _, _, _, _, _⟩) (v := .agg C0) rfl (by kernel_rfl) (by kernel_rfl) (by kernel_rfl) (fun _ _ _ h => h) (by rw [← HC0.out]; exact yields_loadA (by rfl) _ rfl w.heap.size (by rfl) six a ha (fun W hW => range_keep K0c.out (by omega) hW)) hHeld ?_
  simp only [Act.put, List.setIfInBounds_toArray, List.set_cons_zero, List.set_cons_succ]
  refine wpAnyH_take (i := 1) (oi := ⟨some 35, _, _, _, _, _⟩) (v := .agg C1) rfl (by kernel_rfl) (by kernel_rfl) (by kernel_rfl) (fun _ _ _ h => h) (by rw [← HC1.out]; exact yields_loadA (by rfl) _ rfl (w.heap.size + 1) (by rfl) six b hb (fun W hW => range_keep K1c.out (by omega) hW)) hHeld ?_
  simp only [Act.put, List.setIfInBounds_toArray, List.set_cons_zero, List.set_cons_succ]
  refine wpAnyH_take (i := 2) (oi := ⟨some 36, _, _, _, _, _⟩) (v := .int .i64 6) rfl (by kernel_rfl) (by kernel_rfl) (by kernel_rfl) (fun _ _ _ h => h) (Or.inl ⟨by rfl, fun _ _ => by go_simp⟩) hHeld ?_
  simp only [Act.put, List.setIfInBounds_toArray, List.set_cons_zero, List.set_cons_succ]
  refine wpAnyH_take (i := 3) (oi := ⟨some 37, _, _, _, _, _⟩) (v := .pointer (some ⟨w1.heap.size, 4, none⟩)) rfl (by kernel_rfl) (by kernel_rfl) (by kernel_rfl) (fun _ _ _ h => h) (Or.inl ⟨by rfl, fun _ _ => by go_simp⟩) hHeld ?_
  simp only [Act.put, List.setIfInBounds_toArray, List.set_cons_zero, List.set_cons_succ]
  refine wpAnyH_take (i := 4) (oi := ⟨some 38, _, _, _, _, _⟩) (v := .int .i64 (T : Int)) rfl (by kernel_rfl) (by kernel_rfl) (by kernel_rfl) (fun _ _ _ h => h) (Or.inl ⟨by rfl, fun W hW => by have hc := HC4.out W hW; go_simp⟩) hHeld ?_
  simp only [Act.put, List.setIfInBounds_toArray, List.set_cons_zero, List.set_cons_succ]
  refine wpAnyH_take (i := 6) (oi := ⟨some 40, _, _, _, _, _⟩) (v := .slice A len cap) rfl (by kernel_rfl) (by kernel_rfl) (by kernel_rfl) (fun _ _ _ h => h) (Or.inl ⟨by rfl, fun _ _ => by go_simp⟩) hHeld ?_
  simp only [Act.put, List.setIfInBounds_toArray, List.set_cons_zero, List.set_cons_succ]
  refine wpAnyH_take (i := 7) (oi := ⟨some 41, _, _, _, _, _⟩) (v := .pointer (some ⟨w1.heap.size, 4, none⟩)) rfl (by kernel_rfl) (by kernel_rfl) (by kernel_rfl) (fun _ _ _ h => h) (Or.inl ⟨by rfl, fun _ _ => by go_simp⟩) hHeld ?_
  simp only [Act.put, List.setIfInBounds_toArray, List.set_cons_zero, List.set_cons_succ]
  refine wpAnyH_take (i := 8) (oi := ⟨some 42, _, _, _, _, _⟩) (v := .int .i64 (T : Int)) rfl (by kernel_rfl) (by kernel_rfl) (by kernel_rfl) (fun _ _ _ h => h) (Or.inl ⟨by rfl, fun W hW => by have hc := HC4.out W hW; go_simp⟩) hHeld ?_
  simp only [Act.put, List.setIfInBounds_toArray, List.set_cons_zero, List.set_cons_succ]
  refine wpAnyH_take (i := 9) (oi := ⟨some 43, _, _, _, _, _⟩) (v := .slice A T cap) rfl (by kernel_rfl) (by kernel_rfl) (by kernel_rfl) (fun _ _ _ h => h) (Or.inl ⟨by rfl, fun W _ => by have hs := HCUT.out W; go_simp⟩) hHeld ?_
  simp only [Act.put, List.setIfInBounds_toArray, List.set_cons_zero, List.set_cons_succ]
  refine wpAnyH_ready (rs := [5]) (by kernel_rfl) (by simp) (AllReadyH.cons (o := ⟨some 39, _, _, _, _, _⟩) rfl (fun K hK => ?_) AllReadyH.nil)
  go_simp
  refine (HPS.out _).mono ?_
  rintro e w5 ⟨v5, rfl, ho5, hb5⟩
  obtain ⟨g5, c5, rfl, hnc, hcm5, hg5, hgl5, hrd5⟩ := ho5.formG HN.out hn0
  have HB5 := Lib.hid (hHeld.trans (hb5.mono hHeld.size))
  have HRD5 := Lib.hid hrd5
  refine hK.out _ _ (HB5.out) (fun hHeld => ?_)
  clear hK K ho5 hb5 hrd5
  refine wpAnyH_ready (rs := [10]) (by kernel_rfl) (by simp) (AllReadyH.cons (o := ⟨some 44, _, _, _, _, _⟩) rfl (fun K hK => ?_) AllReadyH.nil)
  go_simp
  refine hK.out _ _ (hHeld.alloc hHeld.size _) (fun hHeld => ?_)
  clear hK K 
  refine wpAnyH_ready (rs := [11]) (by kernel_rfl) (by simp) (AllReadyH.cons (o := ⟨some 45, _, _, _, _, _⟩) rfl (fun K hK => ?_) AllReadyH.nil)
  go_simp
  refine (right_two (HRD5.out) hnc hcm5 ((HT.out _ (HB2.out.trans (HB5.out.mono HB2.out.size))).more (Nat.le_trans HB2.out.size HB5.out.size)) (by omega) hcm (by omega) r HCK.out).mono ?_
  rintro e w6 ⟨rfl, hb6⟩
  have HB6 := Lib.hid (HB5.out.trans (hb6.mono HB5.out.size))
  refine hK.out _ _ (HB6.out) (fun hHeld => ?_)
  clear hK K 
  refine wpAnyH_take (i := 12) (oi := ⟨some 8, _, _, _, _, _⟩) (v := .bool r) rfl (by kernel_rfl) (by kernel_rfl) (by kernel_rfl) (fun _ _ _ h => h) (Or.inl ⟨by rfl, fun _ _ => by go_simp⟩) hHeld ?_
  simp only [Act.put, List.setIfInBounds_toArray, List.set_cons_zero, List.set_cons_succ]
  refine wpAnyH_done (by kernel_rfl) ?_ _
  go_wp2_with fail
  go_ret
  exact ⟨rfl, HB2.out.trans (hHeld.mono HB2.out.size)⟩

set_option maxRecDepth 100000 in
set_option maxHeartbeats 2000000 in
theorem right_U0 (six : Bool) (a b : List UInt8) (ha : a.length = 16) (hb : b.length = 16) {A : Option Addr} {len cap : Nat} {xs : List UInt8} (hlen : len ≤ 60000) (hcap : len ≤ cap) (hcm : cap ≤ maxLen) (w : World) (hI : Rd w w.heap.size A len xs) (h0 : faultB true xs = 0) (hz6 : wat xs 6 = 0) :
    Calls Try.prog 15 #[.agg (addrC six a), .agg (addrC six b), .int .i64 17, .slice A len cap] w fun e w' => e = .returned (.bool (rightS six a b true xs)) ∧ Below w.heap.size w w' := by
  have HL := Lib.hid hI.len
  obtain ⟨t1, t2, t3⟩ := tot_ok h0
  rw [hI.len] at t3
  obtain ⟨k0, k1, hb0, hz⟩ := boxes w six a b
  obtain ⟨Z, hZ⟩ : ∃ Z : World, (w.alloc (.cells (addrC six a) 35)).alloc (.cells (addrC six b) 35) = Z := ⟨_, rfl⟩
  rw [hZ] at k0 k1 hb0 hz
  have HR := Lib.hid (read_any (A := A) (cap := cap) (xs := xs) 17 (by omega) hcap hcm Z ((hI.below hb0).more hb0.size))
  have hf0 : faultP 17 xs = 0 := h0
  have hpt : (rdP 17 xs).t = totN true xs := rdP_tot (u := true) h0
  rw [hf0] at HR
  have hP := pseudo_even six a b ha hb (prN true) (totN true xs)
  have HT := Lib.hid (fun W (hB : Below w.heap.size w W) => (hI.below hB).take t3)
  have hck : rightS six a b true xs = !six := by unfold rightS; rw [if_pos ⟨rfl, hz6⟩]
  rw [hck]
  have HCK := Lib.hid (show pseudoOf six a b (prN true) (totN true xs) = pseudoOf six a b (prN true) (totN true xs) from rfl)
  clear hck
  have N6 := Lib.hid (fun W (hB : Below w.heap.size w W) => num_any (p := 6) (cap := cap) 6 rfl (by omega) hcap hcm (by omega) ((hI.below hB).more hB.size))
  generalize wat xs 6 = q at *
  obtain ⟨p, hp⟩ : ∃ p, rdP 17 xs = p := ⟨_, rfl⟩
  rw [hp] at HR hpt
  have HPT := Lib.hid hpt
  generalize totN true xs = T at *
  have HPS := Lib.hid (fun W => pseudo_any six a b ha hb (prN true) T (prN_lt _) (by omega) _ rfl W)
  rw [show ((prN true : Nat) : Int) = 17 from rfl] at HPS
  obtain ⟨X, hX⟩ : ∃ X, pseudoOf six a b (prN true) T = X := ⟨_, rfl⟩
  rw [hX] at hP HPS HCK
  obtain ⟨n, hn⟩ : ∃ n, X.length = n := ⟨_, rfl⟩
  rw [hn] at hP
  have HN := Lib.hid hn
  have hn0 : 0 < n := hP.2.1
  have hn40 : n ≤ 40 := hP.2.2
  have HCUT := Lib.hid (fun W => run_upto8 A len cap T (T : Int) rfl (by omega) W)
  have HZ := Lib.hid hZ
  have K0 := Lib.hid k0
  have K1 := Lib.hid k1
  have HB0 := Lib.hid hb0
  have HG := Lib.hid hz
  have HI := Lib.hid hI
  rw [← addrC_eq, ← addrC_eq] at HPS
  obtain ⟨C0, hC0⟩ : ∃ C, addrC six a = C := ⟨_, rfl⟩
  obtain ⟨C1, hC1⟩ : ∃ C, addrC six b = C := ⟨_, rfl⟩
  rw [hC0, hC1] at HZ HPS
  rw [hC0, hC1]
  have HC0 := Lib.hid hC0
  have HC1 := Lib.hid hC1
  clear hX hn hP hZ k0 k1 hb0 hz hp h0 hf0 hpt hI hC0 hC1
  subst hz6
  go_enter Try.func15, Try.ntmps15
  go_wp2_with fail
  rw [HZ.out]
  refine HR.out.mono ?_
  rintro e w1 ⟨rfl, hb1⟩
  have HB1 := Lib.hid (HB0.out.trans (hb1.mono HB0.out.size))
  have g0 : w.heap.size < Z.heap.size := Nat.lt_of_succ_lt HG.out
  have K0b := Lib.hid (range_keep K0.out g0 hb1)
  have K1b := Lib.hid (range_keep K1.out HG.out hb1)
  have z1 := hb1.size
  clear hb1
  go_wp2_with ((with_reducible show wpList _ _ _ _ _ _); refine wpList_storeNew rfl _ _ rfl (by rfl) p (by rfl) ?_; intro w2 hp2 hb2 hz2; clear hz2; have HB2 := Lib.hid (HB1.out.trans (hb2.mono HB1.out.size)); have HP2 := Lib.hid hp2; have K0c := Lib.hid (range_keep K0b.out (Nat.lt_of_lt_of_le g0 z1) hb2); have K1c := Lib.hid (range_keep K1b.out (Nat.lt_of_lt_of_le HG.out z1) hb2); have z2 := hb2.size; have HG2 := Lib.hid hp2.lt; clear hp2 hb2)
  refine (N6.out _ HB2.out).mono ?_
  rintro e w3 ⟨rfl, hb3⟩
  have HB3 := Lib.hid (HB2.out.trans (hb3.mono HB2.out.size))
  have K0d := Lib.hid (range_keep K0c.out (by omega) hb3)
  have K1d := Lib.hid (range_keep K1c.out (by have := HG.out; omega) hb3)
  have HP3 := Lib.hid (HP2.out.below HG2.out hb3)
  have HG3 := Lib.hid (Nat.lt_of_lt_of_le HG2.out hb3.size)
  have z3 := hb3.size
  clear hb3
  have d0 := addr_six K0d.out
  have d1 := addr_six K1d.out
  cases six
  all_goals
    go_wp2_with fail
    go_ret
    exact ⟨rfl, HB3.out⟩

set_option maxRecDepth 100000 in
set_option maxHeartbeats 2000000 in
theorem right_U (six : Bool) (a b : List UInt8) (ha : a.length = 16) (hb : b.length = 16) {A : Option Addr} {len cap : Nat} {xs : List UInt8} (hlen : len ≤ 60000) (hcap : len ≤ cap) (hcm : cap ≤ maxLen) (w : World) (hI : Rd w w.heap.size A len xs) (h0 : faultB true xs = 0) (hz6 : wat xs 6 ≠ 0) :
    Calls Try.prog 15 #[.agg (addrC six a), .agg (addrC six b), .int .i64 17, .slice A len cap] w fun e w' => e = .returned (.bool (rightS six a b true xs)) ∧ Below w.heap.size w w' := by
  have HL := Lib.hid hI.len
  obtain ⟨t1, t2, t3⟩ := tot_ok h0
  rw [hI.len] at t3
  obtain ⟨k0, k1, hb0, hz⟩ := boxes w six a b
  obtain ⟨Z, hZ⟩ : ∃ Z : World, (w.alloc (.cells (addrC six a) 35)).alloc (.cells (addrC six b) 35) = Z := ⟨_, rfl⟩
  rw [hZ] at k0 k1 hb0 hz
  have HR := Lib.hid (read_any (A := A) (cap := cap) (xs := xs) 17 (by omega) hcap hcm Z ((hI.below hb0).more hb0.size))
  have hf0 : faultP 17 xs = 0 := h0
  have hpt : (rdP 17 xs).t = totN true xs := rdP_tot (u := true) h0
  rw [hf0] at HR
  have hP := pseudo_even six a b ha hb (prN true) (totN true xs)
  have HT := Lib.hid (fun W (hB : Below w.heap.size w W) => (hI.below hB).take t3)
  have hck : decide (ckOf (pseudoOf six a b (prN true) (totN true xs) ++ xs.take (totN true xs)) = 0) = rightS six a b true xs := by unfold rightS; rw [if_neg (fun h => hz6 h.2)]; rfl
  have HCK := Lib.hid hck
  clear hck
  generalize rightS six a b true xs = r at *
  have N6 := Lib.hid (fun W (hB : Below w.heap.size w W) => num_any (p := 6) (cap := cap) 6 rfl (by omega) hcap hcm (by omega) ((hI.below hB).more hB.size))
  generalize wat xs 6 = q at *
  obtain ⟨p, hp⟩ : ∃ p, rdP 17 xs = p := ⟨_, rfl⟩
  rw [hp] at HR hpt
  have HPT := Lib.hid hpt
  generalize totN true xs = T at *
  have HPS := Lib.hid (fun W => pseudo_any six a b ha hb (prN true) T (prN_lt _) (by omega) _ rfl W)
  rw [show ((prN true : Nat) : Int) = 17 from rfl] at HPS
  obtain ⟨X, hX⟩ : ∃ X, pseudoOf six a b (prN true) T = X := ⟨_, rfl⟩
  rw [hX] at hP HPS HCK
  obtain ⟨n, hn⟩ : ∃ n, X.length = n := ⟨_, rfl⟩
  rw [hn] at hP
  have HN := Lib.hid hn
  have hn0 : 0 < n := hP.2.1
  have hn40 : n ≤ 40 := hP.2.2
  have HCUT := Lib.hid (fun W => run_upto8 A len cap T (T : Int) rfl (by omega) W)
  have HZ := Lib.hid hZ
  have K0 := Lib.hid k0
  have K1 := Lib.hid k1
  have HB0 := Lib.hid hb0
  have HG := Lib.hid hz
  have HI := Lib.hid hI
  rw [← addrC_eq, ← addrC_eq] at HPS
  obtain ⟨C0, hC0⟩ : ∃ C, addrC six a = C := ⟨_, rfl⟩
  obtain ⟨C1, hC1⟩ : ∃ C, addrC six b = C := ⟨_, rfl⟩
  rw [hC0, hC1] at HZ HPS
  rw [hC0, hC1]
  have HC0 := Lib.hid hC0
  have HC1 := Lib.hid hC1
  clear hX hn hP hZ k0 k1 hb0 hz hp h0 hf0 hpt hI hC0 hC1
  have hq1 : ((q : Int) == 0) = false := beq_eq_false_iff_ne.2 (by omega)
  have hq2 : (q == 0) = false := beq_eq_false_iff_ne.2 hz6
  go_enter Try.func15, Try.ntmps15
  go_wp2_with fail
  rw [HZ.out]
  refine HR.out.mono ?_
  rintro e w1 ⟨rfl, hb1⟩
  have HB1 := Lib.hid (HB0.out.trans (hb1.mono HB0.out.size))
  have g0 : w.heap.size < Z.heap.size := Nat.lt_of_succ_lt HG.out
  have K0b := Lib.hid (range_keep K0.out g0 hb1)
  have K1b := Lib.hid (range_keep K1.out HG.out hb1)
  have z1 := hb1.size
  clear hb1
  go_wp2_with ((with_reducible show wpList _ _ _ _ _ _); refine wpList_storeNew rfl _ _ rfl (by rfl) p (by rfl) ?_; intro w2 hp2 hb2 hz2; clear hz2; have HB2 := Lib.hid (HB1.out.trans (hb2.mono HB1.out.size)); have HP2 := Lib.hid hp2; have K0c := Lib.hid (range_keep K0b.out (Nat.lt_of_lt_of_le g0 z1) hb2); have K1c := Lib.hid (range_keep K1b.out (Nat.lt_of_lt_of_le HG.out z1) hb2); have z2 := hb2.size; have HG2 := Lib.hid hp2.lt; clear hp2 hb2)
  refine (N6.out _ HB2.out).mono ?_
  rintro e w3 ⟨rfl, hb3⟩
  have HB3 := Lib.hid (HB2.out.trans (hb3.mono HB2.out.size))
  have K0d := Lib.hid (range_keep K0c.out (by omega) hb3)
  have K1d := Lib.hid (range_keep K1c.out (by have := HG.out; omega) hb3)
  have HP3 := Lib.hid (HP2.out.below HG2.out hb3)
  have HG3 := Lib.hid (Nat.lt_of_lt_of_le HG2.out hb3.size)
  have z3 := hb3.size
  clear hb3
  go_wp2_with fail
  have HC4 := Lib.hid (fun W (hW : Below w3.heap.size w3 W) => (HP3.out.below HG3.out hW).cell (i := 4) (v := .int .i64 (T : Int)) (by rw [← HPT.out]; rfl))
  have gg := HG.out
  refine wp_region_held_drew (S := fun W => Below w3.heap.size w3 W) (by kernel_rfl) ((Below.refl _ _).drew) (fun hHeld => ?_)
  refine wpAnyH_take (i := 0) (oi := ⟨some 34, _, _, _, _, _⟩) (v := .agg C0) rfl (by kernel_rfl) (by kernel_rfl) (by kernel_rfl) (fun _ _ _ h => h) (by rw [← HC0.out]; exact yields_loadA (by rfl) _ rfl w.heap.size (by rfl) six a ha (fun W hW => range_keep K0d.out (by omega) hW)) hHeld ?_
  simp only [Act.put, List.setIfInBounds_toArray, List.set_cons_zero, List.set_cons_succ]
  refine wpAnyH_take (i := 1) (oi := ⟨some 35, _, _, _, _, _⟩) (v := .agg C1) rfl (by kernel_rfl) (by kernel_rfl) (by kernel_rfl) (fun _ _ _ h => h) (by rw [← HC1.out]; exact yields_loadA (by rfl) _ rfl (w.heap.size + 1) (by rfl) six b hb (fun W hW => range_keep K1d.out (by omega) hW)) hHeld ?_
  simp only [Act.put, List.setIfInBounds_toArray, List.set_cons_zero, List.set_cons_succ]
  refine wpAnyH_take (i := 2) (oi := ⟨some 36, _, _, _, _, _⟩) (v := .int .i64 17) rfl (by kernel_rfl) (by kernel_rfl) (by kernel_rfl) (fun _ _ _ h => h) (Or.inl ⟨by rfl, fun _ _ => by go_simp⟩) hHeld ?_
  simp only [Act.put, List.setIfInBounds_toArray, List.set_cons_zero, List.set_cons_succ]
  refine wpAnyH_take (i := 3) (oi := ⟨some 37, _, _, _, _, _⟩) (v := .pointer (some ⟨w1.heap.size, 4, none⟩)) rfl (by kernel_rfl) (by kernel_rfl) (by kernel_rfl) (fun _ _ _ h => h) (Or.inl ⟨by rfl, fun _ _ => by go_simp⟩) hHeld ?_
  simp only [Act.put, List.setIfInBounds_toArray, List.set_cons_zero, List.set_cons_succ]
  refine wpAnyH_take (i := 4) (oi := ⟨some 38, _, _, _, _, _⟩) (v := .int .i64 (T : Int)) rfl (by kernel_rfl) (by kernel_rfl) (by kernel_rfl) (fun _ _ _ h => h) (Or.inl ⟨by rfl, fun W hW => by have hc := HC4.out W hW; go_simp⟩) hHeld ?_
  simp only [Act.put, List.setIfInBounds_toArray, List.set_cons_zero, List.set_cons_succ]
  refine wpAnyH_take (i := 6) (oi := ⟨some 40, _, _, _, _, _⟩) (v := .slice A len cap) rfl (by kernel_rfl) (by kernel_rfl) (by kernel_rfl) (fun _ _ _ h => h) (Or.inl ⟨by rfl, fun _ _ => by go_simp⟩) hHeld ?_
  simp only [Act.put, List.setIfInBounds_toArray, List.set_cons_zero, List.set_cons_succ]
  refine wpAnyH_take (i := 7) (oi := ⟨some 41, _, _, _, _, _⟩) (v := .pointer (some ⟨w1.heap.size, 4, none⟩)) rfl (by kernel_rfl) (by kernel_rfl) (by kernel_rfl) (fun _ _ _ h => h) (Or.inl ⟨by rfl, fun _ _ => by go_simp⟩) hHeld ?_
  simp only [Act.put, List.setIfInBounds_toArray, List.set_cons_zero, List.set_cons_succ]
  refine wpAnyH_take (i := 8) (oi := ⟨some 42, _, _, _, _, _⟩) (v := .int .i64 (T : Int)) rfl (by kernel_rfl) (by kernel_rfl) (by kernel_rfl) (fun _ _ _ h => h) (Or.inl ⟨by rfl, fun W hW => by have hc := HC4.out W hW; go_simp⟩) hHeld ?_
  simp only [Act.put, List.setIfInBounds_toArray, List.set_cons_zero, List.set_cons_succ]
  refine wpAnyH_take (i := 9) (oi := ⟨some 43, _, _, _, _, _⟩) (v := .slice A T cap) rfl (by kernel_rfl) (by kernel_rfl) (by kernel_rfl) (fun _ _ _ h => h) (Or.inl ⟨by rfl, fun W _ => by have hs := HCUT.out W; go_simp⟩) hHeld ?_
  simp only [Act.put, List.setIfInBounds_toArray, List.set_cons_zero, List.set_cons_succ]
  refine wpAnyH_ready (rs := [5]) (by kernel_rfl) (by simp) (AllReadyH.cons (o := ⟨some 39, _, _, _, _, _⟩) rfl (fun K hK => ?_) AllReadyH.nil)
  go_simp
  refine (HPS.out _).mono ?_
  rintro e w5 ⟨v5, rfl, ho5, hb5⟩
  obtain ⟨g5, c5, rfl, hnc, hcm5, hg5, hgl5, hrd5⟩ := ho5.formG HN.out hn0
  have HB5 := Lib.hid (hHeld.trans (hb5.mono hHeld.size))
  have HRD5 := Lib.hid hrd5
  refine hK.out _ _ (HB5.out) (fun hHeld => ?_)
  clear hK K ho5 hb5 hrd5
  refine wpAnyH_ready (rs := [10]) (by kernel_rfl) (by simp) (AllReadyH.cons (o := ⟨some 44, _, _, _, _, _⟩) rfl (fun K hK => ?_) AllReadyH.nil)
  go_simp
  refine hK.out _ _ (hHeld.alloc hHeld.size _) (fun hHeld => ?_)
  clear hK K 
  refine wpAnyH_ready (rs := [11]) (by kernel_rfl) (by simp) (AllReadyH.cons (o := ⟨some 45, _, _, _, _, _⟩) rfl (fun K hK => ?_) AllReadyH.nil)
  go_simp
  refine (right_two (HRD5.out) hnc hcm5 ((HT.out _ (HB3.out.trans (HB5.out.mono HB3.out.size))).more (Nat.le_trans HB3.out.size HB5.out.size)) (by omega) hcm (by omega) r HCK.out).mono ?_
  rintro e w6 ⟨rfl, hb6⟩
  have HB6 := Lib.hid (HB5.out.trans (hb6.mono HB5.out.size))
  refine hK.out _ _ (HB6.out) (fun hHeld => ?_)
  clear hK K 
  refine wpAnyH_take (i := 12) (oi := ⟨some 8, _, _, _, _, _⟩) (v := .bool r) rfl (by kernel_rfl) (by kernel_rfl) (by kernel_rfl) (fun _ _ _ h => h) (Or.inl ⟨by rfl, fun _ _ => by go_simp⟩) hHeld ?_
  simp only [Act.put, List.setIfInBounds_toArray, List.set_cons_zero, List.set_cons_succ]
  refine wpAnyH_done (by kernel_rfl) ?_ _
  go_wp2_with fail
  go_ret
  exact ⟨rfl, HB3.out.trans (hHeld.mono HB3.out.size)⟩

/-- port.Right -/
theorem right_any (six : Bool) (a b : List UInt8) (ha : a.length = 16) (hb : b.length = 16) {A : Option Addr} {len cap : Nat} {xs : List UInt8} (hlen : len ≤ 60000) (hcap : len ≤ cap) (hcm : cap ≤ maxLen) (w : World) (hI : Rd w w.heap.size A len xs) (u : Bool) (h0 : faultB u xs = 0) :
    Calls Try.prog 15 #[.agg (addrC six a), .agg (addrC six b), .int .i64 (prN u : Nat), .slice A len cap] w fun e w' => e = .returned (.bool (rightS six a b u xs)) ∧ Below w.heap.size w w' := by
  cases u
  · exact right_T six a b ha hb hlen hcap hcm w hI h0
  · by_cases hz : wat xs 6 = 0
    · exact right_U0 six a b ha hb hlen hcap hcm w hI h0 hz
    · exact right_U six a b ha hb hlen hcap hcm w hI h0 hz
end Go.Proofs.Ytgjjepcjdekihaa
