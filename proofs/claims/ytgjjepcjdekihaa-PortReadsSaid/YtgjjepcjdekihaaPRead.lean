/-
  The contracts of port's fault and Read.
-/
import Derived.Test.YtgjjepcjdekihaaPCell
namespace Go.Proofs.Ytgjjepcjdekihaa
open Go.RowKit Go.Lib

section
variable {A : Option Addr} {len cap : Nat} {xs : List UInt8}
set_option maxHeartbeats 1000000 in
theorem fault_T (w : World) (hI : Rd w w.heap.size A len xs) :
    Calls Try.prog 21 #[.int .i64 6, .slice A len cap] w fun e w' => e = .returned (.int .i64 (faultT xs : Nat)) ∧ Below w.heap.size w w' := by
  have hL := hI.len
  by_cases h1 : len < 20
  · have E : faultT xs = 2 := by unfold faultT; rw [if_pos (by omega)]
    have h1' : (len : Int) < 20 := by omega
    rw [E]
    clear E
    go_enter Try.func21, Try.ntmps21
    go_wp2_with fail
    go_ret
    exact ⟨rfl, Below.refl _ _⟩
  · have HH := Lib.hid (fun W (hB : Below w.heap.size w W) => head_any (cap := cap) (by omega) (hI.below hB))
    have h1' : ¬ (len : Int) < 20 := by omega
    have hle := hlN_le xs
    obtain ⟨r, hr⟩ : ∃ r, hlN xs = r := ⟨_, rfl⟩
    by_cases h2 : r < 20
    · have E : faultT xs = 3 := by unfold faultT; rw [hr, if_neg (by omega), if_pos h2]
      rw [E]
      rw [hr] at HH
      clear E hr
      have h2' : (r : Int) < 20 := by omega
      go_enter Try.func21, Try.ntmps21
      go_wp2_with fail
      refine (HH.out _ (Below.refl _ _)).mono ?_
      rintro e w1 ⟨rfl, rfl⟩
      go_wp2_with fail
      go_ret
      exact ⟨rfl, Below.refl _ _⟩
    · have h2' : ¬ (r : Int) < 20 := by omega
      by_cases h3 : len < r
      · have E : faultT xs = 2 := by unfold faultT; rw [hr, if_neg (by omega), if_neg h2, if_pos (by omega)]
        rw [E]
        rw [hr] at HH
        clear E hr
        have h3' : (len : Int) < (r : Int) := by omega
        go_enter Try.func21, Try.ntmps21
        go_wp2_with fail
        refine (HH.out _ (Below.refl _ _)).mono ?_
        rintro e w1 ⟨rfl, rfl⟩
        go_wp2_with fail
        refine (HH.out _ (Below.refl _ _)).mono ?_
        rintro e w1 ⟨rfl, rfl⟩
        go_wp2_with fail
        go_ret
        exact ⟨rfl, Below.refl _ _⟩
      · have E : faultT xs = 0 := by unfold faultT; rw [hr, if_neg (by omega), if_neg h2, if_neg (by omega)]
        rw [E]
        rw [hr] at HH
        clear E hr
        have h3' : ¬ (len : Int) < (r : Int) := by omega
        go_enter Try.func21, Try.ntmps21
        go_wp2_with fail
        refine (HH.out _ (Below.refl _ _)).mono ?_
        rintro e w1 ⟨rfl, rfl⟩
        go_wp2_with fail
        refine (HH.out _ (Below.refl _ _)).mono ?_
        rintro e w1 ⟨rfl, rfl⟩
        go_wp2_with fail
        go_ret
        exact ⟨rfl, Below.refl _ _⟩

set_option maxHeartbeats 1000000 in
theorem fault_U (hlen : len ≤ 1000000) (hcap : len ≤ cap) (hcm : cap ≤ maxLen) (w : World) (hI : Rd w w.heap.size A len xs) :
    Calls Try.prog 21 #[.int .i64 17, .slice A len cap] w fun e w' => e = .returned (.int .i64 (faultU xs : Nat)) ∧ Below w.heap.size w w' := by
  have hL := hI.len
  by_cases h1 : len < 8
  · have E : faultU xs = 2 := by unfold faultU; rw [if_pos (by omega)]
    have h1' : (len : Int) < 8 := by omega
    rw [E]
    clear E
    go_enter Try.func21, Try.ntmps21
    go_wp2_with fail
    go_ret
    exact ⟨rfl, Below.refl _ _⟩
  · have HH := Lib.hid (fun W (hB : Below w.heap.size w W) => num_any (p := 4) (cap := cap) 4 rfl (by omega) hcap hcm (by omega) ((hI.below hB).more hB.size))
    have h1' : ¬ (len : Int) < 8 := by omega
    have hle := wat_lt xs 4
    obtain ⟨r, hr⟩ : ∃ r, wat xs 4 = r := ⟨_, rfl⟩
    by_cases h2 : r < 8
    · have E : faultU xs = 3 := by unfold faultU; rw [hr, if_neg (by omega), if_pos h2]
      rw [E]
      rw [hr] at HH
      clear E hr
      have h2' : (r : Int) < 8 := by omega
      go_enter Try.func21, Try.ntmps21
      go_wp2_with fail
      refine (HH.out _ (Below.refl _ _)).mono ?_
      rintro e w1 ⟨rfl, hb1⟩
      go_wp2_with fail
      go_ret
      exact ⟨rfl, hb1⟩
    · have h2' : ¬ (r : Int) < 8 := by omega
      by_cases h3 : len < r
      · have E : faultU xs = 2 := by unfold faultU; rw [hr, if_neg (by omega), if_neg h2, if_pos (by omega)]
        rw [E]
        rw [hr] at HH
        clear E hr
        have h3' : (len : Int) < (r : Int) := by omega
        go_enter Try.func21, Try.ntmps21
        go_wp2_with fail
        refine (HH.out _ (Below.refl _ _)).mono ?_
        rintro e w1 ⟨rfl, hb1⟩
        go_wp2_with fail
        refine (HH.out _ hb1).mono ?_
        rintro e w2 ⟨rfl, hb2⟩
        go_wp2_with fail
        go_ret
        exact ⟨rfl, hb1.trans (hb2.mono hb1.size)⟩
      · have E : faultU xs = 0 := by unfold faultU; rw [hr, if_neg (by omega), if_neg h2, if_neg (by omega)]
        rw [E]
        rw [hr] at HH
        clear E hr
        have h3' : ¬ (len : Int) < (r : Int) := by omega
        go_enter Try.func21, Try.ntmps21
        go_wp2_with fail
        refine (HH.out _ (Below.refl _ _)).mono ?_
        rintro e w1 ⟨rfl, hb1⟩
        go_wp2_with fail
        refine (HH.out _ hb1).mono ?_
        rintro e w2 ⟨rfl, hb2⟩
        go_wp2_with fail
        go_ret
        exact ⟨rfl, hb1.trans (hb2.mono hb1.size)⟩

set_option maxHeartbeats 1000000 in
theorem fault_N (n : Int) (h6 : n ≠ 6) (h17 : n ≠ 17) (w : World) :
    Calls Try.prog 21 #[.int .i64 n, .slice A len cap] w fun e w' => e = .returned (.int .i64 5) ∧ Below w.heap.size w w' := by
  have b6 : (n == 6) = false := beq_eq_false_iff_ne.2 h6
  have b17 : (n == 17) = false := beq_eq_false_iff_ne.2 h17
  go_enter Try.func21, Try.ntmps21
  go_wp2_with fail
  go_ret
  exact ⟨rfl, Below.refl _ _⟩
theorem fault_any (n : Int) (hlen : len ≤ 1000000) (hcap : len ≤ cap) (hcm : cap ≤ maxLen) (w : World) (hI : Rd w w.heap.size A len xs) :
    Calls Try.prog 21 #[.int .i64 n, .slice A len cap] w fun e w' => e = .returned (.int .i64 (faultP n xs : Nat)) ∧ Below w.heap.size w w' := by
  unfold faultP
  by_cases h6 : n = 6
  · subst h6
    rw [if_pos rfl]
    exact fault_T w hI
  · rw [if_neg h6]
    by_cases h17 : n = 17
    · subst h17
      rw [if_pos rfl]
      exact fault_U hlen hcap hcm w hI
    · rw [if_neg h17]
      exact fault_N n h6 h17 w
end

/-- What both Reads give. -/
def ReadGave (w : World) (p : Po) (k : Nat) (e : Ending) (w' : World) : Prop := e = .returned (.tuple #[poC p, .int .i64 (k : Int)]) ∧ Below w.heap.size w w'

set_option maxRecDepth 100000 in
set_option maxHeartbeats 1000000 in
theorem read_no {A : Option Addr} {len cap : Nat} {xs : List UInt8} (n : Int) (hlen : len ≤ 1000000) (hcap : len ≤ cap) (hcm : cap ≤ maxLen) (w : World) (hI : Rd w w.heap.size A len xs) (h0 : faultP n xs ≠ 0) :
    Calls Try.prog 10 #[.int .i64 n, .slice A len cap] w (ReadGave w (rdP n xs) (faultP n xs)) := by
  rw [rdP_no h0]
  have hB0 := (Below.refl w.heap.size w).alloc (Nat.le_refl _) (.cells (poL Po.zero).toArray 25)
  have hR0 := Blk.new w 25 (poL Po.zero)
  obtain ⟨Z, hZ⟩ : ∃ Z : World, w.alloc (.cells (poL Po.zero).toArray 25) = Z := ⟨_, rfl⟩
  rw [hZ] at hB0 hR0
  have HF := Lib.hid (fault_any (A := A) (cap := cap) (xs := xs) n hlen hcap hcm Z ((hI.below hB0).more hB0.size))
  obtain ⟨F, hF⟩ : ∃ F, faultP n xs = F := ⟨_, rfl⟩
  rw [hF] at HF h0 ⊢
  have hn0 : ((F : Int) != 0) = true := by simp; omega
  have HZ := Lib.hid hZ
  have HR0 := Lib.hid hR0
  have HB0 := Lib.hid hB0
  clear hF hI hZ hB0 hR0
  go_enter Try.func10, Try.ntmps10
  go_wp2_with fail
  rw [show (w.alloc (.cells #[.int .i64 0, .int .i64 0, .int .i64 0, .int .i64 0, .int .i64 0] 25)) = Z from HZ.out]
  refine HF.out.mono ?_
  rintro e w1 ⟨rfl, hb1⟩
  have HB1 := Lib.hid (HB0.out.trans (hb1.mono HB0.out.size))
  have HR1 := Lib.hid (HR0.out.below HR0.out.lt hb1)
  clear hb1
  go_wp2_with (first
    | ((with_reducible show wpList _ _ _ _ _ _); refine wpList_buildw 25 _ rfl (by rfl) _ (by kernel_rfl) (poL Po.zero).toArray (by kernel_rfl) ?_)
    | ((with_reducible show wpList _ _ _ _ _ _); refine wpList_storeR rfl 25 _ _ rfl w.heap.size (by rfl) (poL Po.zero) (by rfl) _ HR1.out rfl (sizePoL _) (poL_one _) ?_))
  refine bodyPost_ret (v := .tuple #[poC Po.zero, .int .i64 (F : Int)]) (results_po rfl _ _ w.heap.size (by rfl) _ (HR1.out.setRow_ _) _ (by rfl)) rfl ?_
  exact ⟨rfl, below_setRow HB1.out (Nat.le_refl _) _⟩

set_option maxRecDepth 100000 in
set_option maxHeartbeats 1000000 in
theorem read_T {A : Option Addr} {len cap : Nat} {xs : List UInt8} (hlen : len ≤ 1000000) (hcap : len ≤ cap) (hcm : cap ≤ maxLen) (w : World) (hI : Rd w w.heap.size A len xs) (h0 : faultP 6 xs = 0) :
    Calls Try.prog 10 #[.int .i64 6, .slice A len cap] w (ReadGave w (rdP 6 xs) (faultP 6 xs)) := by
  rw [rdP_T h0]
  have HL := Lib.hid hI.len
  obtain ⟨l1, _, _⟩ := faultT_zero h0
  rw [hI.len] at l1
  have hB0 := (Below.refl w.heap.size w).alloc (Nat.le_refl _) (.cells (poL Po.zero).toArray 25)
  have hR0 := Blk.new w 25 (poL Po.zero)
  obtain ⟨Z, hZ⟩ : ∃ Z : World, w.alloc (.cells (poL Po.zero).toArray 25) = Z := ⟨_, rfl⟩
  rw [hZ] at hB0 hR0
  have HF := Lib.hid (fault_any (A := A) (cap := cap) (xs := xs) 6 hlen hcap hcm Z ((hI.below hB0).more hB0.size))
  rw [h0] at HF ⊢
  have N0 := Lib.hid (fun W (hB : Below w.heap.size w W) => num_any (p := 0) (cap := cap) 0 rfl (by omega) hcap hcm (by omega) ((hI.below hB).more hB.size))
  have N2 := Lib.hid (fun W (hB : Below w.heap.size w W) => num_any (p := 2) (cap := cap) 2 rfl (by omega) hcap hcm (by omega) ((hI.below hB).more hB.size))
  have HH := Lib.hid (fun W (hB : Below w.heap.size w W) => head_any (cap := cap) l1 (hI.below hB))
  obtain ⟨b, off, rfl, _⟩ := hI.addr (by omega)
  have HC := Lib.hid (fun W (hB : Below w.heap.size w W) => (hI.below hB).cellD (k := 13) (by omega))
  have hx := batN_lt xs 13
  have HZ := Lib.hid hZ
  have HR0 := Lib.hid hR0
  have HB0 := Lib.hid hB0
  have hPo : poT xs = ⟨wat xs 0, wat xs 2, batN xs 13 % 64, hlN xs, len⟩ := by unfold poT; rw [HL.out]
  rw [hPo]
  have l13 : (13 : Int) < (len : Int) := by omega
  have hand : bits .and .u8 (batN xs 13 : Int) 63 = (batN xs 13 : Int) % 64 := bits_mask .u8 8 (by decide) wraps_u8 6 (by decide) _ (by omega) (by omega)
  have hwx : IntKind.i64.wrap ((batN xs 13 : Int) % 64) = (batN xs 13 : Int) % 64 := by rw [IntKind.wrap_i64]; omega
  generalize wat xs 0 = s at *
  generalize wat xs 2 = d at *
  generalize hlN xs = r at *
  generalize batN xs 13 = x at *
  clear h0 hI hZ hB0 hR0 hPo
  go_enter Try.func10, Try.ntmps10
  go_wp2_with fail
  rw [show (w.alloc (.cells #[.int .i64 0, .int .i64 0, .int .i64 0, .int .i64 0, .int .i64 0] 25)) = Z from HZ.out]
  refine HF.out.mono ?_
  rintro e w1 ⟨rfl, hb1⟩
  have HB1 := Lib.hid (HB0.out.trans (hb1.mono HB0.out.size))
  have HR1 := Lib.hid (HR0.out.below HR0.out.lt hb1)
  clear hb1
  go_wp2_with fail
  refine (N0.out _ HB1.out).mono ?_
  rintro e w2 ⟨rfl, hb2⟩
  have HB2 := Lib.hid (HB1.out.trans (hb2.mono HB1.out.size))
  have HR2 := Lib.hid (HR1.out.below HR1.out.lt hb2)
  clear hb2
  go_wp2_with fail
  refine (N2.out _ HB2.out).mono ?_
  rintro e w3 ⟨rfl, hb3⟩
  have HB3 := Lib.hid (HB2.out.trans (hb3.mono HB2.out.size))
  have HR3 := Lib.hid (HR2.out.below HR2.out.lt hb3)
  clear hb3
  go_wp2_with (first
    | ((with_reducible show wpList _ _ _ _ _ _); refine wpList_buildw 25 _ rfl (by rfl) _ (by kernel_rfl) (poL ⟨s, d, 0, 0, 0⟩).toArray (by kernel_rfl) ?_)
    | ((with_reducible show wpList _ _ _ _ _ _); refine wpList_storeNew rfl _ _ rfl (by rfl) ⟨s, d, 0, 0, 0⟩ (by rfl) ?_; intro w4 hp4 hb4 hz4; clear hz4; have HB4 := Lib.hid (HB3.out.trans (hb4.mono HB3.out.size)); have HR4 := Lib.hid (HR3.out.below HR3.out.lt hb4); have HP4 := Lib.hid hp4; have HG := Lib.hid HR3.out.lt; clear hb4 hp4))
  refine wp_region_held_drew (S := fun W => Below w.heap.size w W) (by kernel_rfl) (HB4.out.drew) (fun hHeld => ?_)
  refine wpAnyH_take (i := 0) (oi := ⟨some 22, _, _, _, _, _⟩) (v := .slice (some ⟨b, off, none⟩) len cap) rfl (by kernel_rfl) (by kernel_rfl) (by kernel_rfl) (fun _ _ _ h => h) (Or.inl ⟨by rfl, fun _ _ => by go_simp⟩) hHeld ?_
  simp only [Act.put, List.setIfInBounds_toArray, List.set_cons_zero, List.set_cons_succ]
  refine wpAnyH_take (i := 1) (oi := ⟨some 23, _, _, _, _, _⟩) (v := .pointer (some ⟨b, off + 13, none⟩)) rfl (by kernel_rfl) (by kernel_rfl) (by kernel_rfl) (fun _ _ _ h => h) (Or.inl ⟨by rfl, fun _ _ => by go_simp⟩) hHeld ?_
  simp only [Act.put, List.setIfInBounds_toArray, List.set_cons_zero, List.set_cons_succ]
  refine wpAnyH_take (i := 2) (oi := ⟨some 24, _, _, _, _, _⟩) (v := .int .u8 (x : Int)) rfl (by kernel_rfl) (by kernel_rfl) (by kernel_rfl) (fun _ _ _ h => h) (Or.inl ⟨by rfl, fun W hW => by have hc := HC.out W hW; go_simp⟩) hHeld ?_
  simp only [Act.put, List.setIfInBounds_toArray, List.set_cons_zero, List.set_cons_succ]
  refine wpAnyH_take (i := 3) (oi := ⟨some 25, _, _, _, _, _⟩) (v := .int .u8 ((x : Int) % 64)) rfl (by kernel_rfl) (by kernel_rfl) (by kernel_rfl) (fun _ _ _ h => h) (Or.inl ⟨by rfl, fun _ _ => by go_simp⟩) hHeld ?_
  simp only [Act.put, List.setIfInBounds_toArray, List.set_cons_zero, List.set_cons_succ]
  refine wpAnyH_take (i := 4) (oi := ⟨some 26, _, _, _, _, _⟩) (v := .int .i64 ((x : Int) % 64)) rfl (by kernel_rfl) (by kernel_rfl) (by kernel_rfl) (fun _ _ _ h => h) (Or.inl ⟨by rfl, fun _ _ => by go_simp⟩) hHeld ?_
  simp only [Act.put, List.setIfInBounds_toArray, List.set_cons_zero, List.set_cons_succ]
  refine wpAnyH_take (i := 5) (oi := ⟨some 27, _, _, _, _, _⟩) (v := .slice (some ⟨b, off, none⟩) len cap) rfl (by kernel_rfl) (by kernel_rfl) (by kernel_rfl) (fun _ _ _ h => h) (Or.inl ⟨by rfl, fun _ _ => by go_simp⟩) hHeld ?_
  simp only [Act.put, List.setIfInBounds_toArray, List.set_cons_zero, List.set_cons_succ]
  refine wpAnyH_take (i := 7) (oi := ⟨some 29, _, _, _, _, _⟩) (v := .slice (some ⟨b, off, none⟩) len cap) rfl (by kernel_rfl) (by kernel_rfl) (by kernel_rfl) (fun _ _ _ h => h) (Or.inl ⟨by rfl, fun _ _ => by go_simp⟩) hHeld ?_
  simp only [Act.put, List.setIfInBounds_toArray, List.set_cons_zero, List.set_cons_succ]
  refine wpAnyH_take (i := 8) (oi := ⟨some 30, _, _, _, _, _⟩) (v := .int .i64 (len : Int)) rfl (by kernel_rfl) (by kernel_rfl) (by kernel_rfl) (fun _ _ _ h => h) (Or.inl ⟨by rfl, fun _ _ => by go_simp⟩) hHeld ?_
  simp only [Act.put, List.setIfInBounds_toArray, List.set_cons_zero, List.set_cons_succ]
  refine wpAnyH_take (i := 9) (oi := ⟨some 31, _, _, _, _, _⟩) (v := .pointer (some ⟨w3.heap.size, 2, none⟩)) rfl (by kernel_rfl) (by kernel_rfl) (by kernel_rfl) (fun _ _ _ h => h) (Or.inl ⟨by rfl, fun _ _ => by go_simp⟩) hHeld ?_
  simp only [Act.put, List.setIfInBounds_toArray, List.set_cons_zero, List.set_cons_succ]
  refine wpAnyH_ready (rs := [6]) (by kernel_rfl) (by simp) (AllReadyH.cons (o := ⟨some 28, _, _, _, _, _⟩) rfl (fun K hK => ?_) AllReadyH.nil)
  go_simp
  refine (HH.out _ hHeld).mono ?_
  rintro e w5 ⟨rfl, rfl⟩
  refine hK.out _ _ (hHeld) (fun hHeld => ?_)
  clear hK K 
  have HP5 : Hid (Blk w4.drew 25 w3.heap.size (poL ⟨s, d, 0, 0, 0⟩)) := Lib.hid HP4.out
  have HR5 : Hid (Blk w4.drew 25 w.heap.size (poL Po.zero)) := Lib.hid HR4.out
  clear HP4 HR4
  refine wpAnyH_ready (rs := [10]) (by kernel_rfl) (by simp) (AllReadyH.cons (o := ⟨none, _, _, _, _, _⟩) rfl (fun K hK => ?_) AllReadyH.nil)
  refine step_storeI rfl (.tmp 31) (.tmp 26) rfl w3.heap.size 2 (by rfl) ((x : Int) % 64) (by rfl) 25 _ HP5.out 0 (by rfl) ?_
  intro w6 hp6 hb6
  have HP6 := Lib.hid hp6
  have HR6 := Lib.hid (HR5.out.below HG.out hb6)
  refine hK.out _ _ (hHeld.trans (hb6.mono (Nat.le_of_lt HG.out))) (fun hHeld => ?_)
  clear hK K hb6 hp6 HP5 HR5
  refine wpAnyH_take (i := 11) (oi := ⟨some 32, _, _, _, _, _⟩) (v := .pointer (some ⟨w3.heap.size, 3, none⟩)) rfl (by kernel_rfl) (by kernel_rfl) (by kernel_rfl) (fun _ _ _ h => h) (Or.inl ⟨by rfl, fun _ _ => by go_simp⟩) hHeld ?_
  simp only [Act.put, List.setIfInBounds_toArray, List.set_cons_zero, List.set_cons_succ]
  refine wpAnyH_ready (rs := [12]) (by kernel_rfl) (by simp) (AllReadyH.cons (o := ⟨none, _, _, _, _, _⟩) rfl (fun K hK => ?_) AllReadyH.nil)
  refine step_storeI rfl (.tmp 32) (.tmp 28) rfl w3.heap.size 3 (by rfl) ((r : Int)) (by rfl) 25 _ HP6.out 0 (by rfl) ?_
  intro w7 hp7 hb7
  have HP7 := Lib.hid hp7
  have HR7 := Lib.hid (HR6.out.below HG.out hb7)
  refine hK.out _ _ (hHeld.trans (hb7.mono (Nat.le_of_lt HG.out))) (fun hHeld => ?_)
  clear hK K hb7 hp7 HP6 HR6
  refine wpAnyH_take (i := 13) (oi := ⟨some 33, _, _, _, _, _⟩) (v := .pointer (some ⟨w3.heap.size, 4, none⟩)) rfl (by kernel_rfl) (by kernel_rfl) (by kernel_rfl) (fun _ _ _ h => h) (Or.inl ⟨by rfl, fun _ _ => by go_simp⟩) hHeld ?_
  simp only [Act.put, List.setIfInBounds_toArray, List.set_cons_zero, List.set_cons_succ]
  refine wpAnyH_ready (rs := [14]) (by kernel_rfl) (by simp) (AllReadyH.cons (o := ⟨none, _, _, _, _, _⟩) rfl (fun K hK => ?_) AllReadyH.nil)
  refine step_storeI rfl (.tmp 33) (.tmp 30) rfl w3.heap.size 4 (by rfl) ((len : Int)) (by rfl) 25 _ HP7.out 0 (by rfl) ?_
  intro w8 hp8 hb8
  have HP8 := Lib.hid hp8
  have HR8 := Lib.hid (HR7.out.below HG.out hb8)
  refine hK.out _ _ (hHeld.trans (hb8.mono (Nat.le_of_lt HG.out))) (fun hHeld => ?_)
  clear hK K hb8 hp8 HP7 HR7
  refine wpAnyH_done (by kernel_rfl) ?_ _
  have HP9 : Hid (Blk w8 25 w3.heap.size (poL ⟨s, d, x % 64, r, len⟩)) := Lib.hid HP8.out
  clear HP8
  go_wp2_with (first
    | ((with_reducible show wpList _ _ _ _ _ _); refine wpList_loadP _ rfl (by rfl) w3.heap.size (by rfl) _ HP9.out ?_)
    | ((with_reducible show wpList _ _ _ _ _ _); refine wpList_storeR rfl 25 _ _ rfl w.heap.size (by rfl) (poL ⟨s, d, x % 64, r, len⟩) (by rfl) _ HR8.out rfl (sizePoL _) (poL_one _) ?_))
  refine bodyPost_ret (v := .tuple #[poC ⟨s, d, x % 64, r, len⟩, .int .i64 0]) (results_po rfl _ _ w.heap.size (by rfl) _ (HR8.out.setRow_ _) _ (by rfl)) rfl ?_
  exact ⟨rfl, below_setRow hHeld (Nat.le_refl _) _⟩

set_option maxRecDepth 100000 in
set_option maxHeartbeats 1000000 in
theorem read_U {A : Option Addr} {len cap : Nat} {xs : List UInt8} (hlen : len ≤ 1000000) (hcap : len ≤ cap) (hcm : cap ≤ maxLen) (w : World) (hI : Rd w w.heap.size A len xs) (h0 : faultP 17 xs = 0) :
    Calls Try.prog 10 #[.int .i64 17, .slice A len cap] w (ReadGave w (rdP 17 xs) (faultP 17 xs)) := by
  rw [rdP_U h0]
  obtain ⟨l1, _, _⟩ := faultU_zero h0
  rw [hI.len] at l1
  have hB0 := (Below.refl w.heap.size w).alloc (Nat.le_refl _) (.cells (poL Po.zero).toArray 25)
  have hR0 := Blk.new w 25 (poL Po.zero)
  obtain ⟨Z, hZ⟩ : ∃ Z : World, w.alloc (.cells (poL Po.zero).toArray 25) = Z := ⟨_, rfl⟩
  rw [hZ] at hB0 hR0
  have HF := Lib.hid (fault_any (A := A) (cap := cap) (xs := xs) 17 hlen hcap hcm Z ((hI.below hB0).more hB0.size))
  rw [h0] at HF ⊢
  have N0 := Lib.hid (fun W (hB : Below w.heap.size w W) => num_any (p := 0) (cap := cap) 0 rfl (by omega) hcap hcm (by omega) ((hI.below hB).more hB.size))
  have N2 := Lib.hid (fun W (hB : Below w.heap.size w W) => num_any (p := 2) (cap := cap) 2 rfl (by omega) hcap hcm (by omega) ((hI.below hB).more hB.size))
  have N4 := Lib.hid (fun W (hB : Below w.heap.size w W) => num_any (p := 4) (cap := cap) 4 rfl (by omega) hcap hcm (by omega) ((hI.below hB).more hB.size))
  have HZ := Lib.hid hZ
  have HR0 := Lib.hid hR0
  have HB0 := Lib.hid hB0
  rw [show poU xs = ⟨wat xs 0, wat xs 2, 0, 8, wat xs 4⟩ from rfl]
  generalize wat xs 0 = s at *
  generalize wat xs 2 = d at *
  generalize wat xs 4 = t at *
  clear h0 hI hZ hB0 hR0
  go_enter Try.func10, Try.ntmps10
  go_wp2_with fail
  rw [show (w.alloc (.cells #[.int .i64 0, .int .i64 0, .int .i64 0, .int .i64 0, .int .i64 0] 25)) = Z from HZ.out]
  refine HF.out.mono ?_
  rintro e w1 ⟨rfl, hb1⟩
  have HB1 := Lib.hid (HB0.out.trans (hb1.mono HB0.out.size))
  have HR1 := Lib.hid (HR0.out.below HR0.out.lt hb1)
  clear hb1
  go_wp2_with fail
  refine (N0.out _ HB1.out).mono ?_
  rintro e w2 ⟨rfl, hb2⟩
  have HB2 := Lib.hid (HB1.out.trans (hb2.mono HB1.out.size))
  have HR2 := Lib.hid (HR1.out.below HR1.out.lt hb2)
  clear hb2
  go_wp2_with fail
  refine (N2.out _ HB2.out).mono ?_
  rintro e w3 ⟨rfl, hb3⟩
  have HB3 := Lib.hid (HB2.out.trans (hb3.mono HB2.out.size))
  have HR3 := Lib.hid (HR2.out.below HR2.out.lt hb3)
  clear hb3
  go_wp2_with (first
    | ((with_reducible show wpList _ _ _ _ _ _); refine wpList_buildw 25 _ rfl (by rfl) _ (by kernel_rfl) (poL ⟨s, d, 0, 0, 0⟩).toArray (by kernel_rfl) ?_)
    | ((with_reducible show wpList _ _ _ _ _ _); refine wpList_storeNew rfl _ _ rfl (by rfl) ⟨s, d, 0, 0, 0⟩ (by rfl) ?_; intro w4 hp4 hb4 hz4; clear hz4; have HB4 := Lib.hid (HB3.out.trans (hb4.mono HB3.out.size)); have HR4 := Lib.hid (HR3.out.below HR3.out.lt hb4); have HP4 := Lib.hid hp4; have HG := Lib.hid HR3.out.lt; clear hb4 hp4))
  refine (N4.out _ HB4.out).mono ?_
  rintro e w5 ⟨rfl, hb5⟩
  have HB5 := Lib.hid (HB4.out.trans (hb5.mono HB4.out.size))
  have HR5 := Lib.hid (HR4.out.below HR4.out.lt hb5)
  have HP5 := Lib.hid (HP4.out.below HP4.out.lt hb5)
  clear hb5
  go_wp2_with (first
    | ((with_reducible show wpList _ _ _ _ _ _); refine wpList_storeI rfl (.tmp 36) _ rfl w3.heap.size 3 (by rfl) 8 (by rfl) 25 _ HP5.out 0 (by rfl) ?_; intro w6 hp6 _ hb6; have HP6 := Lib.hid hp6; have HR6 := Lib.hid (HR5.out.below HG.out hb6); have HB6 := Lib.hid (HB5.out.trans (hb6.mono (Nat.le_of_lt HG.out))); clear hp6 hb6)
    | ((with_reducible show wpList _ _ _ _ _ _); refine wpList_storeI rfl (.tmp 37) _ rfl w3.heap.size 4 (by rfl) (t : Int) (by rfl) 25 _ HP6.out 0 (by rfl) ?_; intro w7 hp7 _ hb7; have HP7 : Hid (Blk w7 25 w3.heap.size (poL ⟨s, d, 0, 8, t⟩)) := Lib.hid hp7; have HR7 := Lib.hid (HR6.out.below HG.out hb7); have HB7 := Lib.hid (HB6.out.trans (hb7.mono (Nat.le_of_lt HG.out))); clear hp7 hb7)
    | ((with_reducible show wpList _ _ _ _ _ _); refine wpList_loadP _ rfl (by rfl) w3.heap.size (by rfl) _ HP7.out ?_)
    | ((with_reducible show wpList _ _ _ _ _ _); refine wpList_storeR rfl 25 _ _ rfl w.heap.size (by rfl) (poL ⟨s, d, 0, 8, t⟩) (by rfl) _ HR7.out rfl (sizePoL _) (poL_one _) ?_))
  refine bodyPost_ret (v := .tuple #[poC ⟨s, d, 0, 8, t⟩, .int .i64 0]) (results_po rfl _ _ w.heap.size (by rfl) _ (HR7.out.setRow_ _) _ (by rfl)) rfl ?_
  exact ⟨rfl, below_setRow HB7.out (Nat.le_refl _) _⟩
/-- port.Read -/
theorem read_any {A : Option Addr} {len cap : Nat} {xs : List UInt8} (n : Int) (hlen : len ≤ 1000000) (hcap : len ≤ cap) (hcm : cap ≤ maxLen) (w : World) (hI : Rd w w.heap.size A len xs) :
    Calls Try.prog 10 #[.int .i64 n, .slice A len cap] w (ReadGave w (rdP n xs) (faultP n xs)) := by
  by_cases h0 : faultP n xs = 0
  · by_cases h6 : n = 6
    · subst h6
      exact read_T hlen hcap hcm w hI h0
    · by_cases h17 : n = 17
      · subst h17
        exact read_U hlen hcap hcm w hI h0
      · unfold faultP at h0
        rw [if_neg h6, if_neg h17] at h0
        cases h0
  · exact read_no n hlen hcap hcm w hI h0
end Go.Proofs.Ytgjjepcjdekihaa
