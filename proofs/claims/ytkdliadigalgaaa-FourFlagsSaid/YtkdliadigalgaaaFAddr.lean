/-
  The contracts of four's addr and isFour.
-/
import Derived.Test.YtkdliadigalgaaaFSmall
import Derived.Test.YtkdliadigalgaaaFSame
namespace Go.Proofs.Ytkdliadigalgaaa
open Go.RowKit Go.Lib

theorem zeroP : #[Value.bool false, .int .u8 0, .int .u8 0, .int .u8 0, .int .u8 0, .int .u8 0, .int .u8 0, .int .u8 0, .int .u8 0, .int .u8 0, .int .u8 0, .int .u8 0, .int .u8 0, .int .u8 0, .int .u8 0, .int .u8 0, .int .u8 0] = (adL Ad.zero).toArray := by rfl
/-- The address whose first four bytes are these. -/
def ad4 (xs : List UInt8) : Ad := ⟨false, xs.take 4 ++ z12⟩
theorem ad4_len {xs : List UInt8} (h : 4 ≤ xs.length) : (ad4 xs).b.length = 16 := by
  show (xs.take 4 ++ z12).length = 16
  rw [List.length_append, List.length_take, Nat.min_eq_left h]; rfl
theorem ad4_splice {xs : List UInt8} (h : 4 ≤ xs.length) : splice (adL Ad.zero) 1 ((xs.take 4).map v8) = adL (ad4 xs) := by
  match xs, h with
  | a :: b :: c :: d :: r, _ => rfl

set_option maxRecDepth 100000 in
set_option maxHeartbeats 2000000 in
theorem addr_any {A : Option Addr} {len : Nat} {cap : Nat} {xs : List UInt8} (h4 : 4 ≤ len) (hcap : len ≤ cap) {w : World} {B : Nat} (hBw : B ≤ w.heap.size) (hI : Rd w B A len xs) :
    Calls Try.prog 21 #[.slice A len cap] w fun e w' => e = .returned (adC (ad4 xs)) ∧ Below w.heap.size w w' := by
  have hxl : 4 ≤ xs.length := by rw [hI.len]; exact h4
  have HL := Lib.hid (ad4_len hxl)
  have HS := Lib.hid (ad4_splice hxl)
  obtain ⟨Z, hZ⟩ : ∃ Z : World, (w.alloc (.cells (adL Ad.zero).toArray 26)).alloc (.cells (adL Ad.zero).toArray 26) = Z := ⟨_, rfl⟩
  have b1 : Blk Z 26 w.heap.size (adL Ad.zero) := by rw [← hZ]; exact (Blk.new w _ _).alloc _
  have b2 : Blk Z 26 (w.heap.size + 1) (adL Ad.zero) := by
    rw [← hZ]
    have := Blk.new (w.alloc (.cells (adL Ad.zero).toArray 26)) 26 (adL Ad.zero)
    simpa using this
  have hB0 : Below w.heap.size w Z := by rw [← hZ]; exact ((Below.refl w.heap.size w).alloc (Nat.le_refl _) _).alloc (by simp) _
  have hzs : Z.heap.size = w.heap.size + 2 := by rw [← hZ]; simp
  have hcut := fun W => run_upto8 A len cap 4 4 rfl (by omega) W
  have hr := (hI.below (hB0.mono hBw)).take (k := 4) h4
  obtain ⟨ad, rfl, hcs⟩ := hr.cells (by omega)
  have HC := Lib.hid hcs
  have H4 : Hid (((xs.take 4).map v8).length = 4) := Lib.hid (by rw [List.length_map, hr.len])
  rw [← zeroP] at hZ
  have HZ := Lib.hid hZ
  have HB1 := Lib.hid b1
  have HB2 := Lib.hid b2
  have HB0 := Lib.hid hB0
  have HZS := Lib.hid hzs
  clear hZ b1 b2 hB0 hr hcs hzs
  go_enter Try.func21, Try.ntmps21
  go_wp2_with fail
  rw [HZ.out]
  go_region_law (refine step_copy_splice rfl (.tmp 5) (.tmp 7) 22 22 rfl 5 Try.underlying22 size8 (some ⟨w.heap.size + 1, 1, none⟩) (some ad) 16 16 4 cap (by simp [Act.eval, Act.put]) (by simp [Act.eval, Act.put]) (w.heap.size + 1) 1 (adL Ad.zero) 26 HB2.out ((xs.take 4).map v8) (by rw [H4.out]; rfl) (fun h0 => ⟨rfl, ad, rfl, HC.out⟩) (by rw [H4.out]; decide) (oneCell8 _) (w.heap.size + 1) Z (Below.refl _ _).drew (Nat.le_refl _) ?_; intro w3 HG3 hB3; rw [H4.out])
  rw [HS.out] at HG3
  have L1 : Blk w3 26 (w.heap.size + 1) (adL (ad4 xs)) := HG3.out
  have R1 := HB1.out.below (Nat.lt_succ_self _) hB3
  have B3 := HB0.out.trans (hB3.mono (Nat.le_succ _))
  have L1 := Lib.hid L1
  have R1 := Lib.hid R1
  have B3 := Lib.hid B3
  clear HG3 hB3 hcut
  go_wp2_with (first
    | ((with_reducible show wpList _ _ _ _ _ _); refine wpList_load_mid rfl 26 _ rfl (w.heap.size + 1) 0 (by rfl) (adL (ad4 xs)) _ L1.out.range Try.underlying26 rfl (sizeAdL HL.out) ?_)
    | ((with_reducible show wpList _ _ _ _ _ _); refine wpList_storeR rfl 26 _ _ rfl w.heap.size (by rfl) (adL (ad4 xs)) (by rfl) _ R1.out (by rw [adL_len HL.out]; rfl) (sizeAdL HL.out) (adL_one _) ?_))
  refine bodyPost_ret (v := adC (ad4 xs)) (results_ad rfl _ _ w.heap.size (by rfl) _ HL.out (R1.out.setRow_ _)) rfl ?_
  exact ⟨rfl, below_setRow B3.out (Nat.le_refl _) _⟩
theorem short_ad {a : Ad} (h : a.b.length = 16) : adB a (ad4 a.b) = shortB a := by
  apply Bool.eq_iff_iff.2
  rw [short_eq h, adB_eq]
  rfl

set_option maxRecDepth 100000 in
set_option maxHeartbeats 2000000 in
theorem isfour_any {a : Ad} (h : a.b.length = 16) (w : World) : Calls Try.prog 32 #[adC a] w fun e w' => e = .returned (.bool (shortB a)) ∧ Below w.heap.size w w' := by
  have hb1 := Blk.new w 26 (adL a)
  have hB1 := (Below.refl w.heap.size w).alloc (Nat.le_refl _) (.cells (adL a).toArray 26)
  have hz1 : (w.alloc (.cells (adL a).toArray 26)).heap.size = w.heap.size + 1 := by simp
  unfold adC
  obtain ⟨w1, hw1⟩ : ∃ w1, w.alloc (.cells (adL a).toArray 26) = w1 := ⟨_, rfl⟩
  rw [hw1] at hB1 hb1 hz1
  have HW := Lib.hid hw1
  have HB := Lib.hid hB1
  have HK := Lib.hid hb1
  have HA := fun W (hW : Below w1.heap.size w1 W) => addr_any (A := some ⟨w.heap.size, 1, none⟩) (len := 16) (cap := 16) (xs := a.b) (w := W) (by omega) (by omega) hW.size ((range_rd hb1.adB h (by omega)).below hW)
  have HAA := Lib.hid HA
  have hl4 := ad4_len (xs := a.b) (by omega)
  have heq := fun W => run_eql_ad W h hl4
  rw [short_ad h] at heq
  have HE := Lib.hid heq
  have HSZ := Lib.hid (sizeAdL h)
  clear hw1 hB1 hb1 HA heq
  go_enter Try.func32, Try.ntmps32
  go_wp2_with fail
  rw [HW.out]
  refine wp_region_held_drew (S := fun W => Below w1.heap.size w1 W) (by kernel_rfl) (Below.refl _ _).drew (fun hHeld => ?_)
  refine wpAnyH_take (i := 0) (oi := ⟨some 3, _, _, _, _, _⟩) (v := .agg (adL a).toArray) rfl (by kernel_rfl) (by kernel_rfl) (by kernel_rfl) (fun _ _ _ h => h) (yieldsIf_load_mid (by rfl) 26 _ rfl w.heap.size 0 rfl (adL a) _ (fun W hW => (HK.out.below HK.out.lt hW).range) Try.underlying26 rfl HSZ.out) hHeld ?_
  simp only [Act.put, List.setIfInBounds_toArray, List.set_cons_zero, List.set_cons_succ]
  refine wpAnyH_take (i := 1) (oi := ⟨some 4, _, _, _, _, _⟩) (v := .pointer (some ⟨w.heap.size, 1, none⟩)) rfl (by kernel_rfl) (by kernel_rfl) (by kernel_rfl) (fun _ _ _ h => h) (Or.inl ⟨by rfl, fun _ _ => by go_simp⟩) hHeld ?_
  simp only [Act.put, List.setIfInBounds_toArray, List.set_cons_zero, List.set_cons_succ]
  refine wpAnyH_take (i := 2) (oi := ⟨some 5, _, _, _, _, _⟩) (v := .slice (some ⟨w.heap.size, 1, none⟩) 16 16) rfl (by kernel_rfl) (by kernel_rfl) (by kernel_rfl) (fun _ _ _ h => h) (Or.inl ⟨by rfl, fun _ _ => by go_simp⟩) hHeld ?_
  simp only [Act.put, List.setIfInBounds_toArray, List.set_cons_zero, List.set_cons_succ]
  refine wpAnyH_ready (rs := [3]) (by kernel_rfl) (by simp) (AllReadyH.cons (o := ⟨some 6, _, _, _, _, _⟩) rfl (fun K hK => ?_) AllReadyH.nil)
  go_simp
  refine (HAA.out _ hHeld).mono ?_
  rintro e w2 ⟨rfl, hb2⟩
  refine hK.out _ _ (hHeld.trans (hb2.mono hHeld.size)) (fun hHeld => ?_)
  clear hK K hb2
  refine wpAnyH_take (i := 4) (oi := ⟨some 7, _, _, _, _, _⟩) (v := .bool (shortB a)) rfl (by kernel_rfl) (by kernel_rfl) (by kernel_rfl) (fun _ _ _ h => h) (yields_eql (by rfl) 26 _ _ _ rfl (adL a).toArray (adL (ad4 a.b)).toArray (by rfl) (by rfl) guard_ad (shortB a) HE.out) hHeld ?_
  simp only [Act.put, List.setIfInBounds_toArray, List.set_cons_zero, List.set_cons_succ]
  refine wpAnyH_take (i := 5) (oi := ⟨some 2, _, _, _, _, _⟩) (v := .bool (shortB a)) rfl (by kernel_rfl) (by kernel_rfl) (by kernel_rfl) (fun _ _ _ h => h) (Or.inl ⟨by rfl, fun _ _ => by go_simp⟩) hHeld ?_
  simp only [Act.put, List.setIfInBounds_toArray, List.set_cons_zero, List.set_cons_succ]
  refine wpAnyH_done (by kernel_rfl) ?_ _
  go_wp2_with fail
  go_ret
  exact ⟨rfl, HB.out.trans (hHeld.mono HB.out.size)⟩
end Go.Proofs.Ytkdliadigalgaaa
