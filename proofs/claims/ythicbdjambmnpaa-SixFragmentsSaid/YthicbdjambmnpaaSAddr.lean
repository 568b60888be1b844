/-
  The contracts of six's addr and fault.
-/
import Derived.Test.YthicbdjambmnpaaSSmall
namespace Go.Proofs.Ythicbdjambmnpaa
open Go.RowKit Go.Lib

theorem zeroP : #[Value.bool false, .int .u8 0, .int .u8 0, .int .u8 0, .int .u8 0, .int .u8 0, .int .u8 0, .int .u8 0, .int .u8 0, .int .u8 0, .int .u8 0, .int .u8 0, .int .u8 0, .int .u8 0, .int .u8 0, .int .u8 0, .int .u8 0] = (adL Ad.zero).toArray := by rfl
/-- An address of IPv6, all of its bytes 0. -/
def Ad.six0 : Ad := ⟨true, z16⟩
theorem ad16_splice {xs : List UInt8} (h : 16 ≤ xs.length) : splice (adL Ad.six0) 1 ((xs.take 16).map v8) = adL (ad16 xs) := by
  have hl : (xs.take 16).length = 16 := by rw [List.length_take, Nat.min_eq_left h]
  have e : ad16 xs = ⟨true, xs.take 16⟩ := rfl
  rw [e]
  generalize xs.take 16 = ys at *
  obtain ⟨a0, a1, a2, a3, a4, a5, a6, a7, a8, a9, a10, a11, a12, a13, a14, a15, rfl⟩ := sixteen hl
  rfl

set_option maxRecDepth 100000 in
set_option maxHeartbeats 2000000 in
theorem addr_any {A : Option Addr} {len : Nat} {cap : Nat} {xs : List UInt8} (h4 : 16 ≤ len) {w : World} {B : Nat} (hBw : B ≤ w.heap.size) (hI : Rd w B A len xs) :
    Calls Try.prog 30 #[.slice A len cap] w fun e w' => e = .returned (adC (ad16 xs)) ∧ Below w.heap.size w w' := by
  have hxl : 16 ≤ xs.length := by rw [hI.len]; exact h4
  have HL := Lib.hid (ad16_len hxl)
  have HS := Lib.hid (ad16_splice hxl)
  obtain ⟨Z, hZ⟩ : ∃ Z : World, (w.alloc (.cells (adL Ad.zero).toArray 26)).alloc (.cells (adL Ad.zero).toArray 26) = Z := ⟨_, rfl⟩
  have b1 : Blk Z 26 w.heap.size (adL Ad.zero) := by rw [← hZ]; exact (Blk.new w _ _).alloc _
  have b2 : Blk Z 26 (w.heap.size + 1) (adL Ad.zero) := by
    rw [← hZ]
    have := Blk.new (w.alloc (.cells (adL Ad.zero).toArray 26)) 26 (adL Ad.zero)
    simpa using this
  have hB0 : Below w.heap.size w Z := by rw [← hZ]; exact ((Below.refl w.heap.size w).alloc (Nat.le_refl _) _).alloc (by simp) _
  have hzs : Z.heap.size = w.heap.size + 2 := by rw [← hZ]; simp
  have b3 := b2.setRow_ (adL Ad.six0)
  have b4 := b1.setRow_far (b := w.heap.size + 1) (by omega) (adL Ad.six0).toArray
  have b5 := below_setRow hB0 (Nat.le_succ w.heap.size) (adL Ad.six0).toArray
  have hr := ((hI.below (b5.mono hBw)).take (k := 16) h4)
  obtain ⟨Y, hY⟩ : ∃ Y, Z.setRow (w.heap.size + 1) (adL Ad.six0).toArray = Y := ⟨_, rfl⟩
  rw [hY] at b3 b4 b5 hr
  obtain ⟨ad, rfl, hcs⟩ := hr.cells (by omega)
  have HC := Lib.hid hcs
  have H16 : Hid (((xs.take 16).map v8).length = 16) := Lib.hid (by rw [List.length_map, hr.len])
  have HMN : Hid (Nat.min len 16 = 16) := Lib.hid (Nat.min_eq_right h4)
  rw [← zeroP] at hZ
  have HZ := Lib.hid hZ
  have HY := Lib.hid hY
  have HB1 := Lib.hid b4
  have HB2 := Lib.hid b3
  have HB0 := Lib.hid b5
  have HBZ := Lib.hid b2
  clear hZ hY b1 b2 b3 b4 b5 hB0 hr hcs hzs
  go_enter Try.func30, Try.ntmps30
  go_wp2_with (first
    | ((with_reducible show wpList _ _ _ _ _ _); refine wpList_buildTo rfl 26 _ rfl (some 4) rfl (adL Ad.six0).toArray (by kernel_rfl) ?_)
    | ((with_reducible show wpList _ _ _ _ _ _); rw [HZ.out]; refine wpList_storeR rfl 26 (.tmp 3) (.tmp 4) rfl (w.heap.size + 1) (by rfl) (adL Ad.six0) (by rfl) _ HBZ.out rfl (sizeAdL rfl) (adL_one _) ?_; rw [HY.out])
    | ((with_reducible show wpList _ _ _ _ _ _); refine wpList_copy_splice rfl (.tmp 6) (.tmp 7) 22 22 rfl 5 Try.underlying22 size8 (some ⟨w.heap.size + 1, 1, none⟩) (some ad) 16 16 len cap (by rfl) (by rfl) (w.heap.size + 1) 1 (adL Ad.six0) 26 HB2.out ((xs.take 16).map v8) (by rw [H16.out]; exact HMN.out.symm) (fun h0 => ⟨rfl, ad, rfl, HC.out⟩) (by rw [H16.out]; decide) (oneCell8 _) (w.heap.size + 1) Y (Below.refl _ _) (Nat.le_refl _) ?_; intro w3 HG3 hB3; rw [H16.out]; rw [HS.out] at HG3; have L1 : Hid (Blk w3 26 (w.heap.size + 1) (adL (ad16 xs))) := HG3; have R1 := Lib.hid (HB1.out.below (Nat.lt_succ_self _) hB3); have B3 := Lib.hid (HB0.out.trans (hB3.mono (Nat.le_succ _))); clear HG3 hB3)
    | ((with_reducible show wpList _ _ _ _ _ _); refine wpList_load_mid rfl 26 (.tmp 3) rfl (w.heap.size + 1) 0 (by rfl) (adL (ad16 xs)) _ L1.out.range Try.underlying26 rfl (sizeAdL HL.out) ?_)
    | ((with_reducible show wpList _ _ _ _ _ _); refine wpList_storeR rfl 26 (.tmp 2) (.tmp 9) rfl w.heap.size (by rfl) (adL (ad16 xs)) (by rfl) _ R1.out (by rw [adL_len HL.out]; rfl) (sizeAdL HL.out) (adL_one _) ?_))
  refine bodyPost_ret (v := adC (ad16 xs)) (results_ad rfl _ _ w.heap.size (by rfl) _ HL.out (R1.out.setRow_ _)) rfl ?_
  exact ⟨rfl, below_setRow B3.out (Nat.le_refl _) _⟩

set_option maxRecDepth 100000 in
set_option maxHeartbeats 2000000 in
theorem fault_any (A : Option Addr) (len cap : Nat) (xs : List UInt8) (hlen : len ≤ 1000000) (hcap : len ≤ cap) (hcap2 : cap ≤ maxLen) (w : World) (hI : Rd w w.heap.size A len xs) :
    Calls Try.prog 19 #[.slice A len cap] w fun e w' => e = .returned (.int .i64 (faultN xs : Nat)) ∧ Below w.heap.size w w' := by
  have HL := Lib.hid hI.len
  by_cases h40 : 40 ≤ len
  · have h40' : ¬ (len : Int) < 40 := by omega
    have HT := Lib.hid (total_any (A := A) (by omega) hcap hcap2 h40 hI)
    have F1 := Lib.hid (fun (h : batN xs 0 / 16 ≠ 6) => fault_form (xs := xs) (by rw [HL.out]; exact h40) h)
    have F2 := Lib.hid (fun h1 (h3 : len < totN xs) => fault_more (xs := xs) (by rw [HL.out]; exact h40) h1 (by rw [HL.out]; exact h3))
    have F3 := Lib.hid (fun h1 (h3 : totN xs ≤ len) => fault_no (xs := xs) (by rw [HL.out]; exact h40) h1 (by rw [HL.out]; exact h3))
    obtain ⟨b, off, rfl, _⟩ := hI.addr (by omega)
    have c0 := hI.cellD (k := 0) (by omega)
    rw [Nat.add_zero] at c0
    have hx := batN_lt xs 0
    have htl := totN_lt xs
    generalize batN xs 0 = x at *
    generalize totN xs = T at *
    generalize faultN xs = F at *
    have hwx : IntKind.u8.wrap ((x : Int) / 16) = (x : Int) / 16 := by rw [IntKind.wrap_u8]; omega
    clear hI
    by_cases hv : x / 16 = 6
    · have v1 : ((x : Int) / 16 != 6) = false := by simp; omega
      have hv' := Lib.hid hv
      clear hv
      go_enter Try.func19, Try.ntmps19
      go_wp2_with fail
      refine HT.out.mono ?_
      rintro e w1 ⟨rfl, hb1⟩
      have HB1 := Lib.hid hb1
      clear hb1 c0
      by_cases h5 : len < T
      · have h5' : (len : Int) < (T : Int) := by omega
        have hF := F2.out hv'.out h5
        subst hF
        go_wp2_with fail
        go_ret
        exact ⟨rfl, HB1.out⟩
      · have h5' : ¬ (len : Int) < (T : Int) := by omega
        have hF := F3.out hv'.out (by omega)
        subst hF
        go_wp2_with fail
        go_ret
        exact ⟨rfl, HB1.out⟩
    · have v1 : ((x : Int) / 16 != 6) = true := by simp; omega
      have hF := F1.out hv
      subst hF
      clear hv
      go_enter Try.func19, Try.ntmps19
      go_wp2_with fail
      go_ret
      exact ⟨rfl, Below.refl _ _⟩
  · have h40' : (len : Int) < 40 := by omega
    have hF : faultN xs = 2 := fault_short (by rw [HL.out]; omega)
    rw [hF]
    clear hF
    go_enter Try.func19, Try.ntmps19
    go_wp2_with fail
    go_ret
    exact ⟨rfl, Below.refl _ _⟩
end Go.Proofs.Ythicbdjambmnpaa
