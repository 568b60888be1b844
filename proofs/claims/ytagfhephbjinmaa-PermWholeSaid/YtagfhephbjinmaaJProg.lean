/-
  The program's Choice and All (stage 16), and the contracts that its laws ask of perm.
-/
import Derived.Test.YtagfhephbjinmaaJP2
import Derived.Deep.DeepCutAuto
namespace Go.Proofs.Ytagfhephbjinmaa
set_option maxRecDepth 100000
open Go.RowKit Go.Lib

set_option maxHeartbeats 2000000 in
theorem pchoice_any (a b p i : Nat) (hp : SizeN p) (ha : a < p) (hb : b < p) (hi : i ≤ 2147483648) (w : World) :
    Calls Try.prog 19 #[.int .i64 (a : Int), .int .i64 (b : Int), .int .i64 (p : Int), .int .i64 (i : Int)] w fun e w' => e = .returned (.int .i64 (chN a b p i : Nat)) ∧ w = w' := by
  have HF := Lib.hid (fun W => fits_yes p hp W)
  have hp2 := hp.two
  have hpm := hp.most
  have hm : i * b ≤ 2147483648 * 65537 := Nat.mul_le_mul hi (by omega)
  have hsq : (i : Int) * (b : Int) = ((i * b : Nat) : Int) := by rw [Int.natCast_mul]
  have HC : Hid (chN a b p i = (a + i * b) % p) := Lib.hid rfl
  obtain ⟨t, ht⟩ : ∃ t, i * b = t := ⟨_, rfl⟩
  rw [ht] at hm hsq HC
  have hmn : ((a : Int) + (t : Int)) % (p : Int) = (((a + t) % p : Nat) : Int) := by rw [Int.natCast_emod, Int.natCast_add]
  have hq : (a + t) % p < p := Nat.mod_lt _ (by omega)
  obtain ⟨r, hr⟩ : ∃ r, (a + t) % p = r := ⟨_, rfl⟩
  rw [hr] at hmn HC hq
  rw [HC.out]
  have HMN := Lib.hid hmn
  clear hp ht hr HC hmn
  go_enter Try.func19, Try.ntmps19
  go_wp2_with (with_reducible refine (HF.out w).mono ?_; rintro e w' ⟨rfl, rfl⟩)
  go_ret
  refine ⟨?_, rfl⟩
  show Ending.returned (.int .i64 (((a : Int) + (t : Int)) % (p : Int))) = _
  rw [HMN.out]
/-- The first k choices are laid, behind them noughts. -/
def laidZ (a b p k : Nat) : List Int := upZ a b p k ++ List.replicate (p - k) 0
theorem laidZ_zero (a b p : Nat) : laidZ a b p 0 = List.replicate p 0 := by simp [laidZ, upZ]
theorem laidZ_all (a b p : Nat) : laidZ a b p p = allZ a b p := by simp [laidZ, upZ_all]
theorem laidZ_get {a b p k : Nat} (h : k < p) : (laidZ a b p k)[k]? = some 0 := by
  unfold laidZ
  rw [List.getElem?_append_right (by rw [upZ_len]; exact Nat.le_refl _), upZ_len, Nat.sub_self, List.getElem?_replicate, if_pos (by omega)]
theorem laidZ_set {a b p k : Nat} (h : k < p) : (laidZ a b p k).set k ((chN a b p k : Nat) : Int) = laidZ a b p (k + 1) := by
  unfold laidZ
  rw [upZ_succ, List.set_append, if_neg (by rw [upZ_len]; omega), upZ_len, Nat.sub_self, show p - k = (p - (k + 1)) + 1 by omega, List.replicate_succ, List.set_cons_zero, List.append_assoc]
  rfl
theorem size_intP : (Try.prog.info? 3).map (·.size) = some 1 := by kernel_rfl
set_option maxHeartbeats 8000000 in
theorem ppall_any (key : List UInt8) (hk : key.length = 16) (s : ByteArray) (hs : s.size ≤ 1000) (p : Nat) (hp : SizeN p) (w : World) :
    Calls Try.prog 17 #[keyC key, .string s, .int .i64 (p : Int)] w fun e W' => ∃ v, e = .returned v ∧ OwnG eZ W' w.heap.size v (allZ (offN key s.data.toList p) (skN key s.data.toList p) p) ∧ Below w.heap.size w W' := by
  have hp2 := hp.two
  have hpm := hp.most
  obtain ⟨C0, hC0⟩ : ∃ C, (key.map v8).toArray = C := ⟨_, rfl⟩
  obtain ⟨Y, hY⟩ : ∃ Y, w.alloc (.cells C0 28) = Y := ⟨_, rfl⟩
  have HK0 := Lib.hid (show Blk Y 28 w.heap.size (key.map v8) by rw [← hY, ← hC0]; exact Blk_10.new w _ _)
  have HB0 := Lib.hid (show Below w.heap.size w Y by rw [← hY]; exact (Below.refl w.heap.size w).alloc (Nat.le_refl _) _)
  have HY := Lib.hid hY
  have HKE : Hid (keyC key = .agg C0) := Lib.hid (by rw [← hC0]; rfl)
  rw [HKE.out]
  have HKL := Lib.hid hk
  have HF := Lib.hid (fun W => fits_yes p hp W)
  have HOF : Hid (∀ W : World, Calls Try.prog 14 #[.agg (key.map v8).toArray, .string s, .int .i64 (p : Int)] W fun e w' => e = .returned (.tuple #[.int .i64 (offN key s.data.toList p : Nat), .int .i64 (skN key s.data.toList p : Nat)]) ∧ Below W.heap.size W w') := Lib.hid (fun W => ppof_any key hk s hs p hp W)
  have ho := offN_lt hp key s.data.toList
  have hsk := skN_lt hp key s.data.toList
  obtain ⟨a, ha⟩ : ∃ a, offN key s.data.toList p = a := ⟨_, rfl⟩
  obtain ⟨b, hb⟩ : ∃ b, skN key s.data.toList p = b := ⟨_, rfl⟩
  rw [ha, hb] at HOF
  rw [ha] at ho
  rw [hb] at hsk
  rw [ha, hb]
  have HCH := Lib.hid (fun (i : Nat) (hi : i ≤ 2147483648) (W : World) => pchoice_any a b p i hp ho hsk.2 hi W)
  have HLT := Lib.hid (fun i => chN_lt hp2 a b i)
  clear hY hC0 hk ha hb hs hp ho hsk
  go_enter Try.func17, Try.ntmps17
  go_upto_region 1 with (fail)
  rw [HY.out]
  go_upto_region 4 with (first
    | (with_reducible refine (HF.out Y).mono ?_; rintro e w' ⟨rfl, rfl⟩)
    | ((with_reducible show wpList _ _ _ (⟨some 15, _, _, _, _, _⟩ :: _) _ _); refine wpList_loadM (op := ⟨some 15, _, _, _, _, _⟩) 28 _ rfl (by rfl) w.heap.size 0 (by rfl) (key.map v8) (Blk_10.range HK0.out) _ Try.underlying28 rfl (keyp_size HKL.out) ?_)
    | (with_reducible refine (HOF.out Y).mono ?_; rintro e w1 ⟨rfl, hb1⟩; have HB1 := Lib.hid (HB0.out.trans (hb1.mono HB0.out.size)); clear hb1))
  obtain ⟨w2, hrun, hown2, hg2⟩ := run_makeG eZ 0 rfl p (by omega) w.heap.size w1 HB1.out.size
  rw [← laidZ_zero a b p] at hown2
  have HO2 := Lib.hid hown2
  have HB2 := Lib.hid (HB1.out.grown hg2 HB1.out.size (fun k hk => by cases hk))
  obtain ⟨g, hg⟩ : ∃ g, w1.heap.size = g := ⟨_, rfl⟩
  have hrun2 : (Instr.makeSlice 32 (.int .i64 (p : Int)) (.int .i64 (p : Int))).run Try.prog w1 = .ok (.slice (some ⟨w1.heap.size, 0, none⟩) p p) w2 := hrun
  have HGB := Lib.hid (show w.heap.size ≤ g by rw [← hg]; exact HB1.out.size)
  rw [hg] at HO2 hrun2
  clear hrun hown2 hg2
  go_wp2_with fail
  clear hrun2
  go_loopw [25] (fun i wr => ∃ k : Nat, k ≤ p ∧ i = .int .i64 (k : Int) ∧ OwnG eZ wr w.heap.size (.slice (some ⟨g, 0, none⟩) p p) (laidZ a b p k) ∧ Below w.heap.size w wr)
    (fun i _ => p - (intOf i).toNat)
  case atStart => exact ⟨0, Nat.zero_le _, rfl, HO2.out, HB2.out⟩
  case round =>
    clear HO2 HB2
    obtain ⟨k, hk, rfl, hown, hbel⟩ := hrel
    by_cases hlt : k < p
    · have h1 : (k : Int) < (p : Int) := by omega
      have h0 : (0 : Int) ≤ (k : Int) := by omega
      have HCK := Lib.hid (HCH.out k (by omega))
      have HGT := Lib.hid (laidZ_get (a := a) (b := b) hlt)
      have HST := Lib.hid (laidZ_set (a := a) (b := b) hlt)
      obtain ⟨x, hx⟩ : ∃ x, chN a b p k = x := ⟨_, rfl⟩
      rw [hx] at HCK HST
      have HO := Lib.hid hown
      have HBE := Lib.hid hbel
      have HKQ : Hid (k = k * eZ.k + 0) := Lib.hid (by show k = k * 1 + 0; omega)
      clear hx hown hbel
      go_wp2_with (first
        | (with_reducible refine (HCK.out wr).mono ?_; rintro e w' ⟨rfl, rfl⟩)
        | ((with_reducible show wpList _ _ _ (⟨none, .store 3 (.tmp 35) _, _, _, _, _⟩ :: _) _ _); refine wpList_storeG eZ rfl 3 (.tmp 35) _ rfl g k 0 k HKQ.out (by rfl) (.int .i64 (x : Int)) (by rfl) _ p p w.heap.size HO.out 0 (x : Int) HGT.out (by decide) rfl size_intP rfl rfl ?_; intro w6 ho6 hg6; rw [HST.out] at ho6; have HO6 := Lib.hid ho6; have HB6 := Lib.hid (below_gb HBE.out hg6 HGB.out HBE.out.size); clear ho6 hg6))
      refine ⟨⟨k + 1, hlt, by go_num, HO6.out, HB6.out⟩, ?_⟩
      simp [intOf]
      omega
    · obtain rfl : k = p := by omega
      have h1 : ¬ (k : Int) < (k : Int) := by omega
      have HO := Lib.hid hown
      have HBE := Lib.hid hbel
      clear hown hbel hlt hk
      go_wp2_with fail
      go_ret
      refine ⟨_, rfl, ?_, HBE.out⟩
      rw [← laidZ_all]
      exact HO.out
theorem permC : PermC where
  prime z h1 h2 w := (pprime_any z h1 h2 w).mono fun _ _ ⟨h, h'⟩ => ⟨h, by rw [← h']; exact Below.refl _ _⟩
  next z h1 h2 w := (pnext_any z h1 h2 w).mono fun _ _ ⟨h, h'⟩ => ⟨h, by rw [← h']; exact Below.refl _ _⟩
  of key hk s hs p hp w := ppof_any key hk s hs p hp w
  choice a b p i hp ha _ hb hi w := (pchoice_any a b p i hp ha hb hi w).mono fun _ _ ⟨h, h'⟩ => ⟨h, by rw [← h']; exact Below.refl _ _⟩
  all key hk s hs p hp w := ppall_any key hk s hs p hp w
end Go.Proofs.Ytagfhephbjinmaa
