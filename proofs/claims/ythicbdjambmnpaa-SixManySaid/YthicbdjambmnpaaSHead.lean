/-
  The contracts of six's header and passed.
-/
import Derived.Test.YthicbdjambmnpaaSAddr
import Derived.Test.YthicbdjambmnpaaSSame
import Derived.Lib.QuoteBits
import Derived.WalkMore
namespace Go.Proofs.Ythicbdjambmnpaa
open Go.RowKit Go.Lib

theorem zeroF : #[Value.int .i64 0, .int .i64 0, .int .i64 0, .bool false, .int .i64 0, .int .i64 0, .bool false, .int .u8 0, .int .u8 0, .int .u8 0, .int .u8 0, .int .u8 0, .int .u8 0, .int .u8 0, .int .u8 0, .int .u8 0, .int .u8 0, .int .u8 0, .int .u8 0, .int .u8 0, .int .u8 0, .int .u8 0, .int .u8 0, .bool false, .int .u8 0, .int .u8 0, .int .u8 0, .int .u8 0, .int .u8 0, .int .u8 0, .int .u8 0, .int .u8 0, .int .u8 0, .int .u8 0, .int .u8 0, .int .u8 0, .int .u8 0, .int .u8 0, .int .u8 0, .int .u8 0] = (frL Fr.zero).toArray := by rfl
theorem bit_hi (w : Nat) (h : w < 65536) (i : Nat) (hi : 16 ≤ i) : w.testBit i = false := Nat.testBit_lt_two_pow (Nat.lt_of_lt_of_le h (show 65536 ≤ 2 ^ i from (show 65536 = 2 ^ 16 by decide) ▸ Nat.pow_le_pow_right (by decide) hi))
theorem mask_six (w : Nat) (h : w < 65536) : (w &&& 18446744073709551609) = 0 ↔ w / 8 = 0 ∧ w % 2 = 0 := by
  have hb : ∀ i, (w &&& 18446744073709551609).testBit i = (w.testBit i && (decide (i < 64) && !(6 : Nat).testBit i)) := fun i => by
    rw [Nat.testBit_and, show (18446744073709551609 : Nat) = 2 ^ 64 - (6 + 1) by decide, Nat.testBit_two_pow_sub_succ (by decide)]
  constructor
  · intro h0
    have hz : ∀ i, (w.testBit i && (decide (i < 64) && !(6 : Nat).testBit i)) = false := fun i => by rw [← hb, h0, Nat.zero_testBit]
    refine ⟨?_, ?_⟩
    · apply Nat.eq_of_testBit_eq
      intro i
      rw [Nat.zero_testBit, show (8 : Nat) = 2 ^ 3 from rfl, Nat.testBit_div_two_pow]
      by_cases hi : i + 3 < 64
      · have := hz (i + 3)
        have h6 : (6 : Nat).testBit (i + 3) = false := Nat.testBit_lt_two_pow (Nat.lt_of_lt_of_le (show 6 < 2 ^ 3 by decide) (Nat.pow_le_pow_right (by decide) (by omega)))
        rw [h6, decide_eq_true hi] at this
        simpa using this
      · exact bit_hi w h _ (by omega)
    · have := hz 0
      rw [Nat.testBit_zero] at this
      simp at this
      omega
  · rintro ⟨h1, h2⟩
    have : w = 0 ∨ w = 2 ∨ w = 4 ∨ w = 6 := by omega
    rcases this with rfl | rfl | rfl | rfl <;> decide
theorem not_six (w : Nat) (h : w < 65536) : bits .andNot .i64 (w : Int) 6 = ((w &&& 18446744073709551609 : Nat) : Int) := by
  have hx : w &&& 18446744073709551609 ≤ w := Nat.and_le_left
  show IntKind.i64.wrap ((BitVec.ofInt 64 (w : Int) &&& ~~~BitVec.ofInt 64 ((6 : Nat) : Int)).toNat : Int) = _
  rw [BitVec.toNat_and, BitVec.toNat_not, ofInt_u64 w (by omega), ofInt_u64 6 (by omega)]
  have e : 2 ^ 64 - 1 - 6 = 18446744073709551609 := by decide
  rw [e]
  exact wrap_i64_small _ (by omega)
theorem frag_bits (w : Nat) (h : w < 65536) : (bits .andNot .i64 (w : Int) 6 != 0) = fragB 44 w := by
  rw [not_six w h]
  have := mask_six w h
  apply Bool.eq_iff_iff.2
  simp [fragB]
  omega
theorem hd0_eq (xs : List UInt8) : hdAt xs (wk0 xs) = ⟨40, (totN xs : Nat), (batN xs 7 : Nat), false, 0, (batN xs 6 : Nat), adOf xs 8, adOf xs 24⟩ := rfl

set_option maxRecDepth 100000 in
set_option maxHeartbeats 4000000 in
theorem header_any (A : Option Addr) (len cap : Nat) (xs : List UInt8) (h40 : 40 ≤ len) (hlen : len ≤ 1000000) (hcap : len ≤ cap) (hcap2 : cap ≤ maxLen) (w : World) (hI : Rd w w.heap.size A len xs) :
    Calls Try.prog 20 #[.slice A len cap] w fun e w' => e = .returned (frC (hdAt xs (wk0 xs))) ∧ Below w.heap.size w w' := by
  have HL := Lib.hid hI.len
  have hOK := hdAt_ok xs (wk0 xs) (by rw [HL.out]; exact h40)
  obtain ⟨Z, hZ⟩ : ∃ Z : World, w.alloc (.cells (frL Fr.zero).toArray 28) = Z := ⟨_, rfl⟩
  have hR0 : Blk Z 28 w.heap.size (frL Fr.zero) := by rw [← hZ]; exact Blk.new w _ _
  have hB0 : Below w.heap.size w Z := by rw [← hZ]; exact (Below.refl w.heap.size w).alloc (Nat.le_refl _) _
  rw [← zeroF] at hZ
  have HZ := Lib.hid hZ
  have HI1 := Lib.hid (hI.below hB0)
  have HR1 := Lib.hid hR0
  have HB1 := Lib.hid hB0
  clear hZ hI hR0 hB0
  obtain ⟨b, off, rfl, _⟩ := HI1.out.addr (by omega)
  have hBU := built_at 40 (totN xs : Nat) (batN xs 7 : Nat) (batN xs 6 : Nat) (adOf xs 8) (adOf xs 24) hOK.s hOK.d
  rw [← hd0_eq] at hBU
  have hRd := fun W (hW : Below w.heap.size Z W) => (HI1.out.below hW).more (Nat.le_trans HB1.out.size hW.size)
  have HT := Lib.hid (fun W (hW : Below w.heap.size Z W) => total_any (cap := cap) (by omega) hcap hcap2 h40 (hRd W hW))
  have HA8 := Lib.hid (fun W (hW : Below w.heap.size Z W) => addr_any (A := cutA (some ⟨b, off, none⟩) cap 8) (len := len - 8) (cap := cap - 8) (xs := xs.drop 8) (by omega) (Nat.le_refl _) ((hRd W hW).from (l := 8) (by omega) cap hcap))
  have HA24 := Lib.hid (fun W (hW : Below w.heap.size Z W) => addr_any (A := cutA (some ⟨b, off, none⟩) cap 24) (len := len - 24) (cap := cap - 24) (xs := xs.drop 24) (by omega) (Nat.le_refl _) ((hRd W hW).from (l := 24) (by omega) cap hcap))
  have C7 := Lib.hid (fun W (hW : Below w.heap.size Z W) => (hRd W hW).cellD (k := 7) (by omega))
  have C6 := Lib.hid (fun W (hW : Below w.heap.size Z W) => (hRd W hW).cellD (k := 6) (by omega))
  have hc8 : ∀ W, (Instr.slice 22 (.slice (some ⟨b, off, none⟩) len cap) (some (.int .i64 8)) none none).run Try.prog W = .ok (.slice (cutA (some ⟨b, off, none⟩) cap 8) (len - 8) (cap - 8)) W := fun W => run_from8 _ len cap 8 (by omega) W
  have hc24 : ∀ W, (Instr.slice 22 (.slice (some ⟨b, off, none⟩) len cap) (some (.int .i64 24)) none none).run Try.prog W = .ok (.slice (cutA (some ⟨b, off, none⟩) cap 24) (len - 24) (cap - 24)) W := fun W => run_from8 _ len cap 24 (by omega) W
  have l6 : (6 : Int) < (len : Int) := by omega
  have l7 : (7 : Int) < (len : Int) := by omega
  have x6l := batN_lt xs 6
  have x7l := batN_lt xs 7
  have e8 : ad16 (xs.drop 8) = adOf xs 8 := rfl
  have e24 : ad16 (xs.drop 24) = adOf xs 24 := rfl
  rw [e8] at HA8
  rw [e24] at HA24
  generalize hdAt xs (wk0 xs) = f at *
  generalize adOf xs 8 = a8 at *
  generalize adOf xs 24 = a24 at *
  generalize totN xs = T at *
  generalize batN xs 6 = x6 at *
  generalize batN xs 7 = x7 at *
  have w6 : IntKind.i64.wrap (x6 : Int) = (x6 : Int) := by rw [IntKind.wrap_i64]; omega
  have w7 : IntKind.i64.wrap (x7 : Int) = (x7 : Int) := by rw [IntKind.wrap_i64]; omega
  have HBU := Lib.hid hBU
  have HOK := Lib.hid hOK
  clear hRd e8 e24 hBU hOK
  go_enter Try.func20, Try.ntmps20
  go_wp2_with fail
  rw [HZ.out]
  refine wp_region_held_drew (S := fun W => Below w.heap.size Z W) (by kernel_rfl) (Below.refl _ _).drew (fun hHeld => ?_)
  refine wpAnyH_take (i := 0) (oi := ⟨some 3, _, _, _, _, _⟩) (v := .slice (some ⟨b, off, none⟩) len cap) rfl (by kernel_rfl) (by kernel_rfl) (by kernel_rfl) (fun _ _ _ h => h) (Or.inl ⟨by rfl, fun _ _ => by go_simp⟩) hHeld ?_
  simp only [Act.put, List.setIfInBounds_toArray, List.set_cons_zero, List.set_cons_succ]
  refine wpAnyH_take (i := 2) (oi := ⟨some 5, _, _, _, _, _⟩) (v := .slice (some ⟨b, off, none⟩) len cap) rfl (by kernel_rfl) (by kernel_rfl) (by kernel_rfl) (fun _ _ _ h => h) (Or.inl ⟨by rfl, fun _ _ => by go_simp⟩) hHeld ?_
  simp only [Act.put, List.setIfInBounds_toArray, List.set_cons_zero, List.set_cons_succ]
  refine wpAnyH_take (i := 3) (oi := ⟨some 6, _, _, _, _, _⟩) (v := .pointer (some ⟨b, off + 7, none⟩)) rfl (by kernel_rfl) (by kernel_rfl) (by kernel_rfl) (fun _ _ _ h => h) (Or.inl ⟨by rfl, fun _ _ => by go_simp⟩) hHeld ?_
  simp only [Act.put, List.setIfInBounds_toArray, List.set_cons_zero, List.set_cons_succ]
  refine wpAnyH_take (i := 4) (oi := ⟨some 7, _, _, _, _, _⟩) (v := .int .u8 (x7 : Int)) rfl (by kernel_rfl) (by kernel_rfl) (by kernel_rfl) (fun _ _ _ h => h) (Or.inl ⟨by rfl, fun W hW => by have hc := C7.out W hW; go_simp⟩) hHeld ?_
  simp only [Act.put, List.setIfInBounds_toArray, List.set_cons_zero, List.set_cons_succ]
  refine wpAnyH_take (i := 5) (oi := ⟨some 8, _, _, _, _, _⟩) (v := .int .i64 (x7 : Int)) rfl (by kernel_rfl) (by kernel_rfl) (by kernel_rfl) (fun _ _ _ h => h) (Or.inl ⟨by rfl, fun _ _ => by go_simp⟩) hHeld ?_
  simp only [Act.put, List.setIfInBounds_toArray, List.set_cons_zero, List.set_cons_succ]
  refine wpAnyH_take (i := 6) (oi := ⟨some 9, _, _, _, _, _⟩) (v := .slice (some ⟨b, off, none⟩) len cap) rfl (by kernel_rfl) (by kernel_rfl) (by kernel_rfl) (fun _ _ _ h => h) (Or.inl ⟨by rfl, fun _ _ => by go_simp⟩) hHeld ?_
  simp only [Act.put, List.setIfInBounds_toArray, List.set_cons_zero, List.set_cons_succ]
  refine wpAnyH_take (i := 7) (oi := ⟨some 10, _, _, _, _, _⟩) (v := .pointer (some ⟨b, off + 6, none⟩)) rfl (by kernel_rfl) (by kernel_rfl) (by kernel_rfl) (fun _ _ _ h => h) (Or.inl ⟨by rfl, fun _ _ => by go_simp⟩) hHeld ?_
  simp only [Act.put, List.setIfInBounds_toArray, List.set_cons_zero, List.set_cons_succ]
  refine wpAnyH_take (i := 8) (oi := ⟨some 11, _, _, _, _, _⟩) (v := .int .u8 (x6 : Int)) rfl (by kernel_rfl) (by kernel_rfl) (by kernel_rfl) (fun _ _ _ h => h) (Or.inl ⟨by rfl, fun W hW => by have hc := C6.out W hW; go_simp⟩) hHeld ?_
  simp only [Act.put, List.setIfInBounds_toArray, List.set_cons_zero, List.set_cons_succ]
  refine wpAnyH_take (i := 9) (oi := ⟨some 12, _, _, _, _, _⟩) (v := .int .i64 (x6 : Int)) rfl (by kernel_rfl) (by kernel_rfl) (by kernel_rfl) (fun _ _ _ h => h) (Or.inl ⟨by rfl, fun _ _ => by go_simp⟩) hHeld ?_
  simp only [Act.put, List.setIfInBounds_toArray, List.set_cons_zero, List.set_cons_succ]
  refine wpAnyH_take (i := 10) (oi := ⟨some 13, _, _, _, _, _⟩) (v := .slice (some ⟨b, off, none⟩) len cap) rfl (by kernel_rfl) (by kernel_rfl) (by kernel_rfl) (fun _ _ _ h => h) (Or.inl ⟨by rfl, fun _ _ => by go_simp⟩) hHeld ?_
  simp only [Act.put, List.setIfInBounds_toArray, List.set_cons_zero, List.set_cons_succ]
  refine wpAnyH_take (i := 11) (oi := ⟨some 14, _, _, _, _, _⟩) (v := .slice (cutA (some ⟨b, off, none⟩) cap 8) (len - 8) (cap - 8)) rfl (by kernel_rfl) (by kernel_rfl) (by kernel_rfl) (fun _ _ _ h => h) (Or.inl ⟨by rfl, fun _ _ => by go_simp⟩) hHeld ?_
  simp only [Act.put, List.setIfInBounds_toArray, List.set_cons_zero, List.set_cons_succ]
  refine wpAnyH_take (i := 13) (oi := ⟨some 16, _, _, _, _, _⟩) (v := .slice (some ⟨b, off, none⟩) len cap) rfl (by kernel_rfl) (by kernel_rfl) (by kernel_rfl) (fun _ _ _ h => h) (Or.inl ⟨by rfl, fun _ _ => by go_simp⟩) hHeld ?_
  simp only [Act.put, List.setIfInBounds_toArray, List.set_cons_zero, List.set_cons_succ]
  refine wpAnyH_take (i := 14) (oi := ⟨some 17, _, _, _, _, _⟩) (v := .slice (cutA (some ⟨b, off, none⟩) cap 24) (len - 24) (cap - 24)) rfl (by kernel_rfl) (by kernel_rfl) (by kernel_rfl) (fun _ _ _ h => h) (Or.inl ⟨by rfl, fun _ _ => by go_simp⟩) hHeld ?_
  simp only [Act.put, List.setIfInBounds_toArray, List.set_cons_zero, List.set_cons_succ]
  have HR2 : Hid (Blk Z.drew 28 w.heap.size (frL Fr.zero)) := Lib.hid HR1.out
  refine wpAnyH_ready (rs := [1]) (by kernel_rfl) (by simp) (AllReadyH.cons (o := ⟨some 4, _, _, _, _, _⟩) rfl (fun K hK => ?_) AllReadyH.nil)
  go_simp
  refine (HT.out _ hHeld).mono ?_
  rintro e w3 ⟨rfl, hb3⟩
  have HR3 := Lib.hid (HR2.out.below HR2.out.lt hb3)
  refine hK.out _ _ (hHeld.trans (hb3.mono (Nat.le_trans HB1.out.size hHeld.size))) (fun hHeld => ?_)
  clear hK K hb3 HR2
  refine wpAnyH_ready (rs := [12]) (by kernel_rfl) (by simp) (AllReadyH.cons (o := ⟨some 15, _, _, _, _, _⟩) rfl (fun K hK => ?_) AllReadyH.nil)
  go_simp
  refine (HA8.out _ hHeld).mono ?_
  rintro e w4 ⟨rfl, hb4⟩
  have HR4 := Lib.hid (HR3.out.below HR3.out.lt hb4)
  refine hK.out _ _ (hHeld.trans (hb4.mono (Nat.le_trans HB1.out.size hHeld.size))) (fun hHeld => ?_)
  clear hK K hb4 HR3
  refine wpAnyH_ready (rs := [15]) (by kernel_rfl) (by simp) (AllReadyH.cons (o := ⟨some 18, _, _, _, _, _⟩) rfl (fun K hK => ?_) AllReadyH.nil)
  go_simp
  refine (HA24.out _ hHeld).mono ?_
  rintro e w5 ⟨rfl, hb5⟩
  have HR5 := Lib.hid (HR4.out.below HR4.out.lt hb5)
  refine hK.out _ _ (hHeld.trans (hb5.mono (Nat.le_trans HB1.out.size hHeld.size))) (fun hHeld => ?_)
  clear hK K hb5 HR4
  refine wpAnyH_take (i := 16) (oi := ⟨some 19, _, _, _, _, _⟩) (v := .agg (frL f).toArray) rfl (by kernel_rfl) (by kernel_rfl) (by kernel_rfl) (fun _ _ _ h => h) (yields_build (by rfl) 28 _ rfl _ (by kernel_rfl) _ HBU.out) hHeld ?_
  simp only [Act.put, List.setIfInBounds_toArray, List.set_cons_zero, List.set_cons_succ]
  refine wpAnyH_ready (rs := [17]) (by kernel_rfl) (by simp) (AllReadyH.cons (o := ⟨none, _, _, _, _, _⟩) rfl (fun K hK => ?_) AllReadyH.nil)
  refine step_storeR rfl 28 _ _ rfl w.heap.size (by rfl) (frL f) (by rfl) _ HR5.out (by rw [frL_len HOK.out]; rfl) (sizeFrL HOK.out) (frL_one _) ?_
  have hR9 := Lib.hid (HR5.out.setRow_ (frL f))
  refine hK.out _ _ (below_setRow hHeld (Nat.le_refl _) _) (fun hHeld => ?_)
  clear hK K
  refine wpAnyH_done (by kernel_rfl) ?_ _
  go_wp2_with fail
  refine bodyPost_ret (v := frC f) (results_fr1 rfl _ _ w.heap.size (by rfl) _ HOK.out hR9.out) rfl ?_
  exact ⟨rfl, HB1.out.trans hHeld⟩
end Go.Proofs.Ythicbdjambmnpaa
