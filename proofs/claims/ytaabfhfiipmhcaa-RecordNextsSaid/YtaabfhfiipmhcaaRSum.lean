/-
  The sum of bytes: crc.More, crc.Of, and the reference's.
-/
import Derived.Test.YtaabfhfiipmhcaaRRow
import Derived.Test.YtaabfhfiipmhcaaVarMath
namespace Go.Proofs.Ytaabfhfiipmhcaa
open Go.RowKit Go.Lib

theorem xor_w (a b : Nat) (ha : a < 4294967296) (hb : b < 4294967296) : bits .xor .u32 (a : Int) (b : Int) = ((a ^^^ b : Nat) : Int) := u32_xor_nat a b ha hb
theorem not_w (a : Nat) (ha : a < 4294967296) : bits .xor .u32 IntKind.u32.max (a : Int) = ((a ^^^ 4294967295 : Nat) : Int) := by
  rw [show IntKind.u32.max = ((4294967295 : Nat) : Int) from rfl, u32_xor_nat _ a (by decide) ha, Nat.xor_comm]
theorem eight (u : Nat) : itr 4 (itr 4 u) = itr 8 u := (itr_add 4 4 u).symm

set_option maxRecDepth 100000 in
set_option maxHeartbeats 2000000 in
/-- crc.More -/
theorem more_any (s : Nat) (hs : s < 4294967296) (A : Option Addr) (len cap : Nat) (xs : List UInt8) (hlen : len ≤ 2000000) (w : World) {B : Nat} (hI : Rd w B A len xs) (hBw : B ≤ w.heap.size) :
    Calls Try.prog 39 #[.int .u32 (s : Int), .slice A len cap] w fun e w' => e = .returned (.int .u32 ((sumOn s xs : Nat) : Int)) ∧ Below w.heap.size w w' := by
  have HL := Lib.hid hI.len
  have hn0 := not_w s hs
  obtain ⟨u0, hu0⟩ : ∃ u, s ^^^ 4294967295 = u := ⟨_, rfl⟩
  have hu0l : u0 < 4294967296 := by rw [← hu0]; exact xor_lt32 hs (by decide)
  rw [hu0] at hn0
  have hR : sumOn s xs = crcs u0 xs ^^^ 4294967295 := by rw [← hu0]; rfl
  clear hu0
  rw [hR]
  clear hR
  have hRl := crcs_lt xs hu0l
  obtain ⟨R, hR⟩ : ∃ R, crcs u0 xs = R := ⟨_, rfl⟩
  rw [hR] at hRl ⊢
  have HR := Lib.hid hR
  clear hR
  go_enter Try.func39, Try.ntmps39
  go_wp2_with fail
  refine (gone_any _).mono ?_
  rintro e w1 ⟨rfl, hb1⟩
  have hz : Blk (w1.alloc (.cells (rowl (upTo (itr 4) 0) 16).toArray 67)) 67 w1.heap.size (rowl (upTo (itr 4) 0) 16) := Blk.new w1 _ _
  have hbz := hb1.alloc hb1.size (.cells (rowl (upTo (itr 4) 0) 16).toArray 67)
  have hG := hz.setRow_ (rowl (itr 4) 16)
  have hbG := below_setRow hbz hb1.size (rowl (itr 4) 16).toArray
  rw [← zeros16] at hz hG hbG
  clear hbz
  go_wp2_with ((with_reducible show wpList _ _ _ _ _ _); refine wpList_storeR rfl 67 _ _ rfl w1.heap.size (by rfl) (rowl (itr 4) 16) (by rfl) _ hz (by rw [rowl_len, rowl_len]) (rowsize16 _) (rowl_one _ _) ?_)
  clear hz
  generalize (w1.alloc (.cells #[Value.int .u32 0, Value.int .u32 0, Value.int .u32 0, Value.int .u32 0, Value.int .u32 0, Value.int .u32 0, Value.int .u32 0, Value.int .u32 0, Value.int .u32 0, Value.int .u32 0, Value.int .u32 0, Value.int .u32 0, Value.int .u32 0, Value.int .u32 0, Value.int .u32 0, Value.int .u32 0] 67)).setRow w1.heap.size (rowl (itr 4) 16).toArray = w2 at hG hbG ⊢
  have hI2 := hI.below (hbG.mono hBw)
  clear hI
  go_loop [6, 14] (fun u i => ∃ k m : Nat, k ≤ len ∧ m < 4294967296 ∧ u = .int .u32 (m : Int) ∧ i = .int .i64 (k : Int) ∧ crcs m (xs.drop k) = R)
    (fun _ i => len - (intOf i).toNat)
  case atStart => exact ⟨0, u0, by omega, hu0l, rfl, rfl, by rw [List.drop_zero]; exact HR.out⟩
  case round =>
    obtain ⟨k, m, hk, hm, rfl, rfl, hg⟩ := hrel
    by_cases hlt : k < len
    · have hlt' : (k : Int) < (len : Int) := by omega
      obtain ⟨b, off, rfl, hb⟩ := hI2.addr (by omega)
      have hc := hI2.cell (k := k) hlt
      obtain ⟨x, hx⟩ : ∃ x, xs[k]'(by rw [HL.out]; omega) = x := ⟨_, rfl⟩
      rw [hx] at hc
      rw [drop_at (x := x) (by rw [← hx]; exact List.getElem?_eq_getElem _), crcs_cons] at hg
      clear hx
      have hxl := x.toNat_lt
      have e1 := xor_w m x.toNat hm (by omega)
      obtain ⟨m1, hm1⟩ : ∃ m1, m ^^^ x.toNat = m1 := ⟨_, rfl⟩
      have hm1l : m1 < 4294967296 := by rw [← hm1]; exact xor_lt32 hm (by omega)
      rw [hm1] at e1 hg
      clear hm1
      have c1 := hG.cell (rowl_get (itr 4) 16 (m1 % 16) (by omega))
      have f1 := four_once m1
      have l1 := itr_lt 4 (w := m1 % 16) (by omega)
      have l2 := itr_lt 4 hm1l
      obtain ⟨v1, hv1⟩ : ∃ v1, itr 4 (m1 % 16) = v1 := ⟨_, rfl⟩
      obtain ⟨m2, hm2⟩ : ∃ m2, itr 4 m1 = m2 := ⟨_, rfl⟩
      rw [← eight, hm2] at hg
      rw [hv1] at c1 f1 l1
      rw [hm2] at f1 l2
      clear hv1 hm2
      have x1 : bits .xor .u32 ((m1 : Int) / 16) (v1 : Int) = _ := xor_w (m1 / 16) v1 (by omega) l1
      rw [f1] at x1
      clear f1
      have c2 := hG.cell (rowl_get (itr 4) 16 (m2 % 16) (by omega))
      have f2 := four_once m2
      have l3 := itr_lt 4 (w := m2 % 16) (by omega)
      have l4 := itr_lt 4 l2
      obtain ⟨v2, hv2⟩ : ∃ v2, itr 4 (m2 % 16) = v2 := ⟨_, rfl⟩
      obtain ⟨m3, hm3⟩ : ∃ m3, itr 4 m2 = m3 := ⟨_, rfl⟩
      rw [hm3] at hg f2 l4
      rw [hv2] at c2 f2 l3
      clear hv2 hm3
      have x2 : bits .xor .u32 ((m2 : Int) / 16) (v2 : Int) = _ := xor_w (m2 / 16) v2 (by omega) l3
      rw [f2] at x2
      clear f2
      have HQ := Lib.hid hg
      clear hg
      unfold w32 at c1 c2
      have b1 : (m1 : Int) % 16 < 16 := by omega
      have b2 : (m2 : Int) % 16 < 16 := by omega
      go_wp2_with fail
      go_round
      case rel => exact ⟨k + 1, m3, by omega, l4, rfl, by go_num, HQ.out⟩
      case measure => simp [intOf]; omega
    · obtain rfl : k = len := by omega
      rw [List.drop_of_length_le (by rw [HL.out]; omega)] at hg
      have HQ := Lib.hid hg
      clear hg
      have e1 := not_w m hm
      go_wp2_with fail
      go_ret
      rw [← HQ.out]
      exact ⟨rfl, hbG⟩

theorem word0 : (0 : Int) = ((0 : Nat) : Int) := rfl

set_option maxHeartbeats 400000 in
/-- crc.Of -/
theorem of_any (A : Option Addr) (len cap : Nat) (xs : List UInt8) (hlen : len ≤ 2000000) (w : World) {B : Nat} (hI : Rd w B A len xs) (hBw : B ≤ w.heap.size) :
    Calls Try.prog 30 #[.slice A len cap] w fun e w' => e = .returned (.int .u32 ((sumOn 0 xs : Nat) : Int)) ∧ Below w.heap.size w w' := by
  go_enter Try.func30, Try.ntmps30
  go_wp2_with fail
  refine (more_any 0 (by omega) A len cap xs hlen w hI hBw).mono ?_
  rintro e w1 ⟨rfl, hb1⟩
  go_wp2_with fail
  go_ret
  exact ⟨rfl, hb1⟩

set_option maxRecDepth 100000 in
set_option maxHeartbeats 2000000 in
/-- The reference's More. -/
theorem rmore_any (s : Nat) (hs : s < 4294967296) (A : Option Addr) (len cap : Nat) (xs : List UInt8) (hlen : len ≤ 2000000) (w : World) {B : Nat} (hI : Rd w B A len xs) :
    Calls Try.prog 33 #[.int .u32 (s : Int), .slice A len cap] w fun e w' => e = .returned (.int .u32 ((sumOn s xs : Nat) : Int)) ∧ w = w' := by
  have HL := Lib.hid hI.len
  have hn0 : bits .xor .u32 (s : Int) 4294967295 = _ := xor_w s 4294967295 hs (by decide)
  obtain ⟨u0, hu0⟩ : ∃ u, s ^^^ 4294967295 = u := ⟨_, rfl⟩
  have hu0l : u0 < 4294967296 := by rw [← hu0]; exact xor_lt32 hs (by decide)
  rw [hu0] at hn0
  have hR : sumOn s xs = crcs u0 xs ^^^ 4294967295 := by rw [← hu0]; rfl
  clear hu0
  rw [hR]
  clear hR
  obtain ⟨R, hR⟩ : ∃ R, crcs u0 xs = R := ⟨_, rfl⟩
  rw [hR]
  have HR := Lib.hid hR
  clear hR
  go_enter Try.func33, Try.ntmps33
  go_wp2_with fail
  go_loop [5, 6] (fun u i => ∃ k m : Nat, k ≤ len ∧ m < 4294967296 ∧ u = .int .u32 (m : Int) ∧ i = .int .i64 (k : Int) ∧ crcs m (xs.drop k) = R)
    (fun _ i => len - (intOf i).toNat)
  case atStart => exact ⟨0, u0, by omega, hu0l, rfl, rfl, by rw [List.drop_zero]; exact HR.out⟩
  case round =>
    obtain ⟨k, m, hk, hm, rfl, rfl, hg⟩ := hrel
    by_cases hlt : k < len
    · have hlt' : (k : Int) < (len : Int) := by omega
      obtain ⟨b, off, rfl, hb⟩ := hI.addr (by omega)
      have hc := hI.cell (k := k) hlt
      obtain ⟨x, hx⟩ : ∃ x, xs[k]'(by rw [HL.out]; omega) = x := ⟨_, rfl⟩
      rw [hx] at hc
      rw [drop_at (x := x) (by rw [← hx]; exact List.getElem?_eq_getElem _), crcs_cons] at hg
      clear hx
      have hxl := x.toNat_lt
      have e1 := xor_w m x.toNat hm (by omega)
      obtain ⟨m1, hm1⟩ : ∃ m1, m ^^^ x.toNat = m1 := ⟨_, rfl⟩
      have hm1l : m1 < 4294967296 := by rw [← hm1]; exact xor_lt32 hm (by omega)
      rw [hm1] at e1 hg
      clear hm1
      have l4 := itr_lt 8 hm1l
      have HQ := Lib.hid hg
      clear hg
      go_wp2_with (go_at_call 40; refine (rbits_any m1 hm1l _).mono ?_; rintro e w' ⟨rfl, rfl⟩)
      go_round
      case rel => exact ⟨k + 1, itr 8 m1, by omega, l4, rfl, by go_num, HQ.out⟩
      case measure => simp [intOf]; omega
    · obtain rfl : k = len := by omega
      rw [List.drop_of_length_le (by rw [HL.out]; omega)] at hg
      have HQ := Lib.hid hg
      clear hg
      have e1 : bits .xor .u32 (m : Int) 4294967295 = _ := xor_w m 4294967295 hm (by decide)
      go_wp2_with fail
      go_ret
      rw [← HQ.out]
      exact ⟨rfl, rfl⟩

set_option maxHeartbeats 400000 in
/-- The reference's Of. -/
theorem rof_any (A : Option Addr) (len cap : Nat) (xs : List UInt8) (hlen : len ≤ 2000000) (w : World) {B : Nat} (hI : Rd w B A len xs) :
    Calls Try.prog 25 #[.slice A len cap] w fun e w' => e = .returned (.int .u32 ((sumOn 0 xs : Nat) : Int)) ∧ w = w' := by
  go_enter Try.func25, Try.ntmps25
  go_wp2_with fail
  refine (rmore_any 0 (by omega) A len cap xs hlen w hI).mono ?_
  rintro e w1 ⟨rfl, rfl⟩
  go_wp2_with fail
  go_ret
  exact ⟨rfl, rfl⟩

theorem sum_known : sumOn 0 [49, 50, 51, 52, 53, 54, 55, 56, 57] = 3808858755 := by decide +kernel

end Go.Proofs.Ytaabfhfiipmhcaa
