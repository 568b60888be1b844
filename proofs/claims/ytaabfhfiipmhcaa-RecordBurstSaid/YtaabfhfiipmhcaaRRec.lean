/-
  The contracts of record's Row and Put.
-/
import Derived.Test.YtaabfhfiipmhcaaRLay
namespace Go.Proofs.Ytaabfhfiipmhcaa
open Go.RowKit Go.Lib

theorem rowOf_le : ∀ l : List (List UInt8), (∀ xs ∈ l, xs.length ≤ 1048576) → (rowOf l).length ≤ 1048583 * l.length
  | [], _ => Nat.le_refl _
  | xs :: l, h => by
    have h1 := rowOf_le l fun ys hy => h ys (List.mem_cons_of_mem _ hy)
    have h2 := h xs (List.mem_cons_self ..)
    have h3 := uvarint_max h2
    rw [rowOf, List.length_append, recOf_len, List.length_cons]
    omega

set_option maxRecDepth 100000 in
set_option maxHeartbeats 2000000 in
/-- record.Row, of bodies that may be. -/
theorem row_any (A : Option Addr) (len cap : Nat) (l : List (List UInt8)) (hlen : len ≤ 1000000) (hl : ∀ xs ∈ l, xs.length ≤ 1048576) (hrow : (rowOf l).length ≤ 800000000) (w : World) (hI : LsAt w w.heap.size A len l) :
    Calls Try.prog 15 #[.slice A len cap] w fun e W' => ∃ v, e = .returned (.tuple #[v, .int .i64 0]) ∧ Own8 W' w.heap.size v (rowOf l) ∧ Below w.heap.size w W' := by
  have HL := Lib.hid hI.size
  have HM := Lib.hid hl
  have HT := Lib.hid (fun i => rowOf_mono l (i := i) (j := len))
  have hta : l.take len = l := List.take_of_length_le (by rw [HL.out]; exact Nat.le_refl _)
  rw [hta] at HT
  have HA := Lib.hid hta
  clear hl hta
  go_enter Try.func15, Try.ntmps15
  go_wp2_with fail
  go_loop [4, 12] (fun s i => ∃ k : Nat, k ≤ len ∧ i = .int .i64 (k : Int) ∧ s = .int .i64 (((rowOf (l.take k)).length : Nat) : Int)) (fun _ i => len - (intOf i).toNat)
  case atStart => exact ⟨0, Nat.zero_le _, rfl, by rw [List.take_zero]; rfl⟩
  case round =>
    obtain ⟨k, hk, rfl, rfl⟩ := hrel
    by_cases hlt : k < len
    · have hlt' : (k : Int) < (len : Int) := by omega
      have hk0 : (0 : Int) ≤ (k : Int) := by omega
      obtain ⟨b, off, rfl, _, hc⟩ := hI.2 (by omega)
      obtain ⟨xs, hx⟩ : ∃ xs, l[k]? = some xs := ⟨_, List.getElem?_eq_getElem (by rw [HL.out]; exact hlt)⟩
      obtain ⟨A1, n1, c1, x1, _, _, hr1⟩ := hc k xs hx
      have hxl := HM.out xs (List.mem_of_getElem? hx)
      have hnl := hr1.len
      have hb : decide ((1048576 : Int) < (n1 : Int)) = false := decide_eq_false (by omega)
      have hs := congrArg List.length (rowOf_snoc hx)
      rw [List.length_append, recOf_len, hnl] at hs
      have hle := HT.out (k + 1) (by omega)
      have h3 := uvarint_max (n := n1) (by omega)
      have hn1 : n1 ≤ 1048576 := by omega
      rw [hs] at hle
      have HS := Lib.hid hs
      have HV := Lib.hid (fun W => rsize_any n1 (by omega) W)
      obtain ⟨U, hU⟩ : ∃ U, (uvarint n1).length = U := ⟨_, rfl⟩
      obtain ⟨R, hR⟩ : ∃ R, (rowOf (l.take k)).length = R := ⟨_, rfl⟩
      rw [hU, hR] at HS hle
      rw [hU] at HV h3
      rw [hR]
      clear hU hR hc hx hr1 hnl hxl hs
      go_wp2_with fail
      refine (HV.out _).mono ?_
      rintro e w1 ⟨rfl, rfl⟩
      go_wp2_with fail
      go_round
      case rel => exact ⟨k + 1, by omega, by go_num, by rw [HS.out]; go_num⟩
      case measure => simp [intOf]; omega
    · obtain rfl : k = len := by omega
      rw [HA.out]
      obtain ⟨R, hR⟩ : ∃ R, (rowOf l).length = R := ⟨_, rfl⟩
      rw [hR] at hrow ⊢
      have hmk : ∀ W : World, (Instr.makeSlice 22 (.int .i64 0) (.int .i64 (R : Int))).run Try.prog W = _ := run_make8 0 R (Nat.zero_le _) (by omega)
      have HR := Lib.hid hR
      have HT2 : Hid (∀ i, i ≤ k → (rowOf (l.take i)).length ≤ R) := by show ∀ i, i ≤ k → _; rw [← hR]; exact HT.out
      clear hR
      go_wp2_with fail
      clear hmk
      have hown0 := Own8.made0 w R (by unfold maxLen; omega)
      have hbel0 : Below w.heap.size w _ := (Below.refl _ w).alloc (Nat.le_refl _) (.cells (madeCells #[.int .u8 0] R) 5)
      generalize w.alloc (.cells (madeCells #[.int .u8 0] R) 5) = w1 at hown0 hbel0 ⊢
      go_loopw [7, 29] (fun v i wr => ∃ j : Nat, j ≤ k ∧ i = .int .i64 (j : Int) ∧ Own8 wr w.heap.size v (rowOf (l.take j)) ∧ Below w.heap.size w wr) (fun _ i _ => k - (intOf i).toNat)
      case atStart => exact ⟨0, Nat.zero_le _, rfl, by rw [List.take_zero]; exact hown0, hbel0⟩
      case round =>
        obtain ⟨j, hj, rfl, hown, hbel⟩ := hrel
        by_cases hlt2 : j < k
        · have hlt' : (j : Int) < (k : Int) := by omega
          have hk0 : (0 : Int) ≤ (j : Int) := by omega
          obtain ⟨b, off, rfl, hbl, hc⟩ := (hI.below hbel).2 (by omega)
          obtain ⟨xs, hx⟩ : ∃ xs, l[j]? = some xs := ⟨_, List.getElem?_eq_getElem (by rw [HL.out]; exact hlt2)⟩
          obtain ⟨A1, n1, c1, x1, _, _, hr1⟩ := hc j xs hx
          have hxl := HM.out xs (List.mem_of_getElem? hx)
          have hnl := hr1.len
          have HS := Lib.hid (rowOf_snoc hx)
          have hRj := HT2.out j hj
          have HV := Lib.hid (fun W h1 h2 h3 => lay_any w.heap.size u7 (rowOf (l.take j)) A1 n1 c1 xs (by omega) (by omega) W h1 h2 h3)
          clear hc hx hnl hxl hRj
          go_wp2_with fail
          refine (HV.out _ hown hbel.size hr1).mono ?_
          rintro e w2 ⟨v2, rfl, ho2, hb2⟩
          go_wp2_with fail
          go_roundw
          case rel => exact ⟨j + 1, by omega, by go_num, by rw [HS.out]; exact ho2, hbel.trans hb2⟩
          case measure => simp [intOf]; omega
        · obtain rfl : j = k := by omega
          rw [HA.out] at hown
          go_wp2_with fail
          go_ret2
          exact ⟨_, rfl, hown, hbel⟩

set_option maxRecDepth 100000 in
set_option maxHeartbeats 2000000 in
/-- record.Row, of bodies of which one is too long. -/
theorem row_long (A : Option Addr) (len cap : Nat) (l : List (List UInt8)) (hlen : len ≤ 1000) (j : Nat) (hl : ∀ xs ∈ l.take j, xs.length ≤ 1048576) (ys : List UInt8) (hj : l[j]? = some ys) (hy : 1048576 < ys.length) (w : World) (hI : LsAt w w.heap.size A len l) :
    Calls Try.prog 15 #[.slice A len cap] w fun e W' => e = .returned (.tuple #[.slice none 0 0, .int .i64 4]) ∧ w = W' := by
  have HL := Lib.hid hI.size
  have HM := Lib.hid hl
  have hjl : j < len := by rw [← hI.size]; exact (List.getElem?_eq_some_iff.1 hj).1
  have hR := rowOf_le _ hl
  have hjt : (l.take j).length = j := by rw [List.length_take, hI.size]; omega
  rw [hjt] at hR
  have HT := Lib.hid (fun i => rowOf_mono l (i := i) (j := j))
  have HR := Lib.hid hR
  have HJ := Lib.hid hj
  clear hl hjt hR hj
  go_enter Try.func15, Try.ntmps15
  go_wp2_with fail
  go_loop [4, 12] (fun s i => ∃ k : Nat, k ≤ j ∧ i = .int .i64 (k : Int) ∧ s = .int .i64 (((rowOf (l.take k)).length : Nat) : Int)) (fun _ i => len - (intOf i).toNat)
  case atStart => exact ⟨0, Nat.zero_le _, rfl, by rw [List.take_zero]; rfl⟩
  case round =>
    obtain ⟨k, hk, rfl, rfl⟩ := hrel
    have hlt' : (k : Int) < (len : Int) := by omega
    have hk0 : (0 : Int) ≤ (k : Int) := by omega
    obtain ⟨b, off, rfl, _, hc⟩ := hI.2 (by omega)
    by_cases hlt : k < j
    · obtain ⟨xs, hx⟩ : ∃ xs, l[k]? = some xs := ⟨_, List.getElem?_eq_getElem (by rw [HL.out]; omega)⟩
      obtain ⟨A1, n1, c1, x1, _, _, hr1⟩ := hc k xs hx
      have hxl := HM.out xs (List.mem_of_getElem? (i := k) (by rw [List.getElem?_take, if_pos hlt]; exact hx))
      have hnl := hr1.len
      have hb : decide ((1048576 : Int) < (n1 : Int)) = false := decide_eq_false (by omega)
      have hs := congrArg List.length (rowOf_snoc hx)
      rw [List.length_append, recOf_len, hnl] at hs
      have hle := HT.out (k + 1) (by omega)
      have hRR := HR.out
      have h3 := uvarint_max (n := n1) (by omega)
      have hn1 : n1 ≤ 1048576 := by omega
      rw [hs] at hle
      have HS := Lib.hid hs
      have HV := Lib.hid (fun W => rsize_any n1 (by omega) W)
      obtain ⟨U, hU⟩ : ∃ U, (uvarint n1).length = U := ⟨_, rfl⟩
      obtain ⟨R, hR⟩ : ∃ R, (rowOf (l.take k)).length = R := ⟨_, rfl⟩
      rw [hU, hR] at HS hle
      rw [hU] at HV h3
      rw [hR]
      have hsum : R + (U + n1 + 4) ≤ 1048583000 := by omega
      clear hU hR hc hx hr1 hnl hxl hs hle hRR
      go_wp2_with fail
      refine (HV.out _).mono ?_
      rintro e w1 ⟨rfl, rfl⟩
      go_wp2_with fail
      go_round
      case rel => exact ⟨k + 1, by omega, by go_num, by rw [HS.out]; go_num⟩
      case measure => simp [intOf]; omega
    · obtain rfl : k = j := by omega
      obtain ⟨A1, n1, c1, x1, _, _, hr1⟩ := hc k ys HJ.out
      have hnl := hr1.len
      have hb : (1048576 : Int) < (n1 : Int) := by omega
      clear hc hr1 hnl
      go_wp2_with fail
      go_ret2
      exact ⟨rfl, rfl⟩

set_option maxRecDepth 100000 in
set_option maxHeartbeats 1000000 in
/-- record.Put, of a body that may be. -/
theorem rput_rec (A : Option Addr) (len cap : Nat) (xs : List UInt8) (hlen : len ≤ 1048576) (hcap : len ≤ cap) (hcm : cap ≤ maxLen) (w : World) (hI : Rd w w.heap.size A len xs) :
    Calls Try.prog 11 #[.slice A len cap] w fun e W' => ∃ v, e = .returned (.tuple #[v, .int .i64 0]) ∧ Own8 W' w.heap.size v (recOf xs) ∧ Below w.heap.size w W' := by
  have hl := LsAt.one hI (Nat.le_refl _) hcap hcm
  have hx : xs.length ≤ 1048576 := by rw [hI.len]; exact hlen
  have h3 := uvarint_max hx
  have HV := Lib.hid (row_any (some ⟨w.heap.size, 0, none⟩) 1 1 [xs] (by omega) (by intro ys hy; rw [List.mem_singleton.1 hy]; exact hx) (by rw [rowOf_one, recOf_len]; omega) (w.alloc (.cells #[.slice A len cap] 22)) (by simpa using hl))
  rw [rowOf_one] at HV
  have hb0 := (Below.refl w.heap.size w).alloc (Nat.le_refl _) (.cells #[.slice A len cap] 22)
  clear hl hx h3
  go_enter Try.func11, Try.ntmps11
  go_wp2_with fail
  refine HV.out.mono ?_
  rintro e w1 ⟨v, rfl, ho, hb⟩
  go_wp2_with fail
  go_ret2
  exact ⟨_, rfl, ho.base_le (by simp), hb0.trans (hb.mono (by simp))⟩

set_option maxRecDepth 100000 in
set_option maxHeartbeats 1000000 in
/-- record.Put, of a body that is too long. -/
theorem rput_long (A : Option Addr) (len cap : Nat) (xs : List UInt8) (hlen : 1048576 < len) (hcap : len ≤ cap) (hcm : cap ≤ maxLen) (w : World) (hI : Rd w w.heap.size A len xs) :
    Calls Try.prog 11 #[.slice A len cap] w fun e W' => e = .returned (.tuple #[.slice none 0 0, .int .i64 4]) ∧ Below w.heap.size w W' := by
  have hl := LsAt.one hI (Nat.le_refl _) hcap hcm
  have HV := Lib.hid (row_long (some ⟨w.heap.size, 0, none⟩) 1 1 [xs] (by omega) 0 (by intro ys hy; simp at hy) xs rfl (by rw [hI.len]; exact hlen) (w.alloc (.cells #[.slice A len cap] 22)) (by simpa using hl))
  have hb0 := (Below.refl w.heap.size w).alloc (Nat.le_refl _) (.cells #[.slice A len cap] 22)
  clear hl
  go_enter Try.func11, Try.ntmps11
  go_wp2_with fail
  refine HV.out.mono ?_
  rintro e w1 ⟨rfl, rfl⟩
  go_wp2_with fail
  go_ret2
  exact ⟨rfl, hb0⟩
end Go.Proofs.Ytaabfhfiipmhcaa
