/-
  The contracts of inet.Sum and inet.Right.
-/
import Derived.Test.YtgjjepcjdekihaaFRing
import Derived.Test.YtgjjepcjdekihaaFList
namespace Go.Proofs.Ytgjjepcjdekihaa
open Go.RowKit Go.Lib

theorem LsAt.at {w : World} {B n : Nat} {A : Option Addr} {l : List (List UInt8)} (h : LsAt w B A n l) {k : Nat} {xs : List UInt8} (hx : l[k]? = some xs) :
    ∃ b off A' n' c', A = some ⟨b, off, none⟩ ∧ w.cell? ⟨b, off + k, none⟩ = some (.slice A' n' c') ∧ Rd w B A' n' xs := by
  have hk := (List.getElem?_eq_some_iff.1 hx).1
  obtain ⟨b, off, e, _, hc⟩ := h.2 (by rw [← h.1]; omega)
  obtain ⟨A', n', c', h1, _, _, h2⟩ := hc k xs hx
  exact ⟨b, off, A', n', c', e, h1, h2⟩
theorem flat_drop {l : List (List UInt8)} {k : Nat} {xs : List UInt8} (h : l[k]? = some xs) : (l.drop k).flatten = xs ++ (l.drop (k + 1)).flatten := by
  obtain ⟨hl, he⟩ := List.getElem?_eq_some_iff.1 h
  rw [List.drop_eq_getElem_cons hl, he, List.flatten_cons]
theorem drop_at {xs : List UInt8} {k : Nat} {x : UInt8} (h : xs[k]? = some x) : xs.drop k = x :: xs.drop (k + 1) := by
  obtain ⟨hl, he⟩ := List.getElem?_eq_some_iff.1 h
  rw [List.drop_eq_getElem_cons hl, he]
/-- By how many bits the next byte is shifted. -/
def shN (o : Bool) : Int := if o then 0 else 8
theorem shN_t : shN true = 0 := rfl
theorem shN_f : shN false = 8 := rfl
theorem wsum_odd (x : UInt8) (t : List UInt8) : wsum true (x :: t) = x.toNat + wsum false t := rfl
theorem wsum_even (x : UInt8) (t : List UInt8) : wsum false (x :: t) = 256 * x.toNat + wsum true t := rfl

set_option maxRecDepth 100000 in
set_option maxHeartbeats 2000000 in
/-- inet.Sum -/
theorem sum_any (A : Option Addr) (n cap : Nat) (l : List (List UInt8)) (hn : n ≤ 1000) (hlen : l.flatten.length ≤ 1000000) (w : World) {B : Nat} (hI : LsAt w B A n l) :
    Calls Try.prog 30 #[.slice A n cap] w fun e w' => e = .returned (.int .u16 ((ckOf l.flatten : Nat) : Int)) ∧ w = w' := by
  have hle := wsum_le l.flatten false
  have HS := Lib.hid (show ckOf l.flatten = 65535 - nrm (wsum false l.flatten) from rfl)
  obtain ⟨R, hR⟩ : ∃ R, wsum false l.flatten = R := ⟨_, rfl⟩
  have hRl : R ≤ 65280 * 1000000 := by omega
  have hnl := nrm_le R
  have h3 := not16 (nrm R) (by omega)
  have HN := Lib.hid (ring_any R (by omega))
  rw [HS.out, hR]
  obtain ⟨r, hr⟩ : ∃ r, nrm R = r := ⟨_, rfl⟩
  obtain ⟨r', hr'⟩ : ∃ r', 65535 - r = r' := ⟨_, rfl⟩
  rw [hr] at h3 HN hnl ⊢
  rw [hr'] at h3 ⊢
  have HR := Lib.hid hR
  clear hR hr hr' hle HS
  have hx8 : bits .xor .i64 8 8 = 0 := by rfl
  have hx0 : bits .xor .i64 0 8 = 8 := by rfl
  go_enter Try.func30, Try.ntmps30
  go_wp2_with fail
  go_loop [3, 4, 11] (fun s c i => ∃ (k S : Nat) (o : Bool), k ≤ n ∧ s = .int .u64 (S : Int) ∧ c = .int .i64 (shN o) ∧ i = .int .i64 (k : Int) ∧ S + wsum o (l.drop k).flatten = R)
    (fun _ _ i => n - (intOf i).toNat)
  case atStart => exact ⟨0, 0, false, by omega, rfl, rfl, rfl, by rw [List.drop_zero, Nat.zero_add]; exact HR.out⟩
  case round =>
    obtain ⟨k, S, o, hk, rfl, rfl, rfl, hs⟩ := hrel
    by_cases hlt : k < n
    · have hlt' : (k : Int) < (n : Int) := by omega
      obtain ⟨xs, hxs⟩ : ∃ xs, l[k]? = some xs := ⟨_, List.getElem?_eq_getElem (by rw [hI.size]; exact hlt)⟩
      obtain ⟨b, off, A', n', c', rfl, hc, hr⟩ := hI.at hxs
      rw [flat_drop hxs] at hs
      have hxl : xs.length ≤ 1000000 := by
        have e : l.flatten = (l.take k).flatten ++ (l.drop k).flatten := by rw [← List.flatten_append, List.take_append_drop]
        rw [e, flat_drop hxs, List.length_append, List.length_append] at hlen
        omega
      rw [hr.len] at hxl
      obtain ⟨rest, hrest⟩ : ∃ rest, (l.drop (k + 1)).flatten = rest := ⟨_, rfl⟩
      rw [hrest] at hs
      have HQ := Lib.hid hs
      have HT := Lib.hid hrest
      have HI := Lib.hid hI
      clear hs hrest hxs hI
      go_wp2_with fail
      go_loop [3, 4, 17] (fun s c i => ∃ (j S : Nat) (o : Bool), j ≤ n' ∧ s = .int .u64 (S : Int) ∧ c = .int .i64 (shN o) ∧ i = .int .i64 (j : Int) ∧ S + wsum o (xs.drop j ++ rest) = R)
        (fun _ _ i => n' - (intOf i).toNat)
      case atStart => exact ⟨0, S, o, by omega, rfl, rfl, rfl, by rw [List.drop_zero]; exact HQ.out⟩
      case round =>
        obtain ⟨j, S, o, hj, rfl, rfl, rfl, hs⟩ := hrel
        by_cases hjl : j < n'
        · have hjl' : (j : Int) < (n' : Int) := by omega
          obtain ⟨b1, off1, rfl, hb1⟩ := hr.addr (by omega)
          have hcx := hr.cell (k := j) hjl
          obtain ⟨x, hx⟩ : ∃ x, xs[j]'(by rw [hr.len]; exact hjl) = x := ⟨_, rfl⟩
          rw [hx] at hcx
          rw [drop_at (x := x) (by rw [← hx]; exact List.getElem?_eq_getElem _), List.cons_append] at hs
          clear hx
          have hxl := x.toNat_lt
          cases o with
          | true =>
            rw [wsum_odd] at hs
            have hw : IntKind.u64.wrap ((S : Int) + (x.toNat : Int)) = _ := wu64 (by omega) (by omega)
            have HQ := Lib.hid hs
            clear hs
            rw [shN_t]
            go_wp2_with fail
            go_round
            case rel => exact ⟨j + 1, S + x.toNat, false, by omega, by go_num, rfl, by go_num, by rw [← HQ.out, Nat.add_assoc]⟩
            case measure => simp [intOf]; omega
          | false =>
            rw [wsum_even] at hs
            have hw1 : IntKind.u64.wrap ((x.toNat : Int) * 256) = _ := wu64 (by omega) (by omega)
            have hw : IntKind.u64.wrap ((S : Int) + (x.toNat : Int) * 256) = _ := wu64 (by omega) (by omega)
            have HQ := Lib.hid hs
            clear hs
            rw [shN_f]
            go_wp2_with fail
            go_round
            case rel => exact ⟨j + 1, S + 256 * x.toNat, true, by omega, by go_num, rfl, by go_num, by rw [← HQ.out, Nat.add_assoc]⟩
            case measure => simp [intOf]; omega
        · obtain rfl : j = n' := by omega
          rw [List.drop_of_length_le (by rw [hr.len]; omega), List.nil_append] at hs
          have HQ := Lib.hid hs
          clear hs
          go_wp2_with fail
          go_round
          case rel => exact ⟨k + 1, S, o, by omega, rfl, rfl, by go_num, by rw [HT.out]; exact HQ.out⟩
          case measure => simp [intOf]; omega
    · obtain rfl : k = n := by omega
      rw [List.drop_of_length_le (by rw [hI.size]; omega)] at hs
      have hs' : S = R := hs
      clear hs
      have HQ := Lib.hid hs'
      clear hs'
      go_wp2_with fail
      rw [HQ.out]
      refine (HN.out _).mono ?_
      rintro e w' ⟨rfl, rfl⟩
      go_wp2_with fail
      go_ret
      exact ⟨rfl, rfl⟩

set_option maxHeartbeats 400000 in
/-- inet.Right, of bytes that are right. -/
theorem right_yes (A : Option Addr) (n cap : Nat) (l : List (List UInt8)) (hn : n ≤ 1000) (hlen : l.flatten.length ≤ 1000000) (h0 : ckOf l.flatten = 0) (w : World) {B : Nat} (hI : LsAt w B A n l) :
    Calls Try.prog 25 #[.slice A n cap] w fun e w' => e = .returned (.bool true) ∧ w = w' := by
  have hs := sum_any A n cap l hn hlen w hI
  rw [h0] at hs
  have HS := Lib.hid hs
  clear hs h0
  go_enter Try.func25, Try.ntmps25
  go_wp2_with fail
  refine HS.out.mono ?_
  rintro e w' ⟨rfl, rfl⟩
  go_wp2_with fail
  go_ret
  exact ⟨rfl, rfl⟩

set_option maxHeartbeats 400000 in
/-- inet.Right, of bytes that aren't right. -/
theorem right_no (A : Option Addr) (n cap : Nat) (l : List (List UInt8)) (hn : n ≤ 1000) (hlen : l.flatten.length ≤ 1000000) (h0 : ckOf l.flatten ≠ 0) (w : World) {B : Nat} (hI : LsAt w B A n l) :
    Calls Try.prog 25 #[.slice A n cap] w fun e w' => e = .returned (.bool false) ∧ w = w' := by
  have hs := sum_any A n cap l hn hlen w hI
  obtain ⟨R, hR⟩ : ∃ R, ckOf l.flatten = R := ⟨_, rfl⟩
  rw [hR] at hs h0
  clear hR
  have h1 : ((R : Int) == 0) = false := beq_eq_false_iff_ne.2 (by omega)
  have h2 : (R == 0) = false := beq_eq_false_iff_ne.2 h0
  have HS := Lib.hid hs
  clear hs
  go_enter Try.func25, Try.ntmps25
  go_wp2_with fail
  refine HS.out.mono ?_
  rintro e w' ⟨rfl, rfl⟩
  go_wp2_with fail
  go_ret
  exact ⟨rfl, rfl⟩
/-- inet.Sum of a row that was just laid, in a world that drew. -/
theorem sum_row (W : World) (cs : List Value) (l : List (List UInt8)) (h : CellsAt W W.heap.size cs l) (n cap : Nat) (hn : cs.length = n) (hn2 : n ≤ 1000) (hlen : l.flatten.length ≤ 1000000) (c : Nat) (hc : ckOf l.flatten = c) (k : Nat) :
    Calls Try.prog 30 #[.slice (some ⟨W.heap.size, 0, none⟩) n cap] ((W.alloc (.cells cs.toArray 22)).drewN k) fun e W' => e = .returned (.int .u16 (c : Int)) ∧ (W.alloc (.cells cs.toArray 22)).drewN k = W' := by
  subst hc
  exact sum_any _ n cap l hn2 hlen _ ((h.laid (Nat.le_refl _) n hn).drewN k)
theorem right_row (W : World) (cs : List Value) (l : List (List UInt8)) (h : CellsAt W W.heap.size cs l) (n cap : Nat) (hn : cs.length = n) (hn2 : n ≤ 1000) (hlen : l.flatten.length ≤ 1000000) (hc : ckOf l.flatten = 0) (k : Nat) :
    Calls Try.prog 25 #[.slice (some ⟨W.heap.size, 0, none⟩) n cap] ((W.alloc (.cells cs.toArray 22)).drewN k) fun e W' => e = .returned (.bool true) ∧ (W.alloc (.cells cs.toArray 22)).drewN k = W' :=
  right_yes _ n cap l hn2 hlen hc _ ((h.laid (Nat.le_refl _) n hn).drewN k)
theorem wrong_row (W : World) (cs : List Value) (l : List (List UInt8)) (h : CellsAt W W.heap.size cs l) (n cap : Nat) (hn : cs.length = n) (hn2 : n ≤ 1000) (hlen : l.flatten.length ≤ 1000000) (hc : ckOf l.flatten ≠ 0) (k : Nat) :
    Calls Try.prog 25 #[.slice (some ⟨W.heap.size, 0, none⟩) n cap] ((W.alloc (.cells cs.toArray 22)).drewN k) fun e W' => e = .returned (.bool false) ∧ (W.alloc (.cells cs.toArray 22)).drewN k = W' :=
  right_no _ n cap l hn2 hlen hc _ ((h.laid (Nat.le_refl _) n hn).drewN k)
end Go.Proofs.Ytgjjepcjdekihaa
