/-
  The document's answers of layer 6: Words, Ring, Sum.
-/
import Derived.Test.YtgjjepcjdekihaaFRing
import Derived.Test.YtgjjepcjdekihaaFInts
import Derived.BigQuiet
namespace Go.Proofs.Ytgjjepcjdekihaa
open Go.RowKit Go.Lib

theorem bat_cell {w : World} {B n b off : Nat} {xs : List UInt8} (h : Rd w B (some ⟨b, off, none⟩) n xs) {k : Nat} (hk : k < n) : w.cell? ⟨b, off + k, none⟩ = some (.int .u8 (batN xs k : Int)) := by
  have hc := h.cell (k := k) hk
  have e : batN xs k = (xs[k]'(by rw [h.len]; exact hk)).toNat := by
    unfold batN
    rw [List.getD_eq_getElem?_getD, List.getElem?_eq_getElem (by rw [h.len]; exact hk)]
    rfl
  rw [e]; exact hc
theorem bat_past {xs : List UInt8} {k : Nat} (h : xs.length ≤ k) : batN xs k = 0 := by
  unfold batN
  rw [List.getD_eq_getElem?_getD, List.getElem?_eq_none h]
  rfl
theorem words_take {xs : List UInt8} {m : Nat} (h : m < xs.length) (h2 : m % 2 = 0) : (wordsOf xs).take (m / 2) ++ [wat xs m] = (wordsOf xs).take ((m + 2) / 2) := by
  have := wordsOf_at xs (m / 2) (by omega)
  rw [show 2 * (m / 2) = m by omega] at this
  obtain ⟨hl, he⟩ := List.getElem?_eq_some_iff.1 this
  rw [show (m + 2) / 2 = m / 2 + 1 by omega, ← he]
  exact (List.take_succ_eq_append_getElem hl).symm
theorem words_all {xs : List UInt8} {m : Nat} (h : xs.length ≤ m) : (wordsOf xs).take (m / 2) = wordsOf xs ∨ m % 2 = 1 := by
  rcases Nat.mod_two_eq_zero_or_one m with e | e
  · left; exact List.take_of_length_le (by rw [wordsOf_length]; omega)
  · exact .inr e

set_option maxRecDepth 100000 in
set_option maxHeartbeats 2000000 in
/-- The reference's Words. -/
theorem rwords_any (A : Option Addr) (len cap : Nat) (xs : List UInt8) (hlen : len ≤ 100000) (w : World) {B : Nat} (hI : Rd w B A len xs) (hBw : B ≤ w.heap.size) :
    Calls Try.prog 40 #[.slice A len cap] w fun e W' => ∃ v, e = .returned v ∧ OwnI W' w.heap.size v (wordsOf xs) ∧ Below w.heap.size w W' := by
  have hL := hI.len
  have HL := Lib.hid hL
  have hwl := wordsOf_length xs
  obtain ⟨Ws, hW⟩ : ∃ Ws, wordsOf xs = Ws := ⟨_, rfl⟩
  rw [hW] at hwl
  rw [hW]
  have HW := Lib.hid hW
  have HWL := Lib.hid hwl
  clear hW hwl hL
  go_enter Try.func40, Try.ntmps40
  go_wp2_with fail
  go_loopw [3, 4] (fun v i wr => ∃ (m : Nat), m ≤ len + 1 ∧ m % 2 = 0 ∧ i = .int .i64 (m : Int) ∧ OwnI wr w.heap.size v (Ws.take (m / 2)) ∧ Below w.heap.size w wr)
    (fun _ i _ => len + 1 - (intOf i).toNat)
  case atStart => exact ⟨0, by omega, rfl, rfl, by rw [show (0 : Nat) / 2 = 0 from rfl, List.take_zero]; exact OwnI.nil_ _ _, Below.refl _ _⟩
  case round =>
    obtain ⟨m, hm, he, rfl, hown, hbel⟩ := hrel
    have hsz := hbel.size
    have hr := hI.below (hbel.mono hBw)
    by_cases hlt : m < len
    · have hlt' : (m : Int) < (len : Int) := by omega
      obtain ⟨b, off, rfl, hb⟩ := hr.addr (by omega)
      have hc := bat_cell hr hlt
      have l0 := batN_lt xs m
      have ht : Ws.take (m / 2) ++ [wat xs m] = Ws.take ((m + 2) / 2) := by rw [← HW.out]; exact words_take (by rw [HL.out]; exact hlt) he
      have htl : (Ws.take (m / 2)).length ≤ 1000000 := by rw [List.length_take]; have := HWL.out; rw [HL.out] at this; omega
      have HT := Lib.hid ht
      have HTL := Lib.hid htl
      clear ht htl
      by_cases h2 : m + 1 < len
      · have h2' : (m : Int) + 1 < (len : Int) := by omega
        have hc2 := bat_cell hr h2
        have l1 := batN_lt xs (m + 1)
        have hn : (256 : Int) * (batN xs m : Int) + (batN xs (m + 1) : Int) = ((wat xs m : Nat) : Int) := by unfold wat; omega
        have HN := Lib.hid hn
        clear hn hr
        obtain ⟨x, hx⟩ : ∃ x, batN xs m = x := ⟨_, rfl⟩
        obtain ⟨y, hy⟩ : ∃ y, batN xs (m + 1) = y := ⟨_, rfl⟩
        obtain ⟨z, hz⟩ : ∃ z, wat xs m = z := ⟨_, rfl⟩
        rw [hx, hy, hz] at HN
        rw [hx] at hc l0
        rw [hy] at hc2 l1
        rw [hz] at HT
        clear hx hy hz
        have hg : (wr.alloc (.cells #[.int .i64 (256 * (x : Int) + (y : Int))] 3)).heap[wr.heap.size]? = some (.cells #[vI z] 3 (0, 0)) := by rw [HN.out]; exact heap_alloc_new wr _
        go_wp2_with (at_builtin; refine wpList_appendI rfl _ _ rfl w.heap.size _ (Ws.take (m / 2)) (by rfl) (hown.alloc _) z wr.heap.size (by rfl) hg HTL.out (by simp; omega) ?_; intro v' w1 hown' hgrow _)
        have hb1 := (hbel.alloc hsz (.cells #[.int .i64 (256 * (x : Int) + (y : Int))] 3)).grown hgrow (by simp; omega) hown.lt
        rw [HT.out] at hown'
        go_wp2_with fail
        go_roundw
        case rel => exact ⟨m + 2, by omega, by omega, by go_num, hown', hb1⟩
        case measure => simp [intOf]; omega
      · have h2' : ¬ (m : Int) + 1 < (len : Int) := by omega
        have hn : (256 : Int) * (batN xs m : Int) = ((wat xs m : Nat) : Int) := by unfold wat; rw [bat_past (k := m + 1) (by rw [HL.out]; omega)]; omega
        have HN := Lib.hid hn
        clear hn hr
        obtain ⟨x, hx⟩ : ∃ x, batN xs m = x := ⟨_, rfl⟩
        obtain ⟨z, hz⟩ : ∃ z, wat xs m = z := ⟨_, rfl⟩
        rw [hx, hz] at HN
        rw [hx] at hc l0
        rw [hz] at HT
        clear hx hz
        have hg : (wr.alloc (.cells #[.int .i64 (256 * (x : Int))] 3)).heap[wr.heap.size]? = some (.cells #[vI z] 3 (0, 0)) := by rw [HN.out]; exact heap_alloc_new wr _
        go_wp2_with (at_builtin; refine wpList_appendI rfl _ _ rfl w.heap.size _ (Ws.take (m / 2)) (by rfl) (hown.alloc _) z wr.heap.size (by rfl) hg HTL.out (by simp; omega) ?_; intro v' w1 hown' hgrow _)
        have hb1 := (hbel.alloc hsz (.cells #[.int .i64 (256 * (x : Int))] 3)).grown hgrow (by simp; omega) hown.lt
        rw [HT.out] at hown'
        go_wp2_with fail
        go_roundw
        case rel => exact ⟨m + 2, by omega, by omega, by go_num, hown', hb1⟩
        case measure => simp [intOf]; omega
    · have hlt' : ¬ (m : Int) < (len : Int) := by omega
      have ht : Ws.take (m / 2) = Ws := List.take_of_length_le (by have := HWL.out; rw [HL.out] at this; omega)
      rw [ht] at hown
      clear ht
      go_wp2_with fail
      go_ret
      exact ⟨_, rfl, hown, hbel⟩

set_option maxHeartbeats 400000 in
/-- The reference's Ring. -/
theorem rring_any (a b : Nat) (ha : a ≤ 65535) (hb : b ≤ 65535) (w : World) :
    Calls Try.prog 41 #[.int .i64 (a : Int), .int .i64 (b : Int)] w fun e w' => e = .returned (.int .i64 ((ring a b : Nat) : Int)) ∧ w = w' := by
  by_cases h : 65535 < a + b
  · have h' : (65535 : Int) < (a : Int) + b := by omega
    have e : ((ring a b : Nat) : Int) = (a : Int) + b - 65535 := by unfold ring; rw [if_pos h]; omega
    rw [e]
    go_enter Try.func41, Try.ntmps41
    go_wp2_with fail
    go_ret
    exact ⟨rfl, rfl⟩
  · have h' : ¬ (65535 : Int) < (a : Int) + b := by omega
    have e : ((ring a b : Nat) : Int) = (a : Int) + b := by unfold ring; rw [if_neg h]; omega
    rw [e]
    go_enter Try.func41, Try.ntmps41
    go_wp2_with fail
    go_ret
    exact ⟨rfl, rfl⟩
theorem dropN_at {xs : List Nat} {k x : Nat} (h : xs[k]? = some x) : xs.drop k = x :: xs.drop (k + 1) := by
  obtain ⟨hl, he⟩ := List.getElem?_eq_some_iff.1 h
  rw [List.drop_eq_getElem_cons hl, he]
theorem ring_le' {a b : Nat} (ha : a ≤ 65535) (hb : b ≤ 65535) : ring a b ≤ 65535 := ring_le ha hb
/-- The reference's Words, its answer written out. -/
theorem rwords_at (A : Option Addr) (len cap : Nat) (xs : List UInt8) (hlen : len ≤ 100000) (w : World) {B : Nat} (hI : Rd w B A len xs) (hBw : B ≤ w.heap.size) (m : Nat) (hm : (len + 1) / 2 = m) :
    Calls Try.prog 40 #[.slice A len cap] w fun e W' => ∃ A' c, e = .returned (.slice A' m c) ∧ RdI W' W'.heap.size A' m (wordsOf xs) ∧ Below w.heap.size w W' :=
  (rwords_any A len cap xs hlen w hI hBw).mono fun e W' ⟨v, he, ho, hb⟩ => by
    obtain ⟨A', m', c, rfl, hml, _, _, hr⟩ := ho.sl
    rw [wordsOf_length, hI.len, hm] at hml
    subst hml
    exact ⟨A', c, he, hr, hb⟩

set_option maxRecDepth 100000 in
set_option maxHeartbeats 2000000 in
/-- The reference's Sum. -/
theorem rsum_any (A : Option Addr) (len cap : Nat) (xs : List UInt8) (hlen : len ≤ 100000) (w : World) {B : Nat} (hI : Rd w B A len xs) (hBw : B ≤ w.heap.size) :
    Calls Try.prog 34 #[.slice A len cap] w fun e W' => e = .returned (.int .i64 ((ckOf xs : Nat) : Int)) ∧ Below w.heap.size w W' := by
  have hR := ring_words xs
  have hRl := nrm_le (wsum false xs)
  have hck : ckOf xs = 65535 - rsumOf xs := rfl
  rw [show nrm (wsum false xs) = rsumOf xs from rfl] at hRl
  rw [hck]
  obtain ⟨R, hr⟩ : ∃ R, rsumOf xs = R := ⟨_, rfl⟩
  rw [hr] at hR hRl ⊢
  have he : ((65535 - R : Nat) : Int) = 65535 - (R : Int) := by omega
  rw [he]
  obtain ⟨m, hm⟩ : ∃ m, (len + 1) / 2 = m := ⟨_, rfl⟩
  have hml : m ≤ 100000 := by omega
  have HW := Lib.hid (rwords_at A len cap xs hlen w hI hBw m hm)
  have hle := wordsOf_le xs
  obtain ⟨Ws, hWs⟩ : ∃ Ws, wordsOf xs = Ws := ⟨_, rfl⟩
  rw [hWs] at HW hR hle
  have HR := Lib.hid hR
  clear hck hr he hm hR hWs
  go_enter Try.func34, Try.ntmps34
  go_wp2_with fail
  refine HW.out.mono ?_
  rintro e w1 ⟨A1, c1, rfl, hr1, hb1⟩
  have HL := Lib.hid hr1.len
  go_wp2_with fail
  go_loop [4, 5] (fun n i => ∃ (k S : Nat), k ≤ m ∧ S ≤ 65535 ∧ n = .int .i64 (S : Int) ∧ i = .int .i64 (k : Int) ∧ (Ws.drop k).foldl ring S = R)
    (fun _ i => m - (intOf i).toNat)
  case atStart => exact ⟨0, 0, by omega, by omega, rfl, rfl, by rw [List.drop_zero]; exact HR.out⟩
  case round =>
    obtain ⟨k, S, hk, hS, rfl, rfl, hs⟩ := hrel
    by_cases hlt : k < m
    · have hlt' : (k : Int) < (m : Int) := by omega
      obtain ⟨b, off, rfl, hb⟩ := hr1.addr (by omega)
      obtain ⟨x, hx⟩ : ∃ x, Ws[k]? = some x := ⟨_, List.getElem?_eq_getElem (by rw [HL.out]; exact hlt)⟩
      have hc := hr1.cell hx
      have hxl := hle x (List.mem_of_getElem? hx)
      rw [dropN_at hx, List.foldl_cons] at hs
      have hrl := ring_le' hS hxl
      have HQ := Lib.hid hs
      have HC := Lib.hid (rring_any S x hS hxl)
      clear hs hx
      go_wp2_with fail
      refine (HC.out _).mono ?_
      rintro e w' ⟨rfl, rfl⟩
      go_wp2_with fail
      go_round
      case rel => exact ⟨k + 1, ring S x, by omega, hrl, rfl, by go_num, HQ.out⟩
      case measure => simp [intOf]; omega
    · obtain rfl : k = m := by omega
      rw [List.drop_of_length_le (by rw [HL.out]; omega)] at hs
      have hs' : S = R := hs
      clear hs
      have HQ := Lib.hid hs'
      clear hs'
      go_wp2_with fail
      go_ret
      rw [← HQ.out]
      exact ⟨rfl, hb1⟩

end Go.Proofs.Ytgjjepcjdekihaa
