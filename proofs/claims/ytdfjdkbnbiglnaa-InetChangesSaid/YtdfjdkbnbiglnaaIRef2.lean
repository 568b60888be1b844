/-
  The document's answers of layer 6: Sum, Change, Changed.
-/
import Derived.Test.YtdfjdkbnbiglnaaIRef
import Derived.BigQuiet
namespace Go.Proofs.Ytdfjdkbnbiglnaa
open Go.RowKit Go.Lib

theorem dropN_at {xs : List Nat} {k x : Nat} (h : xs[k]? = some x) : xs.drop k = x :: xs.drop (k + 1) := by
  obtain ⟨hl, he⟩ := List.getElem?_eq_some_iff.1 h
  rw [List.drop_eq_getElem_cons hl, he]
theorem ring_le' {a b : Nat} (ha : a ≤ 65535) (hb : b ≤ 65535) : ring a b ≤ 65535 := ring_le ha hb
/-- The reference's Words, its answer written out. -/
theorem rwords_at (A : Option Addr) (len cap : Nat) (xs : List UInt8) (hlen : len ≤ 100000) (w : World) {B : Nat} (hI : Rd w B A len xs) (hBw : B ≤ w.heap.size) (m : Nat) (hm : (len + 1) / 2 = m) :
    Calls Try.prog 21 #[.slice A len cap] w fun e W' => ∃ A' c, e = .returned (.slice A' m c) ∧ RdI W' W'.heap.size A' m (wordsOf xs) ∧ Below w.heap.size w W' :=
  (rwords_any A len cap xs hlen w hI hBw).mono fun e W' ⟨v, he, ho, hb⟩ => by
    obtain ⟨A', m', c, rfl, hml, _, _, hr⟩ := ho.sl
    rw [wordsOf_length, hI.len, hm] at hml
    subst hml
    exact ⟨A', c, he, hr, hb⟩

set_option maxRecDepth 100000 in
set_option maxHeartbeats 2000000 in
/-- The reference's Sum. -/
theorem rsum_any (A : Option Addr) (len cap : Nat) (xs : List UInt8) (hlen : len ≤ 100000) (w : World) {B : Nat} (hI : Rd w B A len xs) (hBw : B ≤ w.heap.size) :
    Calls Try.prog 11 #[.slice A len cap] w fun e W' => e = .returned (.int .i64 ((ckOf xs : Nat) : Int)) ∧ Below w.heap.size w W' := by
  have hR := ring_words xs
  have hRl := nrm_le (wsum false xs)
  have hck : ckOf xs = 65535 - rsumOf xs := rfl
  rw [show nrm (wsum false xs) = rsumOf xs from rfl] at hRl
  rw [hck]
  obtain ⟨R, hr⟩ : ∃ R, rsumOf xs = R := ⟨_, rfl⟩
  rw [hr] at hR hRl ⊢
  have he : ((65535 - R : Nat) : Int) = 65535 - (R : Int) := by omega
  rw [he]
  obtain ⟨m, hm⟩ : ∃ m, (len + 1) / 2 = m := ⟨_, rfl⟩
  have hml : m ≤ 100000 := by omega
  have HW := Lib.hid (rwords_at A len cap xs hlen w hI hBw m hm)
  have hle := wordsOf_le xs
  obtain ⟨Ws, hWs⟩ : ∃ Ws, wordsOf xs = Ws := ⟨_, rfl⟩
  rw [hWs] at HW hR hle
  have HR := Lib.hid hR
  clear hck hr he hm hR hWs
  go_enter Try.func11, Try.ntmps11
  go_wp2_with fail
  refine HW.out.mono ?_
  rintro e w1 ⟨A1, c1, rfl, hr1, hb1⟩
  have HL := Lib.hid hr1.len
  go_wp2_with fail
  go_loop [4, 5] (fun n i => ∃ (k S : Nat), k ≤ m ∧ S ≤ 65535 ∧ n = .int .i64 (S : Int) ∧ i = .int .i64 (k : Int) ∧ (Ws.drop k).foldl ring S = R)
    (fun _ i => m - (intOf i).toNat)
  case atStart => exact ⟨0, 0, by omega, by omega, rfl, rfl, by rw [List.drop_zero]; exact HR.out⟩
  case round =>
    obtain ⟨k, S, hk, hS, rfl, rfl, hs⟩ := hrel
    by_cases hlt : k < m
    · have hlt' : (k : Int) < (m : Int) := by omega
      obtain ⟨b, off, rfl, hb⟩ := hr1.addr (by omega)
      obtain ⟨x, hx⟩ : ∃ x, Ws[k]? = some x := ⟨_, List.getElem?_eq_getElem (by rw [HL.out]; exact hlt)⟩
      have hc := hr1.cell hx
      have hxl := hle x (List.mem_of_getElem? hx)
      rw [dropN_at hx, List.foldl_cons] at hs
      have hrl := ring_le' hS hxl
      have HQ := Lib.hid hs
      have HC := Lib.hid (rring_any S x hS hxl)
      clear hs hx
      go_wp2_with fail
      refine (HC.out _).mono ?_
      rintro e w' ⟨rfl, rfl⟩
      go_wp2_with fail
      go_round
      case rel => exact ⟨k + 1, ring S x, by omega, hrl, rfl, by go_num, HQ.out⟩
      case measure => simp [intOf]; omega
    · obtain rfl : k = m := by omega
      rw [List.drop_of_length_le (by rw [HL.out]; omega)] at hs
      have hs' : S = R := hs
      clear hs
      have HQ := Lib.hid hs'
      clear hs'
      go_wp2_with fail
      go_ret
      rw [← HQ.out]
      exact ⟨rfl, hb1⟩

set_option maxHeartbeats 400000 in
/-- The reference's Change. -/
theorem rchange_any (c m n : Nat) (hc : c < 65536) (hm : m < 65536) (hn : n < 65536) (w : World) :
    Calls Try.prog 14 #[.int .i64 (c : Int), .int .i64 (m : Int), .int .i64 (n : Int)] w fun e w' => e = .returned (.int .i64 ((chg c m n : Nat) : Int)) ∧ w = w' := by
  have h1 := rring_any (65535 - c) (65535 - m) (by omega) (by omega)
  have hl1 := ring_le' (a := 65535 - c) (b := 65535 - m) (by omega) (by omega)
  have h2 := rring_any (ring (65535 - c) (65535 - m)) n hl1 (by omega)
  have hl2 := ring_le' (a := ring (65535 - c) (65535 - m)) (b := n) hl1 (by omega)
  unfold chg
  obtain ⟨R, hR⟩ : ∃ R, ring (65535 - c) (65535 - m) = R := ⟨_, rfl⟩
  rw [hR] at h1 hl1 h2 hl2 ⊢
  obtain ⟨S, hS⟩ : ∃ S, ring R n = S := ⟨_, rfl⟩
  rw [hS] at h2 hl2 ⊢
  rw [show ((65535 - S : Nat) : Int) = 65535 - (S : Int) by omega]
  rw [show ((65535 - c : Nat) : Int) = 65535 - (c : Int) by omega, show ((65535 - m : Nat) : Int) = 65535 - (m : Int) by omega] at h1
  have H1 := Lib.hid h1
  have H2 := Lib.hid h2
  clear h1 h2 hR hS
  go_enter Try.func14, Try.ntmps14
  go_wp2_with fail
  refine (H1.out _).mono ?_
  rintro e w' ⟨rfl, rfl⟩
  go_wp2_with fail
  refine (H2.out _).mono ?_
  rintro e w' ⟨rfl, rfl⟩
  go_wp2_with fail
  go_ret
  exact ⟨rfl, rfl⟩
end Go.Proofs.Ytdfjdkbnbiglnaa
