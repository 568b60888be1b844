/-
  Byte slices turned into strings; the reference's Same and Padded.
-/
import Derived.Test.YtgfgpnhljjkmjaaRefs
import Derived.Laws.BytesArg
namespace Go.Proofs.Ytgfgpnhljjkmjaa
open Go.RowKit Go.Shelf

theorem strOf8 (xs : List UInt8) : strOfNums (xs.map fun x => (x.toNat : Int)) = ⟨xs.toArray⟩ := by
  unfold strOfNums
  rw [List.map_map]
  congr 2
  conv => rhs; rw [← List.map_id xs]
  apply List.map_congr_left
  intro x _
  simp

/-- string(b) -/
theorem run_str8 {w : World} {B n : Nat} {A : Option Addr} {xs : List UInt8} (h : Rd w B A n xs) (c : Nat) : (convert 23 9 (.slice A n c)).run Try.prog w = .ok (.string ⟨xs.toArray⟩) w := by
  rcases Nat.eq_zero_or_pos n with rfl | hn
  · obtain rfl : xs = [] := List.eq_nil_of_length_eq_zero h.len
    cases A with
    | none => exact run_convert_bytes_nil w 23 5 Try.underlying23 Try.underlying5 0 c 9 Try.underlying9
    | some ad =>
      rw [run_convert_bytes_string w 23 9 5 _ 0 c Try.underlying23 Try.underlying5 Try.underlying9]
      rw [run_bytesToString w ad 0 c [] (by simp [loadCells, loadCellsFrom])]
      rfl
  · obtain ⟨b, off, rfl, _, hc⟩ := h.2 hn
    have := run_convert_bytes_arg (P := Try.prog) w 23 5 Try.underlying23 Try.underlying5 b off n c (xs.map fun x => (x.toNat : Int)) (by rw [List.length_map, h.len]) (fun i hi => by
      rw [hc i (xs[i]'(by rw [h.len]; exact hi)) (List.getElem?_eq_getElem (by rw [h.len]; exact hi))]
      simp [v8, h.len, hi]) 9 Try.underlying9
    rw [strOf8] at this
    exact this

set_option maxHeartbeats 400000 in
/-- The reference's Same: true of two slices of the same bytes. -/
theorem same_any (w : World) {B B' n n' : Nat} {A A' : Option Addr} (c c' : Nat) {xs : List UInt8} (h : Rd w B A n xs) (h' : Rd w B' A' n' xs) :
    Calls Try.prog 10 #[.slice A n c, .slice A' n' c'] w fun e w' => e = .returned (.bool true) ∧ w = w' := by
  have h1 := run_str8 h c
  have h2 := run_str8 h' c'
  go_enter Try.func10, Try.ntmps10
  go_wp2
  go_ret
  exact ⟨rfl, rfl⟩

theorem Own8.sl {w : World} {base : Nat} {v : Value} {xs : List UInt8} (h : Own8 w base v xs) : ∃ A m c, v = .slice A m c ∧ m = xs.length ∧ m ≤ c ∧ c ≤ maxLen ∧ Rd w w.heap.size A m xs := by
  obtain ⟨A, c, rfl, h1, h2, hr, _⟩ := h.rd
  exact ⟨A, _, c, rfl, rfl, h1, h2, hr⟩

/-- A slice value's length. -/
def lenOf8 : Value → Nat | .slice _ n _ => n | _ => 0

set_option maxRecDepth 100000 in
set_option maxHeartbeats 1000000 in
/-- The reference's Padded. -/
theorem rpadded_any (A : Option Addr) (len cap : Nat) (xs : List UInt8) (hlen : len ≤ 100000000) (w : World) (hI : Rd w w.heap.size A len xs) :
    Calls Try.prog 19 #[.slice A len cap] w fun e W' => ∃ v, e = .returned v ∧ Own8 W' w.heap.size v (xs ++ List.replicate (padN len) 0) ∧ Below w.heap.size w W' := by
  have HL := Lib.hid hI.len
  go_enter Try.func19, Try.ntmps19
  have how0 := (show Row8 (w.alloc (.cells #[] 5)) w.heap.size [] from heap_alloc_new w _).own (base := w.heap.size) (Nat.le_refl _) (Nat.le_refl _) (by unfold maxLen; simp)
  go_wp2_with (at_builtin; refine wpList_append8 rfl _ _ rfl w.heap.size _ [] (by rfl) how0 _ _ _ _ xs (by rfl) (hI.alloc (Nat.le_refl _) _) (by simp; omega) (by simp) ?_; intro v0 w0 hown0 hgrow0 _)
  have hb0 := ((Below.refl w.heap.size w).alloc (Nat.le_refl _) (.cells #[] 5)).grown hgrow0 (by simp) how0.lt
  clear how0 hgrow0 hI
  go_wp2_with fail
  go_loopw [3] (fun v wr => ∃ j : Nat, j ≤ padN len ∧ Own8 wr w.heap.size v (xs ++ List.replicate j 0) ∧ Below w.heap.size w wr)
    (fun v _ => padN len - (lenOf8 v - len))
  case atStart => exact ⟨0, Nat.zero_le _, by simpa using hown0, hb0⟩
  case round =>
    obtain ⟨j, hj, hown, hbel⟩ := hrel
    have hsz := hbel.size
    have hj3 : padN len ≤ 3 := by unfold padN; omega
    obtain ⟨A1, m, c1, rfl, hm, hmc, hcm, hrd⟩ := hown.sl
    have hm2 : m = len + j := by rw [hm, List.length_append, HL.out, List.length_replicate]
    clear hm
    have hml : m ≤ 100000003 := by omega
    by_cases hlt : j < padN len
    · have hne : ¬ ((m : Int) % 4 = 0) := by unfold padN at hlt; omega
      have hle : (xs ++ List.replicate j (0 : UInt8)).length ≤ 1000000000 := by rw [List.length_append, HL.out, List.length_replicate]; omega
      have HM := Lib.hid hm2
      clear hm2
      go_wp2_with (at_builtin; refine wpList_append8 rfl _ _ rfl w.heap.size _ _ (by rfl) (hown.alloc _) _ _ _ _ [0] (by rfl) (Rd.one wr 0) (by omega) (by simp; omega) ?_; intro v' w1 hown' hgrow _)
      have hb1 := (hbel.alloc hsz (.cells #[.int .u8 ((0 : UInt8).toNat : Int)] 5)).grown hgrow (by simp; omega) hown.lt
      have hown2 : Own8 w1 w.heap.size v' (xs ++ List.replicate (j + 1) 0) := by
        have e : xs ++ List.replicate (j + 1) (0 : UInt8) = xs ++ List.replicate j 0 ++ [0] := by
          rw [List.append_assoc, List.replicate_succ']
        rw [e]; exact hown'
      clear hown'
      obtain ⟨A2, m2, c2, rfl, hm3, _, _, _⟩ := hown2.sl
      have hm4 : m2 = len + (j + 1) := by rw [hm3, List.length_append, HL.out, List.length_replicate]
      have HM4 := Lib.hid hm4
      clear hm3 hm4
      go_wp2_with fail
      go_roundw
      case rel => exact ⟨j + 1, by omega, hown2, hb1⟩
      case measure =>
        have h1 := HM.out
        have h2 := HM4.out
        simp only [lenOf8]
        omega
    · obtain rfl : j = padN len := by omega
      have hne : (m : Int) % 4 = 0 := by rw [hm2]; unfold padN; omega
      clear hm2
      go_wp2_with fail
      go_ret
      exact ⟨_, rfl, hown, hbel⟩
end Go.Proofs.Ytgfgpnhljjkmjaa
