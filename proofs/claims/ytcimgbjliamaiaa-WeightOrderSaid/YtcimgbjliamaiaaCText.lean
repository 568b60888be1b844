/-
  Byte slices turned into strings; slices made and cut; the reference's Same. For a seat with octet's Put and Get.
-/
import Derived.Test.YtcimgbjliamaiaaPut
import Derived.Laws.BytesArg
namespace Go.Proofs.Ytcimgbjliamaiaa
open Go.RowKit Go.Shelf

theorem strOf8 (xs : List UInt8) : strOfNums (xs.map fun x => (x.toNat : Int)) = ⟨xs.toArray⟩ := by
  unfold strOfNums
  rw [List.map_map]
  congr 2
  conv => rhs; rw [← List.map_id xs]
  apply List.map_congr_left
  intro x _
  simp

/-- string(b) -/
theorem run_str8 {w : World} {B n : Nat} {A : Option Addr} {xs : List UInt8} (h : Rd w B A n xs) (c : Nat) : (convert 43 9 (.slice A n c)).run Try.prog w = .ok (.string ⟨xs.toArray⟩) w := by
  rcases Nat.eq_zero_or_pos n with rfl | hn
  · obtain rfl : xs = [] := List.eq_nil_of_length_eq_zero h.len
    cases A with
    | none => exact run_convert_bytes_nil w 43 5 Try.underlying43 Try.underlying5 0 c 9 Try.underlying9
    | some ad =>
      rw [run_convert_bytes_string w 43 9 5 _ 0 c Try.underlying43 Try.underlying5 Try.underlying9]
      rw [run_bytesToString w ad 0 c [] (by simp [loadCells, loadCellsFrom])]
      rfl
  · obtain ⟨b, off, rfl, _, hc⟩ := h.2 hn
    have := run_convert_bytes_arg (P := Try.prog) w 43 5 Try.underlying43 Try.underlying5 b off n c (xs.map fun x => (x.toNat : Int)) (by rw [List.length_map, h.len]) (fun i hi => by
      rw [hc i (xs[i]'(by rw [h.len]; exact hi)) (List.getElem?_eq_getElem (by rw [h.len]; exact hi))]
      simp [v8, h.len, hi]) 9 Try.underlying9
    rw [strOf8] at this
    exact this

set_option maxHeartbeats 400000 in
/-- The reference's Same: true of two slices of the same bytes. -/
theorem same_any (w : World) {B B' n n' : Nat} {A A' : Option Addr} (c c' : Nat) {xs : List UInt8} (h : Rd w B A n xs) (h' : Rd w B' A' n' xs) :
    Calls Try.prog 23 #[.slice A n c, .slice A' n' c'] w fun e w' => e = .returned (.bool true) ∧ w = w' := by
  have h1 := run_str8 h c
  have h2 := run_str8 h' c'
  go_enter Try.func23, Try.ntmps23
  go_wp2
  go_ret
  exact ⟨rfl, rfl⟩

theorem list_ne {xs ys : List UInt8} (hne : xs ≠ ys) : (xs == ys) = false := beq_eq_false_iff_ne.2 hne

set_option maxHeartbeats 400000 in
/-- The reference's Same: false of two slices of unlike bytes. -/
theorem differ_any (w : World) {B B' n n' : Nat} {A A' : Option Addr} (c c' : Nat) {xs ys : List UInt8} (h : Rd w B A n xs) (h' : Rd w B' A' n' ys) (hne : xs ≠ ys) :
    Calls Try.prog 23 #[.slice A n c, .slice A' n' c'] w fun e w' => e = .returned (.bool false) ∧ w = w' := by
  have h1 := run_str8 h c
  have h2 := run_str8 h' c'
  have h3 := list_ne hne
  go_enter Try.func23, Try.ntmps23
  go_wp2
  go_ret
  exact ⟨rfl, rfl⟩

theorem Own8.sl {w : World} {base : Nat} {v : Value} {xs : List UInt8} (h : Own8 w base v xs) : ∃ A m c, v = .slice A m c ∧ m = xs.length ∧ m ≤ c ∧ c ≤ maxLen ∧ Rd w w.heap.size A m xs := by
  obtain ⟨A, c, rfl, h1, h2, hr, _⟩ := h.rd
  exact ⟨A, _, c, rfl, rfl, h1, h2, hr⟩
/-- A slice value's length. -/
def lenOf8 : Value → Nat | .slice _ n _ => n | _ => 0
theorem val8 (x : UInt8) : Value.int .u8 (x.toNat : Int) = v8 x := rfl
theorem byte_mod (m : Nat) : ((m : Int) % 256) = ((UInt8.ofNat m).toNat : Int) := by
  rw [UInt8.toNat_ofNat']; omega

/-- make([]byte, 0, c): an owned slice of nothing. -/
theorem Own8.made0 (w : World) (c : Nat) (hc : c ≤ maxLen) : Own8 (w.alloc (.cells (madeCells #[.int .u8 0] c) 5)) w.heap.size (.slice (some ⟨w.heap.size, 0, none⟩) 0 c) [] := by
  have h := (Row8.made w c).own (base := w.heap.size) (n := 0) (Nat.le_refl _) (Nat.zero_le _) (by simpa using hc)
  simpa using h
end Go.Proofs.Ytcimgbjliamaiaa
