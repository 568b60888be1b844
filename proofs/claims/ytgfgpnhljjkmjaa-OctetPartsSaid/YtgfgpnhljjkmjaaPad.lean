/-
  The contracts of octet.Pad and octet.Padded.
-/
import Derived.Test.YtgfgpnhljjkmjaaPut
import Derived.Laws.CopyOwn
namespace Go.Proofs.Ytgfgpnhljjkmjaa
open Go.RowKit Go.Shelf

/-- How many bytes are lacking to a multiple of 4. -/
def padOf (z : Int) : Int := if z < 0 then 0 else (4 - z % 4) % 4
theorem padOf_nat (n : Nat) : padOf n = (((4 - n % 4) % 4 : Nat) : Int) := by unfold padOf; rw [if_neg (by omega)]; omega

set_option maxHeartbeats 400000 in
theorem pad_any (z : Int) (h1 : -9223372036854775808 ≤ z) (h2 : z ≤ 9223372036854775807) (w : World) :
    Calls Try.prog 17 #[.int .i64 z] w fun e w' => e = .returned (.int .i64 (padOf z)) ∧ w = w' := by
  by_cases h : z < 0
  · go_enter Try.func17, Try.ntmps17
    go_wp2
    go_ret
    exact ⟨by simp [padOf, h], rfl⟩
  · have hz : 0 ≤ z := by omega
    go_enter Try.func17, Try.ntmps17
    go_wp2
    go_ret
    have e : -(z % 4) % 4 = padOf z := by unfold padOf; rw [if_neg (by omega)]; omega
    exact ⟨by simp [e], rfl⟩

theorem size8 : (Try.prog.info? 5).map (·.size) = some 1 := by kernel_rfl
theorem splice_pad (xs : List UInt8) (p : Nat) : splice ((List.replicate (xs.length + p) (0 : UInt8)).map v8) 0 (xs.map v8) = (xs ++ List.replicate p 0).map v8 := by
  simp [splice]
/-- How many bytes of 0 stand behind so many. -/
def padN (n : Nat) : Nat := (4 - n % 4) % 4

set_option maxRecDepth 100000 in
set_option maxHeartbeats 1000000 in
/-- octet.Padded: a new slice of the bytes, and of so many bytes of 0. -/
theorem padded_any (A : Option Addr) (len cap : Nat) (xs : List UInt8) (hlen : len ≤ 100000000) (w : World) (hI : Rd w w.heap.size A len xs) :
    Calls Try.prog 18 #[.slice A len cap] w fun e W' => ∃ v, e = .returned v ∧ Own8 W' w.heap.size v (xs ++ List.replicate (padN len) 0) ∧ Below w.heap.size w W' := by
  obtain ⟨p, hp, hpn⟩ : ∃ p : Nat, padOf (len : Int) = (p : Int) ∧ padN len = p := ⟨padN len, by rw [padOf_nat]; rfl, rfl⟩
  have hp3 : p ≤ 3 := by unfold padN at hpn; omega
  rw [hpn]
  have HP := Lib.hid hp
  clear hp hpn
  have hmk : ∀ W : World, (Instr.makeSlice 23 (.int .i64 ((len : Int) + (p : Int))) (.int .i64 ((len : Int) + (p : Int)))).run Try.prog W = .ok (.slice (some ⟨W.heap.size, 0, none⟩) (len + p) (len + p)) (W.alloc (.cells (madeCells #[.int .u8 0] (len + p)) 5)) := by
    intro W
    have := run_make8 (len + p) (len + p) (Nat.le_refl _) (by omega) W
    rwa [Int.natCast_add] at this
  have HL := Lib.hid hI.len
  have hrow := Row8.made w (len + p)
  unfold Row8 at hrow
  go_enter Try.func18, Try.ntmps18
  go_wp2_with (first
    | (go_at_call 17; refine (pad_any _ (by omega) (by omega) _).mono ?_; rintro e w' ⟨rfl, rfl⟩; rw [HP.out])
    | ((with_reducible show wpList _ _ _ _ _ _); refine wpList_copy_splice rfl (.tmp 11) (.tmp 12) 23 23 rfl 5 Try.underlying23 size8 _ _ _ _ _ _ (by rfl) (by rfl) w.heap.size 0 ((List.replicate (len + p) (0 : UInt8)).map v8) 5 hrow (xs.map v8) (by rw [List.length_map, HL.out]; exact (Nat.min_eq_left (by omega)).symm) (fun h0 => ⟨rfl, (hI.alloc (Nat.le_refl _) _).cells (by rw [List.length_map, HL.out] at h0; exact h0)⟩) (by simp; have := HL.out; omega) (oneCell8 xs) w.heap.size w ((Below.refl _ _).alloc (Nat.le_refl _) _) (Nat.le_refl _) ?_; intro w2 HG hB2))
  go_ret
  have hR : Row8 w2 w.heap.size (xs ++ List.replicate p 0) := by
    unfold Row8
    rw [← splice_pad, HL.out]
    exact HG.out
  have hl : (xs ++ List.replicate p (0 : UInt8)).length = len + p := by simp [HL.out]
  have how := hR.own (base := w.heap.size) (Nat.le_refl _) (Nat.le_refl _) (by rw [hl]; unfold maxLen; omega)
  rw [List.take_length, hl] at how
  exact ⟨_, rfl, how, hB2⟩
end Go.Proofs.Ytgfgpnhljjkmjaa
