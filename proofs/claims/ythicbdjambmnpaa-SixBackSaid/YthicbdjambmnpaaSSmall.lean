/-
  The contracts of six's small functions: num, total, size, isExt, within; of the document's Extension and size.
-/
import Derived.Test.YthicbdjambmnpaaSCell
import Derived.Deep.QuietTactic
import Derived.Deep.RegionLaw
import Derived.BigQuiet
import Derived.Lib.VarintBits
import Derived.IntWalk
namespace Go.Proofs.Ythicbdjambmnpaa
open Go.RowKit Go.Lib

theorem Rd.cellD {w : World} {B n : Nat} {xs : List UInt8} {b off : Nat} (h : Rd w B (some ⟨b, off, none⟩) n xs) {k : Nat} (hk : k < n) : w.cell? ⟨b, off + k, none⟩ = some (.int .u8 (batN xs k : Int)) := by
  have := h.cell hk
  unfold batN
  rw [List.getD, List.getElem?_eq_getElem (by rw [h.len]; exact hk)]
  exact this
set_option maxHeartbeats 1000000 in
theorem num_any {A : Option Addr} {len : Nat} {cap p : Nat} {xs : List UInt8} (z : Int) (hz : z = (p : Int)) (hlen : len ≤ 1000000000) (hcap : len ≤ cap) (hcap2 : cap ≤ maxLen) (h : p + 2 ≤ len) {w : World} (hI : Rd w w.heap.size A len xs) :
    Calls Try.prog 32 #[.slice A len cap, .int .i64 z] w fun e w' => e = .returned (.int .i64 (wat xs p : Nat)) ∧ Below w.heap.size w w' := by
  subst hz
  have hcut := run_cut8 A len cap p 2 (p : Int) ((p : Int) + 2) rfl (by omega) (by omega)
  have hr := hI.cut (l := p) (n := 2) h cap hcap
  have hg := get_any (cutA A cap p) 2 (cap - p) ((xs.drop p).take 2) true (by omega) (by omega) (by omega) w hr
  have e : getOf ((xs.drop p).take 2) true = wat xs p := by
    rw [← wat_num xs p (by rw [hI.len]; exact h)]
    unfold getOf
    rw [if_pos rfl, List.take_of_length_le (i := 8) (by rw [List.length_take]; omega)]
  rw [e] at hg
  have hlt := wat_lt xs p
  obtain ⟨n, hn⟩ : ∃ n, wat xs p = n := ⟨_, rfl⟩
  rw [hn] at hg hlt ⊢
  have HG := Lib.hid hg
  have hw : IntKind.i64.wrap ((p : Int) + 2) = (p : Int) + 2 := by rw [IntKind.wrap_i64]; omega
  clear hg e hn hr hI
  go_enter Try.func32, Try.ntmps32
  go_wp2_with fail
  refine HG.out.mono ?_
  rintro e w1 ⟨rfl, hb⟩
  go_wp2_with fail
  go_ret
  exact ⟨rfl, hb⟩

set_option maxHeartbeats 1000000 in
theorem total_any {A : Option Addr} {len : Nat} {cap : Nat} {xs : List UInt8} (hlen : len ≤ 1000000000) (hcap : len ≤ cap) (hcap2 : cap ≤ maxLen) (h : 40 ≤ len) {w : World} (hI : Rd w w.heap.size A len xs) :
    Calls Try.prog 29 #[.slice A len cap] w fun e w' => e = .returned (.int .i64 (totN xs : Nat)) ∧ Below w.heap.size w w' := by
  have HN := Lib.hid (num_any (p := 4) 4 rfl hlen hcap hcap2 (by omega) hI)
  have e : ((totN xs : Nat) : Int) = 40 + ((wat xs 4 : Nat) : Int) := by unfold totN; omega
  have hlt := wat_lt xs 4
  rw [e]
  clear e hI
  generalize wat xs 4 = n at *
  have hw : IntKind.i64.wrap (40 + (n : Int)) = 40 + (n : Int) := by rw [IntKind.wrap_i64]; omega
  go_enter Try.func29, Try.ntmps29
  go_wp2_with fail
  refine HN.out.mono ?_
  rintro e w1 ⟨rfl, hb⟩
  go_wp2_with fail
  go_ret
  exact ⟨rfl, hb⟩

/-- What size answers. -/
def szI (z : Int) (m : Nat) : Int := if z = 0 ∨ z = 43 ∨ z = 60 then 8 + 8 * (m : Int) else if z = 51 then 8 + 4 * (m : Int) else if z = 44 then 8 else 0
theorem szI_nat {p : Nat} (h : extB p = true) (m : Nat) : szI (p : Int) m = ((szN p m : Nat) : Int) := by
  rcases ext_cases h with rfl | rfl | rfl | rfl | rfl <;> simp [szI, szN]
theorem szI_ext (z : Int) : decide (szI z 0 > 0) = extI z := by
  by_cases h0 : z = 0
  · subst h0; decide
  by_cases h43 : z = 43
  · subst h43; decide
  by_cases h60 : z = 60
  · subst h60; decide
  by_cases h51 : z = 51
  · subst h51; decide
  by_cases h44 : z = 44
  · subst h44; decide
  simp [szI, extI, h0, h43, h60, h51, h44]
set_option maxHeartbeats 1000000 in
theorem size_any (z : Int) (m : Nat) (hm : m < 256) (w : World) : Calls Try.prog 31 #[.int .i64 z, .int .i64 (m : Int)] w fun e w' => e = .returned (.int .i64 (szI z m)) ∧ w = w' := by
  have w2 : IntKind.i64.wrap ((m : Int) * 2) = (m : Int) * 2 := by rw [IntKind.wrap_i64]; omega
  have w3 : IntKind.i64.wrap (4 * ((m : Int) * 2)) = 4 * ((m : Int) * 2) := by rw [IntKind.wrap_i64]; omega
  have w4 : IntKind.i64.wrap (8 + 4 * ((m : Int) * 2)) = 8 + 4 * ((m : Int) * 2) := by rw [IntKind.wrap_i64]; omega
  have w5 : IntKind.i64.wrap (4 * (m : Int)) = 4 * (m : Int) := by rw [IntKind.wrap_i64]; omega
  have w6 : IntKind.i64.wrap (8 + 4 * (m : Int)) = 8 + 4 * (m : Int) := by rw [IntKind.wrap_i64]; omega
  by_cases h0 : z = 0
  · subst h0
    have E : szI 0 m = 8 + 4 * ((m : Int) * 2) := by simp [szI]; omega
    rw [E]
    clear E
    go_enter Try.func31, Try.ntmps31
    go_wp2_with fail
    go_ret
    exact ⟨rfl, rfl⟩
  by_cases h43 : z = 43
  · subst h43
    have E : szI 43 m = 8 + 4 * ((m : Int) * 2) := by simp [szI]; omega
    rw [E]
    clear E
    go_enter Try.func31, Try.ntmps31
    go_wp2_with fail
    go_ret
    exact ⟨rfl, rfl⟩
  by_cases h60 : z = 60
  · subst h60
    have E : szI 60 m = 8 + 4 * ((m : Int) * 2) := by simp [szI]; omega
    rw [E]
    clear E
    go_enter Try.func31, Try.ntmps31
    go_wp2_with fail
    go_ret
    exact ⟨rfl, rfl⟩
  by_cases h51 : z = 51
  · subst h51
    have E : szI 51 m = 8 + 4 * (m : Int) := by simp [szI]
    rw [E]
    clear E
    go_enter Try.func31, Try.ntmps31
    go_wp2_with fail
    go_ret
    exact ⟨rfl, rfl⟩
  by_cases h44 : z = 44
  · subst h44
    have E : szI 44 m = 8 := by simp [szI]
    rw [E]
    clear E
    go_enter Try.func31, Try.ntmps31
    go_wp2_with fail
    go_ret
    exact ⟨rfl, rfl⟩
  have E : szI z m = 0 := by simp [szI, h0, h43, h60, h51, h44]
  rw [E]
  have b0 : (z == 0) = false := by simp [h0]
  have b1 : (z == 43) = false := by simp [h43]
  have b2 : (z == 60) = false := by simp [h60]
  have b3 : (z == 51) = false := by simp [h51]
  have b4 : (z == 44) = false := by simp [h44]
  clear E h0 h43 h60 h51 h44
  go_enter Try.func31, Try.ntmps31
  go_wp2_with fail
  go_ret
  exact ⟨rfl, rfl⟩

set_option maxHeartbeats 1000000 in
theorem isext_any (z : Int) (w : World) : Calls Try.prog 21 #[.int .i64 z] w fun e w' => e = .returned (.bool (extI z)) ∧ w = w' := by
  have h := size_any z 0 (by omega) w
  have hx := szI_ext z
  generalize extI z = b at *
  generalize szI z 0 = n at *
  have HS := Lib.hid h
  have HX := Lib.hid hx
  clear h hx
  go_enter Try.func21, Try.ntmps21
  go_wp2_with fail
  refine HS.out.mono ?_
  rintro e w1 ⟨rfl, rfl⟩
  go_wp2_with fail
  go_ret
  exact ⟨by rw [← HX.out]; rfl, rfl⟩

set_option maxHeartbeats 1000000 in
theorem within_any (n lo hi : Int) (w : World) : Calls Try.prog 33 #[.int .i64 n, .int .i64 lo, .int .i64 hi] w fun e w' => e = .returned (.bool (inB n lo hi)) ∧ w = w' := by
  by_cases h1 : lo ≤ n
  · have d1 : decide (lo ≤ n) = true := decide_eq_true h1
    by_cases h2 : n ≤ hi
    · have e : inB n lo hi = true := decide_eq_true ⟨h1, h2⟩
      rw [e]
      clear e
      go_enter Try.func33, Try.ntmps33
      go_wp2
      go_ret
      exact ⟨rfl, rfl⟩
    · have e : inB n lo hi = false := decide_eq_false (fun h => h2 h.2)
      rw [e]
      clear e
      have b2 : decide (n ≤ hi) = false := decide_eq_false h2
      go_enter Try.func33, Try.ntmps33
      go_wp2
      go_ret
      exact ⟨rfl, rfl⟩
  · have e : inB n lo hi = false := decide_eq_false (fun h => h1 h.1)
    rw [e]
    clear e
    have b2 : decide (lo ≤ n) = false := decide_eq_false h1
    go_enter Try.func33, Try.ntmps33
    go_wp2
    go_ret
    exact ⟨rfl, rfl⟩

set_option maxHeartbeats 1000000 in
theorem rext_any (z : Int) (w : World) : Calls Try.prog 24 #[.int .i64 z] w fun e w' => e = .returned (.bool (extI z)) ∧ w = w' := by
  by_cases h0 : z = 0
  · subst h0
    rw [show extI 0 = true by decide]
    go_enter Try.func24, Try.ntmps24
    go_wp2_with fail
    go_ret
    exact ⟨rfl, rfl⟩
  by_cases h43 : z = 43
  · subst h43
    rw [show extI 43 = true by decide]
    go_enter Try.func24, Try.ntmps24
    go_wp2_with fail
    go_ret
    exact ⟨rfl, rfl⟩
  by_cases h60 : z = 60
  · subst h60
    rw [show extI 60 = true by decide]
    go_enter Try.func24, Try.ntmps24
    go_wp2_with fail
    go_ret
    exact ⟨rfl, rfl⟩
  by_cases h51 : z = 51
  · subst h51
    rw [show extI 51 = true by decide]
    go_enter Try.func24, Try.ntmps24
    go_wp2_with fail
    go_ret
    exact ⟨rfl, rfl⟩
  by_cases h44 : z = 44
  · subst h44
    rw [show extI 44 = true by decide]
    go_enter Try.func24, Try.ntmps24
    go_wp2_with fail
    go_ret
    exact ⟨rfl, rfl⟩
  have E : extI z = false := by simp [extI, h0, h43, h60, h51, h44]
  rw [E]
  have b0 : (z == 0) = false := by simp [h0]
  have b1 : (z == 43) = false := by simp [h43]
  have b2 : (z == 60) = false := by simp [h60]
  have b3 : (z == 51) = false := by simp [h51]
  have b4 : (z == 44) = false := by simp [h44]
  clear E h0 h43 h60 h51 h44
  go_enter Try.func24, Try.ntmps24
  go_wp2_with fail
  go_ret
  exact ⟨rfl, rfl⟩

set_option maxHeartbeats 1000000 in
theorem rsize_any {A : Option Addr} {len cap p at_ : Nat} {xs : List UInt8} (hx : extB p = true) (z y : Int) (hz : z = (p : Int)) (hy : y = (at_ : Int)) (hlen : len ≤ 1000000000) (h : at_ + 2 ≤ len) {w : World} {B : Nat} (hI : Rd w B A len xs) :
    Calls Try.prog 25 #[.int .i64 z, .slice A len cap, .int .i64 y] w fun e w' => e = .returned (.int .i64 ((szN p (batN xs (at_ + 1)) : Nat) : Int)) ∧ w = w' := by
  subst hz hy
  obtain ⟨b, off, rfl, _⟩ := hI.addr (by omega)
  have c1 := hI.cellD (k := at_ + 1) (by omega)
  have hm := batN_lt xs (at_ + 1)
  generalize batN xs (at_ + 1) = m at *
  have hw : IntKind.i64.wrap ((at_ : Int) + 1) = ((at_ + 1 : Nat) : Int) := by rw [IntKind.wrap_i64]; omega
  have l1 : ((at_ + 1 : Nat) : Int) < (len : Int) := by omega
  have w1 : IntKind.i64.wrap (m : Int) = (m : Int) := by rw [IntKind.wrap_i64]; omega
  have w5 : IntKind.i64.wrap (4 * (m : Int)) = 4 * (m : Int) := by rw [IntKind.wrap_i64]; omega
  have w6 : IntKind.i64.wrap (8 + 4 * (m : Int)) = 8 + 4 * (m : Int) := by rw [IntKind.wrap_i64]; omega
  have w7 : IntKind.i64.wrap (8 * (m : Int)) = 8 * (m : Int) := by rw [IntKind.wrap_i64]; omega
  have w8 : IntKind.i64.wrap (8 + 8 * (m : Int)) = 8 + 8 * (m : Int) := by rw [IntKind.wrap_i64]; omega
  rcases ext_cases hx with rfl | rfl | rfl | rfl | rfl
  · rw [show ((szN 0 m : Nat) : Int) = 8 + 8 * (m : Int) by simp [szN]]
    go_enter Try.func25, Try.ntmps25
    go_wp2_with fail
    go_ret
    exact ⟨rfl, rfl⟩
  · rw [show ((szN 43 m : Nat) : Int) = 8 + 8 * (m : Int) by simp [szN]]
    go_enter Try.func25, Try.ntmps25
    go_wp2_with fail
    go_ret
    exact ⟨rfl, rfl⟩
  · rw [show ((szN 60 m : Nat) : Int) = 8 + 8 * (m : Int) by simp [szN]]
    go_enter Try.func25, Try.ntmps25
    go_wp2_with fail
    go_ret
    exact ⟨rfl, rfl⟩
  · rw [show ((szN 51 m : Nat) : Int) = 8 + 4 * (m : Int) by simp [szN]]
    go_enter Try.func25, Try.ntmps25
    go_wp2_with fail
    go_ret
    exact ⟨rfl, rfl⟩
  · rw [show ((szN 44 m : Nat) : Int) = 8 by simp [szN]]
    go_enter Try.func25, Try.ntmps25
    go_wp2_with fail
    go_ret
    exact ⟨rfl, rfl⟩
end Go.Proofs.Ythicbdjambmnpaa
