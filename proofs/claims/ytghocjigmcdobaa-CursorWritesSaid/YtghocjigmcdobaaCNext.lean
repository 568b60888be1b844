/-
  The contracts of a reader's next and ahead: the bytes that are next; the varint at which the reader is.
-/
import Derived.Test.YtghocjigmcdobaaCRdr
import Derived.Test.YtghocjigmcdobaaCVarRefs
import Derived.IntWalk
namespace Go.Proofs.Ytghocjigmcdobaa
open Go.RowKit Go.Lib

/-- The part of a slice from byte k on, n bytes: what it reads as. -/
theorem Rd.part {w : World} {B len : Nat} {A : Option Addr} {xs : List UInt8} (h : Rd w B A len xs) {k n : Nat} (hk : k + n ≤ len) (hn : 0 < n) :
    Rd w B (A.map fun a => a.add k) n ((xs.drop k).take n) := by
  refine ⟨by rw [List.length_take, List.length_drop, h.1]; omega, fun _ => ?_⟩
  obtain ⟨b, off, rfl, hb, hc⟩ := h.2 (by omega)
  refine ⟨b, off + k, by simp [add_plain], hb, fun j x hx => ?_⟩
  rw [show off + k + j = off + (k + j) by omega]
  refine hc (k + j) x ?_
  rw [List.getElem?_take] at hx
  split at hx
  · rw [List.getElem?_drop] at hx; exact hx
  · cases hx

/-- b[l:h] of bytes, the address under one name. -/
def cutA (A : Option Addr) (cap l : Nat) : Option Addr := if cap = l then A else A.map fun a => a.add l
theorem Rd.cut {w : World} {B len : Nat} {A : Option Addr} {xs : List UInt8} (h : Rd w B A len xs) {l n : Nat} (hk : l + n ≤ len) (cap : Nat) (hcap : len ≤ cap) : Rd w B (cutA A cap l) n ((xs.drop l).take n) := by
  unfold cutA
  rcases Nat.eq_zero_or_pos n with rfl | hn
  · rw [List.take_zero]; exact Rd.nil_ _
  · rw [if_neg (by omega)]; exact h.part hk hn
theorem run_cut8 (A : Option Addr) (len cap l n : Nat) (h2 : l + n ≤ cap) (W : World) :
    (Instr.slice 22 (.slice A len cap) (some (.int .i64 (l : Int))) (some (.int .i64 ((l : Int) + (n : Int)))) none).run Try.prog W = .ok (.slice (cutA A cap l) n (cap - l)) W := by
  obtain ⟨i0, hi, hz0, hz1, hz2⟩ := info_parts info8
  have e : ((l : Int) + (n : Int)).toNat = l + n := by omega
  have hb := run_sliceBound (P := Try.prog) (w := W) .i64 (l : Int) (l + n) .sliceB (by omega) (by omega)
  simp [Instr.slice, hb, run_underlying Try.underlying22, Instr.sliceBounds, run_sliceBound, sizeOf, typeInfo, hi, hz1, e, cutA, show (l : Int) + (n : Int) ≤ (cap : Int) by omega, show (0 : Int) ≤ (l : Int) + (n : Int) by omega]

set_option maxRecDepth 100000 in
set_option maxHeartbeats 1000000 in
/-- Where enough is left. -/
theorem next_fits {w : World} {P : Nat} {A : Option Addr} {cap : Nat} {s : RS} (h : Rdr w P A cap s) (hf : s.fe = 0) (n : Nat) (hn : n ≤ s.left) :
    Calls Try.prog 48 #[.pointer (some ⟨P, 0, none⟩), .int .i64 (n : Int)] w fun e w' => ∃ A' c', e = .returned (.slice A' n c') ∧ Rd w' P A' n (s.nextB n) ∧ n ≤ c' ∧ c' ≤ maxLen ∧ Rdr w' P A cap (s.next n) ∧ w.grownBy w' (some P) := by
  have hle := h.le
  have hfew := h.few
  have hroom := h.room
  have hmost := h.most
  unfold maxLen at hmost
  have hadd : s.at_ + n ≤ s.xs.length := by unfold RS.left at hn; omega
  rw [RS.next_fits hf hn, RS.nextB_fits hf hn]
  have hn' : (n : Int) ≤ (s.left : Nat) := by omega
  go_enter Try.func48, Try.ntmps48
  go_wp2_with fail
  refine (left_any h).mono ?_
  rintro e w1 ⟨rfl, k, rfl⟩
  have h1 := h.drewN k
  go_wp2_with fail
  refine (failed_no h1 hf).mono ?_
  rintro e w2 ⟨rfl, rfl⟩
  have c1 := h1.c1
  have z1 := h1.fz 1
  have r0 := h1.c0
  have hcut := run_cut8 A s.xs.length cap s.at_ n (by omega)
  have i1 : IntKind.i64.wrap ((s.at_ : Int) + (n : Int)) = (s.at_ : Int) + (n : Int) := IntWalk.i64_in _ (by omega)
  have i2 : IntKind.i64.wrap ((s.at_ : Int) + (n : Int) - (n : Int)) = (s.at_ : Int) := by rw [show (s.at_ : Int) + (n : Int) - (n : Int) = (s.at_ : Int) by omega]; exact IntWalk.i64_in _ (by omega)
  have i3 : (s.at_ : Int) + (n : Int) - (n : Int) = (s.at_ : Int) := by omega
  go_wp2_with fail
  go_quiet (fail)
  go_wp2_with fail
  go_ret
  have g := gb_drewN (gb_set (gb_drewN (World.grownBy.refl w (some P)) k) 1 (.int .i64 ((s.at_ : Int) + (n : Int)))) nq
  have hb : (((w.drewN k).setCell ⟨P, 1, none⟩ (.int .i64 ((s.at_ : Int) + (n : Int)))).drewN nq).heap[P]? = some (.cells #[.slice A s.xs.length cap, .int .i64 ((s.at_ + n : Nat) : Int), .int .i64 (s.fa : Int), .int .i64 (s.fe : Int)] 81 (0, 0)) := heap_set (i := 1) h1.blk (.int .i64 ((s.at_ : Int) + (n : Int)))
  have hR := h.turn (s' := ⟨s.xs, s.at_ + n, s.fa, s.fe⟩) rfl g hb hadd
  exact ⟨_, _, rfl, hR.rd.cut hadd cap hroom, by omega, by unfold maxLen; omega, hR, g⟩

set_option maxRecDepth 100000 in
set_option maxHeartbeats 1000000 in
/-- Where too few are left. -/
theorem next_short {w : World} {P : Nat} {A : Option Addr} {cap : Nat} {s : RS} (h : Rdr w P A cap s) (hf : s.fe = 0) (z : Int) (hz : (s.left : Nat) < z) :
    Calls Try.prog 48 #[.pointer (some ⟨P, 0, none⟩), .int .i64 z] w fun e w' => e = .returned (.slice none 0 0) ∧ Rdr w' P A cap ⟨s.xs, s.at_, s.at_, 2⟩ ∧ w.grownBy w' (some P) := by
  go_enter Try.func48, Try.ntmps48
  go_wp2_with fail
  refine (left_any h).mono ?_
  rintro e w1 ⟨rfl, k, rfl⟩
  have h1 := h.drewN k
  go_wp2_with fail
  refine (fail_any h1 2).mono ?_
  rintro e w2 ⟨rfl, h2, g2⟩
  rw [RS.fail_no hf] at h2
  go_wp2_with fail
  refine (failed_yes h2 (show (2 : Nat) ≠ 0 by decide)).mono ?_
  rintro e w3 ⟨rfl, rfl⟩
  go_wp2_with fail
  go_ret
  exact ⟨rfl, h2, gb_trans (gb_drewN (World.grownBy.refl w (some P)) k) g2⟩

set_option maxRecDepth 100000 in
set_option maxHeartbeats 1000000 in
/-- With a fault. -/
theorem next_bad {w : World} {P : Nat} {A : Option Addr} {cap : Nat} {s : RS} (h : Rdr w P A cap s) (hf : s.fe ≠ 0) (z : Int) :
    Calls Try.prog 48 #[.pointer (some ⟨P, 0, none⟩), .int .i64 z] w fun e w' => e = .returned (.slice none 0 0) ∧ Rdr w' P A cap s ∧ w.grownBy w' (some P) := by
  have HF := Lib.hid hf
  clear hf
  by_cases hz : ((s.left : Nat) : Int) < z
  · go_enter Try.func48, Try.ntmps48
    go_wp2_with fail
    refine (left_any h).mono ?_
    rintro e w1 ⟨rfl, k, rfl⟩
    have h1 := h.drewN k
    go_wp2_with fail
    refine (fail_any h1 2).mono ?_
    rintro e w2 ⟨rfl, h2, g2⟩
    rw [RS.fail_yes HF.out] at h2
    go_wp2_with fail
    refine (failed_yes h2 HF.out).mono ?_
    rintro e w3 ⟨rfl, rfl⟩
    go_wp2_with fail
    go_ret
    exact ⟨rfl, h2, gb_trans (gb_drewN (World.grownBy.refl w (some P)) k) g2⟩
  · have hz' : z ≤ ((s.left : Nat) : Int) := by omega
    go_enter Try.func48, Try.ntmps48
    go_wp2_with fail
    refine (left_any h).mono ?_
    rintro e w1 ⟨rfl, k, rfl⟩
    have h1 := h.drewN k
    go_wp2_with fail
    refine (failed_yes h1 HF.out).mono ?_
    rintro e w3 ⟨rfl, rfl⟩
    go_wp2_with fail
    go_ret
    exact ⟨rfl, h1, gb_drewN (World.grownBy.refl w (some P)) k⟩

/-- The reader's next n bytes. -/
theorem next_any {w : World} {P : Nat} {A : Option Addr} {cap : Nat} {s : RS} (h : Rdr w P A cap s) (n : Nat) :
    Calls Try.prog 48 #[.pointer (some ⟨P, 0, none⟩), .int .i64 (n : Int)] w fun e w' => ∃ A' m' c', e = .returned (.slice A' m' c') ∧ Rd w' P A' m' (s.nextB n) ∧ m' ≤ c' ∧ c' ≤ maxLen ∧ Rdr w' P A cap (s.next n) ∧ w.grownBy w' (some P) := by
  by_cases hf : s.fe = 0
  · by_cases hn : n ≤ s.left
    · exact (next_fits h hf n hn).mono fun e w' ⟨A', c', he, hr⟩ => ⟨A', n, c', he, hr⟩
    · rw [RS.next_short hf (by omega), RS.nextB_short hf (by omega)]
      exact (next_short h hf n (by omega)).mono fun e w' ⟨he, hr, hg⟩ => ⟨none, 0, 0, he, Rd.nil_ _, Nat.le_refl _, by simp [maxLen], hr, hg⟩
  · rw [RS.next_yes hf, RS.nextB_yes hf]
    exact (next_bad h hf n).mono fun e w' ⟨he, hr, hg⟩ => ⟨none, 0, 0, he, Rd.nil_ _, Nat.le_refl _, by simp [maxLen], hr, hg⟩

/-- What stands where the reader is, read as a varint. -/
def RS.got (s : RS) : Got := vget (s.xs.drop s.at_)
/-- The reader behind a look at the varint that stands where it is: a fault, if there is none. -/
def RS.look (s : RS) : RS := if s.fe = 0 ∧ s.got.e ≠ 0 then ⟨s.xs, s.at_, s.at_, s.got.e⟩ else s
/-- The number, and the bytes, that such a look tells. -/
def RS.lookN (s : RS) : Nat := if s.fe = 0 ∧ s.got.e = 0 then s.got.n else 0
def RS.lookK (s : RS) : Nat := if s.fe = 0 ∧ s.got.e = 0 then s.got.k else 0

theorem RS.look_0 {s : RS} (hf : s.fe = 0) (h0 : s.got.e = 0) : s.look = s ∧ s.lookN = s.got.n ∧ s.lookK = s.got.k := by simp [RS.look, RS.lookN, RS.lookK, hf, h0]
theorem RS.look_1 {s : RS} (hf : s.fe = 0) (h0 : s.got.e ≠ 0) : s.look = ⟨s.xs, s.at_, s.at_, s.got.e⟩ ∧ s.lookN = 0 ∧ s.lookK = 0 := by simp [RS.look, RS.lookN, RS.lookK, hf, h0]
theorem RS.look_2 {s : RS} (hf : s.fe ≠ 0) : s.look = s ∧ s.lookN = 0 ∧ s.lookK = 0 := by simp [RS.look, RS.lookN, RS.lookK, hf]
theorem Rd.from {w : World} {B len : Nat} {A : Option Addr} {xs : List UInt8} (h : Rd w B A len xs) {l : Nat} (hk : l ≤ len) (cap : Nat) (hcap : len ≤ cap) : Rd w B (cutA A cap l) (len - l) (xs.drop l) := by
  have := h.cut (l := l) (n := len - l) (by omega) cap hcap
  rwa [List.take_of_length_le (by rw [List.length_drop, h.1]; exact Nat.le_refl _)] at this
theorem run_from8 (A : Option Addr) (len cap l : Nat) (h1 : l ≤ len) (W : World) :
    (Instr.slice 22 (.slice A len cap) (some (.int .i64 (l : Int))) none none).run Try.prog W = .ok (.slice (cutA A cap l) (len - l) (cap - l)) W := by
  obtain ⟨i0, hi, hz0, hz1, hz2⟩ := info_parts info8
  have hb := run_sliceBound (P := Try.prog) (w := W) .i64 (l : Int) len .sliceB (by omega) (by omega)
  simp [Instr.slice, hb, run_underlying Try.underlying22, Instr.sliceBounds, sizeOf, typeInfo, hi, hz1, cutA]

theorem got_e (xs : List UInt8) : (vget xs).e = 0 ∨ (vget xs).e = 2 ∨ (vget xs).e = 3 := by
  rcases vget_tells xs with ⟨q, hg, _⟩ | hg | hg
  · exact .inl (by rw [hg])
  · exact .inr (.inl (by rw [hg]))
  · exact .inr (.inr (by rw [hg]))

set_option maxRecDepth 100000 in
set_option maxHeartbeats 1000000 in
/-- The reader's ahead: the number of the varint at which it is, and its bytes; noughts with a fault. -/
theorem ahead_any {w : World} {P : Nat} {A : Option Addr} {cap : Nat} {s : RS} (h : Rdr w P A cap s) :
    Calls Try.prog 49 #[.pointer (some ⟨P, 0, none⟩)] w fun e w' => e = .returned (.tuple #[.int .u64 (s.lookN : Nat), .int .i64 (s.lookK : Nat)]) ∧ Rdr w' P A cap s.look ∧ w.grownBy w' (some P) := by
  have c0 := h.c0
  have c1 := h.c1
  have hle := h.le
  have hfew := h.few
  have hroom := h.room
  have hcut := run_from8 A s.xs.length cap s.at_ hle
  have hI := h.rd.from hle cap hroom
  obtain ⟨g, hg⟩ : ∃ g, s.got = g := ⟨_, rfl⟩
  have hV : ∀ W : World, Rd W P (cutA A cap s.at_) (s.xs.length - s.at_) (s.xs.drop s.at_) → Calls Try.prog 59 #[.slice (cutA A cap s.at_) (s.xs.length - s.at_) (cap - s.at_)] W fun e w' => e = .returned (.tuple #[.int .u64 (g.n : Nat), .int .i64 (g.k : Nat), .int .i64 (g.e : Nat)]) ∧ W = w' := by
    intro W hW
    rw [← hg]
    exact vget_any _ _ _ _ (by omega) W hW
  have HV := Lib.hid hV
  have he := got_e (s.xs.drop s.at_)
  have hge : g.e = 0 ∨ g.e = 2 ∨ g.e = 3 := by rw [← hg]; exact he
  clear hV he
  by_cases hf : s.fe = 0
  · by_cases h0 : g.e = 0
    · obtain ⟨e1, e2, e3⟩ := RS.look_0 hf (by rw [hg]; exact h0)
      rw [e1, e2, e3, hg]
      clear e1 e2 e3 hg
      have hb : ((g.e : Int) != 0) = false := by rw [h0]; rfl
      have hb' : (g.e != 0) = false := by rw [h0]; rfl
      clear h0
      have HF := Lib.hid hf
      clear hf hge
      go_enter Try.func49, Try.ntmps49
      go_wp2_with fail
      go_quiet ((go_at_call 59; exact quiet_same (HV.out _ (hI.drewN _))))
      go_wp2_with fail
      have h1 := h.drewN nq
      refine (failed_no h1 HF.out).mono ?_
      rintro e w1 ⟨rfl, rfl⟩
      go_wp2_with fail
      go_ret2
      exact ⟨rfl, h1, gb_drewN (World.grownBy.refl w (some P)) nq⟩
    · obtain ⟨e1, e2, e3⟩ := RS.look_1 hf (by rw [hg]; exact h0)
      rw [e1, e2, e3, hg]
      clear e1 e2 e3 hg
      have hb : ((g.e : Int) != 0) = true := bne_iff_ne.2 (by omega)
      have hb' : (g.e != 0) = true := bne_iff_ne.2 (by omega)
      have H0 := Lib.hid h0
      have HF := Lib.hid hf
      clear h0 hf hge
      go_enter Try.func49, Try.ntmps49
      go_wp2_with fail
      go_quiet ((go_at_call 59; exact quiet_same (HV.out _ (hI.drewN _))))
      go_wp2_with fail
      have h1 := h.drewN nq
      refine (fail_any h1 g.e).mono ?_
      rintro e w1 ⟨rfl, h2, g2⟩
      rw [RS.fail_no HF.out] at h2
      go_wp2_with fail
      refine (failed_yes h2 H0.out).mono ?_
      rintro e w2 ⟨rfl, rfl⟩
      go_wp2_with fail
      go_ret2
      exact ⟨rfl, h2, gb_trans (gb_drewN (World.grownBy.refl w (some P)) nq) g2⟩
  · obtain ⟨e1, e2, e3⟩ := RS.look_2 hf
    rw [e1, e2, e3]
    clear e1 e2 e3 hg
    have HF := Lib.hid hf
    clear hf hge
    by_cases h0 : g.e = 0
    · have hb : ((g.e : Int) != 0) = false := by rw [h0]; rfl
      have hb' : (g.e != 0) = false := by rw [h0]; rfl
      clear h0
      go_enter Try.func49, Try.ntmps49
      go_wp2_with fail
      go_quiet ((go_at_call 59; exact quiet_same (HV.out _ (hI.drewN _))))
      go_wp2_with fail
      have h1 := h.drewN nq
      refine (failed_yes h1 HF.out).mono ?_
      rintro e w1 ⟨rfl, rfl⟩
      go_wp2_with fail
      go_ret2
      exact ⟨rfl, h1, gb_drewN (World.grownBy.refl w (some P)) nq⟩
    · have hb : ((g.e : Int) != 0) = true := bne_iff_ne.2 (by omega)
      have hb' : (g.e != 0) = true := bne_iff_ne.2 (by omega)
      clear h0
      go_enter Try.func49, Try.ntmps49
      go_wp2_with fail
      go_quiet ((go_at_call 59; exact quiet_same (HV.out _ (hI.drewN _))))
      go_wp2_with fail
      have h1 := h.drewN nq
      refine (fail_any h1 g.e).mono ?_
      rintro e w1 ⟨rfl, h2, g2⟩
      rw [RS.fail_yes HF.out] at h2
      go_wp2_with fail
      refine (failed_yes h2 HF.out).mono ?_
      rintro e w2 ⟨rfl, rfl⟩
      go_wp2_with fail
      go_ret2
      exact ⟨rfl, h2, gb_trans (gb_drewN (World.grownBy.refl w (some P)) nq) g2⟩
end Go.Proofs.Ytghocjigmcdobaa
