/-
  The contracts of a reader's small calls: At, Left, Fault, failed, fail, sized, bytes.Clone, New.
-/
import Derived.Test.YtghocjigmcdobaaCRs
import Derived.BigQuiet
import Derived.Deep.QuietTactic
import Derived.Lib.SliceRun
namespace Go.Proofs.Ytghocjigmcdobaa
open Go.RowKit Go.Lib

set_option maxHeartbeats 400000 in
theorem failed_no {w : World} {P : Nat} {A : Option Addr} {cap : Nat} {s : RS} (h : Rdr w P A cap s) (hf : s.fe = 0) :
    Calls Try.prog 50 #[.pointer (some ⟨P, 0, none⟩)] w fun e w' => e = .returned (.bool false) ∧ w = w' := by
  have h3 := h.c3
  rw [hf] at h3
  clear hf h
  go_enter Try.func50, Try.ntmps50
  go_wp2
  go_ret
  exact ⟨rfl, rfl⟩
set_option maxHeartbeats 400000 in
theorem failed_yes {w : World} {P : Nat} {A : Option Addr} {cap : Nat} {s : RS} (h : Rdr w P A cap s) (hf : s.fe ≠ 0) :
    Calls Try.prog 50 #[.pointer (some ⟨P, 0, none⟩)] w fun e w' => e = .returned (.bool true) ∧ w = w' := by
  have h3 := h.c3
  have hb : ((s.fe : Int) != 0) = true := bne_iff_ne.2 (by omega)
  have hb' : (s.fe != 0) = true := bne_iff_ne.2 hf
  clear hf h
  go_enter Try.func50, Try.ntmps50
  go_wp2
  go_ret
  exact ⟨rfl, rfl⟩

set_option maxHeartbeats 400000 in
theorem at_any {w : World} {P : Nat} {A : Option Addr} {cap : Nat} {s : RS} (h : Rdr w P A cap s) :
    Calls Try.prog 25 #[.pointer (some ⟨P, 0, none⟩)] w fun e w' => e = .returned (.int .i64 (s.at_ : Int)) ∧ w = w' := by
  have h3 := h.c1
  clear h
  go_enter Try.func25, Try.ntmps25
  go_wp2
  go_ret
  exact ⟨rfl, rfl⟩

set_option maxHeartbeats 400000 in
theorem left_any {w : World} {P : Nat} {A : Option Addr} {cap : Nat} {s : RS} (h : Rdr w P A cap s) :
    Calls Try.prog 26 #[.pointer (some ⟨P, 0, none⟩)] w fun e w' => e = .returned (.int .i64 (s.left : Nat)) ∧ ∃ n, w' = w.drewN n := by
  have h0 := h.c0
  have h1 := h.c1
  have hle := h.le
  have hfew := h.few
  have hl : ((s.left : Nat) : Int) = (s.xs.length : Int) - (s.at_ : Int) := by unfold RS.left; omega
  rw [hl]
  clear h hl
  have hs : IntKind.i64.wrap ((s.xs.length : Int) - (s.at_ : Int)) = (s.xs.length : Int) - (s.at_ : Int) := by rw [IntKind.wrap_i64]; omega
  go_enter Try.func26, Try.ntmps26
  go_wp2
  go_quiet (fail)
  go_wp2
  go_ret
  exact ⟨rfl, _, rfl⟩

set_option maxHeartbeats 400000 in
theorem sized_yes (z : Int) (h1 : 1 ≤ z) (h8 : z ≤ 8) (w : World) :
    Calls Try.prog 45 #[.int .i64 z] w fun e w' => e = .returned (.bool true) ∧ w = w' := by
  go_enter Try.func45, Try.ntmps45
  go_wp2
  go_ret
  exact ⟨rfl, rfl⟩
set_option maxHeartbeats 400000 in
theorem sized_no (z : Int) (h : z < 1 ∨ 8 < z) (w : World) :
    Calls Try.prog 45 #[.int .i64 z] w fun e w' => e = .returned (.bool false) ∧ w = w' := by
  rcases h with h | h
  · have hd : decide (1 ≤ z) = false := decide_eq_false (by omega)
    go_enter Try.func45, Try.ntmps45
    go_wp2
    go_ret
    exact ⟨rfl, rfl⟩
  · have h1 : 1 ≤ z := by omega
    have hd : decide (z ≤ 8) = false := decide_eq_false (by omega)
    go_enter Try.func45, Try.ntmps45
    go_wp2
    go_ret
    exact ⟨rfl, rfl⟩

/-- Only block P, and what is new, has turned; and the reader's bytes lie as they lay. -/
theorem Rdr.turn {w w' : World} {P : Nat} {A : Option Addr} {cap : Nat} {s s' : RS} (h : Rdr w P A cap s) (hx : s'.xs = s.xs) (hg : w.grownBy w' (some P))
    (hb : w'.heap[P]? = some (.cells #[.slice A s.xs.length cap, .int .i64 (s'.at_ : Int), .int .i64 (s'.fa : Int), .int .i64 (s'.fe : Int)] 81 (0, 0))) (hle : s'.at_ ≤ s.xs.length) : Rdr w' P A cap s' := by
  obtain ⟨xs, a, f, e⟩ := s'
  subst hx
  exact ⟨hb, h.rd.keep fun p hp => World.cell?_of_block (hg.block p.block (Nat.lt_trans hp h.lt) (fun e => by cases e; omega)), hle, h.few, h.room, h.most⟩

set_option maxHeartbeats 400000 in
theorem fail_any {w : World} {P : Nat} {A : Option Addr} {cap : Nat} {s : RS} (h : Rdr w P A cap s) (e0 : Nat) :
    Calls Try.prog 46 #[.pointer (some ⟨P, 0, none⟩), .int .i64 (e0 : Int)] w fun e w' => e = .returned (.tuple #[]) ∧ Rdr w' P A cap (s.fail e0) ∧ w.grownBy w' (some P) := by
  by_cases hf : s.fe = 0
  · have c1 := h.c1
    have c2 := h.c2
    have c3 := h.c3
    have z2 := h.fz 2
    have z3 := h.fz 3
    rw [RS.fail_no hf]
    go_enter Try.func46, Try.ntmps46
    go_wp2_with (go_at_call 50; refine (failed_no h hf).mono ?_; rintro e w' ⟨rfl, rfl⟩)
    have g := gb_set (gb_set (World.grownBy.refl w (some P)) 2 (.int .i64 (s.at_ : Int))) 3 (.int .i64 (e0 : Int))
    have hb := heap_set (i := 3) (heap_set (i := 2) h.blk (.int .i64 (s.at_ : Int))) (.int .i64 (e0 : Int))
    go_end0
    exact ⟨rfl, h.turn rfl g hb h.le, g⟩
  · rw [RS.fail_yes hf]
    have H := Lib.hid hf
    clear hf
    go_enter Try.func46, Try.ntmps46
    go_wp2_with (go_at_call 50; refine (failed_yes h H.out).mono ?_; rintro e w' ⟨rfl, rfl⟩)
    go_end0
    exact ⟨rfl, h, World.grownBy.refl _ _⟩

/-- A fault as a value. -/
def spotOf (a e : Nat) : Value := .agg #[.int .i64 (a : Int), .int .i64 (e : Int)]
set_option maxHeartbeats 400000 in
theorem fault_any {w : World} {P : Nat} {A : Option Addr} {cap : Nat} {s : RS} (h : Rdr w P A cap s) :
    Calls Try.prog 27 #[.pointer (some ⟨P, 0, none⟩)] w fun e w' => e = .returned (spotOf s.fa s.fe) ∧ Below w.heap.size w w' := by
  have c2 := (h.alloc (.cells #[.int .i64 0, .int .i64 0] 28)).c2
  have c3 := (h.alloc (.cells #[.int .i64 0, .int .i64 0] 28)).c3
  go_enter Try.func27, Try.ntmps27
  go_wp2
  refine bodyPost_ret (v := .agg #[.int .i64 (s.fa : Int), .int .i64 (s.fe : Int)]) (by simp [results, Try.results27, go_sem]) rfl ⟨rfl, ?_⟩
  exact (Below.refl _ _).alloc (Nat.le_refl _) _

set_option maxRecDepth 100000 in
set_option maxHeartbeats 400000 in
/-- bytes.Clone: new memory with the same bytes. -/
theorem clone_any (A : Option Addr) (len cap : Nat) (xs : List UInt8) (hlen : len ≤ 1000000000) (w : World) (hI : Rd w w.heap.size A len xs) :
    Calls Try.prog 44 #[.slice A len cap] w fun e W' => ∃ v, e = .returned v ∧ Own8 W' w.heap.size v xs ∧ Below w.heap.size w W' := by
  cases A with
  | none =>
    have h0 : len = 0 := by
      rcases Nat.eq_zero_or_pos len with h | h
      · exact h
      · obtain ⟨b, off, e, _⟩ := hI.addr h; cases e
    subst h0
    have hx : xs = [] := List.eq_nil_of_length_eq_zero hI.len
    subst hx
    have hq : ∀ W : World, (binOp .eql 22 (.slice none 0 cap) (.slice none 0 0)).run Try.prog W = .ok (.bool true) W := fun W => run_eql_slice_nil W _ _ none 0 cap 0 0 Try.underlying22
    go_enter Try.func44, Try.ntmps44
    go_wp2
    go_ret
    exact ⟨_, rfl, Own8.nil_ _ _, Below.refl _ _⟩
  | some ad =>
    have how : Own8 (w.alloc (.cells #[] 5)) w.heap.size (.slice (some ⟨w.heap.size, 0, none⟩) 0 0) [] := by
      have h := Row8.own (w := w.alloc (.cells #[] 5)) (g := w.heap.size) (xs := []) (heap_alloc_new w _) (base := w.heap.size) (n := 0) (Nat.le_refl _) (Nat.zero_le _) (by simp)
      simpa using h
    have HL := Lib.hid hI.len
    have hq : ∀ W : World, (binOp .eql 22 (.slice (some ad) len cap) (.slice none 0 0)).run Try.prog W = .ok (.bool false) W := fun W => run_eql_slice_nil W _ _ (some ad) len cap 0 0 Try.underlying22
    go_enter Try.func44, Try.ntmps44
    go_wp2_with (at_builtin; refine wpList_append8 rfl _ _ rfl w.heap.size _ [] (by rfl) how _ _ _ _ xs (by rfl) (hI.alloc (Nat.le_refl _) _) (by simp; omega) (by simp) ?_; intro v' w1 hown' hgrow _)
    go_ret
    have hb : Below w.heap.size w w1 := ((Below.refl _ w).alloc (Nat.le_refl _) (.cells #[] 5)).grown hgrow (by simp) how.lt
    exact ⟨_, rfl, hown', hb⟩

set_option maxHeartbeats 400000 in
/-- cursor.New: a reader, of new memory. -/
theorem new_any (A : Option Addr) (len cap : Nat) (xs : List UInt8) (hlen : len ≤ 100000) (w : World) (hI : Rd w w.heap.size A len xs) :
    Calls Try.prog 18 #[.slice A len cap] w fun e W' => ∃ P A' cap', e = .returned (.pointer (some ⟨P, 0, none⟩)) ∧ Rdr W' P A' cap' ⟨xs, 0, 0, 0⟩ ∧ w.heap.size ≤ P ∧ Below w.heap.size w W' := by
  have HL := Lib.hid hI.len
  go_enter Try.func18, Try.ntmps18
  go_wp2_with (go_at_call 44; refine (clone_any _ _ _ xs (by omega) _ hI).mono ?_; rintro e w1 ⟨v, rfl, hown, hb⟩; obtain ⟨A1, m1, c1, rfl, hm1, hmc, hcm, hrd⟩ := hown.sl; subst hm1)
  go_ret
  refine ⟨_, A1, c1, rfl, ⟨heap_alloc_new w1 _, hrd.alloc (Nat.le_refl _) _, Nat.zero_le _, by have := HL.out; show xs.length ≤ 100000; omega, hmc, hcm⟩, hb.size, hb.alloc hb.size _⟩
end Go.Proofs.Ytghocjigmcdobaa
