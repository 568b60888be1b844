/-
  The contracts of a writer's calls: NewWriter, fail, fits, Bytes, Var, Num, Text, Out.
-/
import Derived.Test.YtghocjigmcdobaaCRAsk3
namespace Go.Proofs.Ytghocjigmcdobaa
open Go.RowKit Go.Lib

/-- A writer: its bound, what was written, the fault. -/
structure WS where
  m : Nat
  ys : List UInt8
  f : Nat
def WS.room (s : WS) : Nat := s.m - s.ys.length
def WS.fail (s : WS) (e : Nat) : WS := if s.f = 0 then ⟨s.m, s.ys, e⟩ else s
def WS.put (s : WS) (bs : List UInt8) : WS := if s.f = 0 then (if s.room < bs.length then ⟨s.m, s.ys, 4⟩ else ⟨s.m, s.ys ++ bs, s.f⟩) else s
theorem WS.put_bad {s : WS} (h : s.f ≠ 0) (bs : List UInt8) : s.put bs = s := if_neg h
theorem WS.put_long {s : WS} (h : s.f = 0) {bs : List UInt8} (hl : s.room < bs.length) : s.put bs = ⟨s.m, s.ys, 4⟩ := by rw [WS.put, if_pos h, if_pos hl]
theorem WS.put_fits {s : WS} (h : s.f = 0) {bs : List UInt8} (hl : ¬ s.room < bs.length) : s.put bs = ⟨s.m, s.ys ++ bs, s.f⟩ := by rw [WS.put, if_pos h, if_neg hl]
theorem WS.fail_no {s : WS} (h : s.f = 0) (e : Nat) : s.fail e = ⟨s.m, s.ys, e⟩ := if_pos h
theorem WS.fail_yes {s : WS} (h : s.f ≠ 0) (e : Nat) : s.fail e = s := if_neg h
theorem WS.fail_f {s : WS} {e : Nat} (he : e ≠ 0) : (s.fail e).f ≠ 0 := by
  unfold WS.fail
  split
  · exact he
  · assumption

/-- In block P lies the writer s, over the slice v of its own. -/
structure Wtr (w : World) (P : Nat) (v : Value) (s : WS) : Prop where
  blk : w.heap[P]? = some (.cells #[.int .i64 (s.m : Int), v, .int .i64 (s.f : Int)] 90 (0, 0))
  own : Own8 w (P + 1) v s.ys
  le : s.ys.length ≤ s.m
  big : s.m ≤ 9223372036854775807

/-- Only the writer's block, its slice's, and what is new, has turned. -/
structure WKeep (w w' : World) (P : Nat) (v v' : Value) : Prop where
  os : w'.os = w.os
  tape : w'.tape = w.tape
  output : w'.output = w.output
  size : w.heap.size ≤ w'.heap.size
  block : ∀ k, k < w.heap.size → k ≠ P → some k ≠ v.ownBlock → w'.heap[k]? = w.heap[k]?
  own : v'.ownBlock = v.ownBlock ∨ ∀ g, v'.ownBlock = some g → w.heap.size ≤ g

section
variable {w w1 w' : World} {P : Nat} {v v1 v' : Value} {s : WS}
theorem Wtr.lt (h : Wtr w P v s) : P < w.heap.size := (Array.getElem?_eq_some_iff.1 h.blk).1
theorem Wtr.c0 (h : Wtr w P v s) : w.cell? ⟨P, 0, none⟩ = some (.int .i64 (s.m : Int)) := by rw [cell_of_row w P 0 _ _ (0, 0) h.blk]; rfl
theorem Wtr.c1 (h : Wtr w P v s) : w.cell? ⟨P, 1, none⟩ = some v := by rw [cell_of_row w P 1 _ _ (0, 0) h.blk]; rfl
theorem Wtr.c2 (h : Wtr w P v s) : w.cell? ⟨P, 2, none⟩ = some (.int .i64 (s.f : Int)) := by rw [cell_of_row w P 2 _ _ (0, 0) h.blk]; rfl
theorem Wtr.fz (h : Wtr w P v s) (i : Nat) : w.frozen? ⟨P, i, none⟩ = false := by simp [World.frozen?, h.blk]
theorem Wtr.drewN (h : Wtr w P v s) (k : Nat) : Wtr (w.drewN k) P v s := ⟨h.blk, h.own, h.le, h.big⟩
theorem Wtr.below (h : Wtr w P v s) (hb : Below w.heap.size w w') : Wtr w' P v s := ⟨(hb.block P h.lt).trans h.blk, h.own.below hb, h.le, h.big⟩
theorem Wtr.noP (h : Wtr w P v s) : v.ownBlock = none ∨ v.ownBlock ≠ some P := by
  cases hv : v.ownBlock with
  | none => exact .inl rfl
  | some g => exact .inr (fun e => by have := h.own.lt g hv; cases e; omega)
theorem Wtr.setF (h : Wtr w P v s) (e : Nat) : Wtr (w.setCell ⟨P, 2, none⟩ (.int .i64 (e : Int))) P v ⟨s.m, s.ys, e⟩ :=
  ⟨heap_set (i := 2) h.blk _, h.own.kept (gb_set (World.grownBy.refl _ _) 2 _) h.noP, h.le, h.big⟩
theorem WKeep.refl (w : World) (P : Nat) (v : Value) : WKeep w w P v v := ⟨rfl, rfl, rfl, Nat.le_refl _, fun _ _ _ _ => rfl, .inl rfl⟩
theorem WKeep.trans (h : WKeep w w1 P v v1) (k : WKeep w1 w' P v1 v') : WKeep w w' P v v' := by
  refine ⟨k.os.trans h.os, k.tape.trans h.tape, k.output.trans h.output, Nat.le_trans h.size k.size, fun i hi hP hv => ?_, ?_⟩
  · refine (k.block i (Nat.lt_of_lt_of_le hi h.size) hP ?_).trans (h.block i hi hP hv)
    rcases h.own with ho | ho
    · rw [ho]; exact hv
    · intro e; have := ho i e.symm; omega
  · rcases k.own with ko | ko
    · rcases h.own with ho | ho
      · exact .inl (ko.trans ho)
      · exact .inr fun g hg => ho g (by rw [← ko]; exact hg)
    · exact .inr fun g hg => Nat.le_trans h.size (ko g hg)
theorem WKeep.grown (h : w.grownBy w' (some P)) (v : Value) : WKeep w w' P v v := ⟨h.os, h.tape, h.output, h.size, fun k hk hP _ => h.block k hk (fun e => hP (by cases e; rfl)), .inl rfl⟩
theorem WKeep.below {B : Nat} (h : WKeep w w1 P v v1) (hb : Below B w1 w') (hB : w1.heap.size ≤ B) : WKeep w w' P v v1 :=
  ⟨hb.os.trans h.os, hb.tape.trans h.tape, hb.output.trans h.output, Nat.le_trans h.size hb.size, fun k hk hP hv => (hb.block k (by have := h.size; omega)).trans (h.block k hk hP hv), h.own⟩
/-- Its slice has been appended to. -/
theorem WKeep.app (hg : w.grownBy w' v.ownBlock) (ho : v'.ownBlock = v.ownBlock ∨ v'.ownBlock = some w.heap.size) : WKeep w w' P v v' :=
  ⟨hg.os, hg.tape, hg.output, hg.size, fun k hk _ hv => hg.block k hk hv, ho.imp id fun e g hgg => by rw [e] at hgg; cases hgg; exact Nat.le_refl _⟩
theorem WKeep.rd {B n : Nat} {A : Option Addr} {xs : List UInt8} (hk : WKeep w w' P v v') (h : Rd w B A n xs) (hB : B ≤ w.heap.size) (hA : ∀ b o, A = some ⟨b, o, none⟩ → b ≠ P ∧ some b ≠ v.ownBlock) : Rd w' B A n xs :=
  ⟨h.1, fun hn => by
    obtain ⟨b, off, e, hb, hc⟩ := h.2 hn
    obtain ⟨h1, h2⟩ := hA b off e
    exact ⟨b, off, e, hb, fun j x hx => (World.cell?_of_block (hk.block b (by omega) h1 h2)).trans (hc j x hx)⟩⟩
theorem WKeep.below_P {B : Nat} (hk : WKeep w w' P v v') (hP : B ≤ P) (hB : B ≤ w.heap.size) (hv : ∀ g, v.ownBlock = some g → B ≤ g) : Below B w w' :=
  ⟨hk.os, hk.tape, hk.output, hk.size, fun k hk' => hk.block k (by omega) (by omega) (fun e => by have := hv k e.symm; omega)⟩
end

set_option maxHeartbeats 400000 in
theorem neww_any (z : Int) (hz : z ≤ 9223372036854775807) (w : World) :
    Calls Try.prog 28 #[.int .i64 z] w fun e w' => e = .returned (.pointer (some ⟨w.heap.size, 0, none⟩)) ∧ Wtr w' w.heap.size (.slice none 0 0) ⟨z.toNat, [], 0⟩ ∧ Below w.heap.size w w' ∧ w'.heap.size = w.heap.size + 1 := by
  by_cases h : z < 0
  · have e : z.toNat = 0 := by omega
    rw [e]
    clear e
    go_enter Try.func28, Try.ntmps28
    go_wp2
    go_ret
    exact ⟨rfl, ⟨heap_alloc_new w _, Own8.nil_ _ _, Nat.le_refl _, by simp⟩, (Below.refl _ _).alloc (Nat.le_refl _) _, by simp⟩
  · obtain ⟨n, rfl⟩ := Int.eq_ofNat_of_zero_le (show 0 ≤ z by omega)
    rw [Int.toNat_natCast]
    have h' : (0 : Int) ≤ (n : Int) := by omega
    clear h
    go_enter Try.func28, Try.ntmps28
    go_wp2
    go_ret
    exact ⟨rfl, ⟨heap_alloc_new w _, Own8.nil_ _ _, Nat.zero_le _, by show n ≤ _; omega⟩, (Below.refl _ _).alloc (Nat.le_refl _) _, by simp⟩

set_option maxHeartbeats 400000 in
theorem wfail_any {w : World} {P : Nat} {v : Value} {s : WS} (h : Wtr w P v s) (e0 : Nat) :
    Calls Try.prog 53 #[.pointer (some ⟨P, 0, none⟩), .int .i64 (e0 : Int)] w fun e w' => e = .returned (.tuple #[]) ∧ Wtr w' P v (s.fail e0) ∧ w.grownBy w' (some P) := by
  have c2 := h.c2
  have z2 := h.fz 2
  by_cases hf : s.f = 0
  · rw [WS.fail_no hf]
    rw [hf] at c2
    clear hf
    go_enter Try.func53, Try.ntmps53
    go_wp2_with fail
    go_end0
    exact ⟨rfl, h.setF e0, gb_set (World.grownBy.refl _ _) 2 _⟩
  · rw [WS.fail_yes hf]
    have hb : ((s.f : Int) == 0) = false := beq_eq_false_iff_ne.2 (by omega)
    have hb' : (s.f == 0) = false := beq_eq_false_iff_ne.2 hf
    clear hf
    go_enter Try.func53, Try.ntmps53
    go_wp2_with fail
    go_end0
    exact ⟨rfl, h, World.grownBy.refl _ _⟩

set_option maxRecDepth 100000 in
set_option maxHeartbeats 400000 in
/-- There is room, and no fault. -/
theorem fits_yes {w : World} {P : Nat} {v : Value} {s : WS} (h : Wtr w P v s) (hf : s.f = 0) (n : Nat) (hn : n ≤ s.room) :
    Calls Try.prog 56 #[.pointer (some ⟨P, 0, none⟩), .int .i64 (n : Int)] w fun e w' => e = .returned (.bool true) ∧ ∃ k, w' = w.drewN k := by
  have c0 := h.c0
  have c1 := h.c1
  have c2 := h.c2
  have hle := h.le
  have hm := h.big
  obtain ⟨A, c, hv, hc1, hc2, _, _⟩ := h.own.rd
  rw [hv] at c1
  rw [hf] at c2
  have hs : IntKind.i64.wrap ((s.m : Int) - (s.ys.length : Int)) = (s.m : Int) - (s.ys.length : Int) := IntWalk.i64_in _ (by omega)
  have hn' : (n : Int) ≤ (s.m : Int) - (s.ys.length : Int) := by unfold WS.room at hn; omega
  clear hf h hn
  go_enter Try.func56, Try.ntmps56
  go_wp2_with fail
  go_quiet (fail)
  go_wp2_with fail
  go_ret
  exact ⟨rfl, _, rfl⟩

set_option maxRecDepth 100000 in
set_option maxHeartbeats 400000 in
/-- There is a fault. -/
theorem fits_bad {w : World} {P : Nat} {v : Value} {s : WS} (h : Wtr w P v s) (hf : s.f ≠ 0) (n : Nat) :
    Calls Try.prog 56 #[.pointer (some ⟨P, 0, none⟩), .int .i64 (n : Int)] w fun e w' => e = .returned (.bool false) ∧ Wtr w' P v s ∧ w.grownBy w' (some P) := by
  have c0 := h.c0
  have c1 := h.c1
  have c2 := h.c2
  have hle := h.le
  have hm := h.big
  obtain ⟨A, c, hv, hc1, hc2, _, _⟩ := h.own.rd
  rw [hv] at c1
  have hs : IntKind.i64.wrap ((s.m : Int) - (s.ys.length : Int)) = (s.m : Int) - (s.ys.length : Int) := IntWalk.i64_in _ (by omega)
  have hb : ((s.f : Int) == 0) = false := beq_eq_false_iff_ne.2 (by omega)
  have hb' : (s.f == 0) = false := beq_eq_false_iff_ne.2 hf
  have HF := Lib.hid hf
  clear hf
  by_cases hn : (s.m : Int) - (s.ys.length : Int) < (n : Int)
  · go_enter Try.func56, Try.ntmps56
    go_wp2_with fail
    go_quiet (fail)
    go_wp2_with fail
    have h1 := h.drewN nq
    refine (wfail_any h1 4).mono ?_
    rintro e w1 ⟨rfl, h2, g2⟩
    rw [WS.fail_yes HF.out] at h2
    have d2 := h2.c2
    go_wp2_with fail
    go_ret
    exact ⟨rfl, h2, gb_trans (gb_drewN (World.grownBy.refl w (some P)) nq) g2⟩
  · have hn' : (n : Int) ≤ (s.m : Int) - (s.ys.length : Int) := by omega
    clear hn
    go_enter Try.func56, Try.ntmps56
    go_wp2_with fail
    go_quiet (fail)
    go_wp2_with fail
    go_ret
    exact ⟨rfl, h.drewN _, gb_drewN (World.grownBy.refl w (some P)) _⟩

set_option maxRecDepth 100000 in
set_option maxHeartbeats 400000 in
/-- There is no room. -/
theorem fits_no {w : World} {P : Nat} {v : Value} {s : WS} (h : Wtr w P v s) (hf : s.f = 0) (n : Nat) (hn : s.room < n) :
    Calls Try.prog 56 #[.pointer (some ⟨P, 0, none⟩), .int .i64 (n : Int)] w fun e w' => e = .returned (.bool false) ∧ Wtr w' P v ⟨s.m, s.ys, 4⟩ ∧ w.grownBy w' (some P) := by
  have c0 := h.c0
  have c1 := h.c1
  have c2 := h.c2
  have hle := h.le
  have hm := h.big
  obtain ⟨A, c, hv, hc1, hc2, _, _⟩ := h.own.rd
  rw [hv] at c1
  have hs : IntKind.i64.wrap ((s.m : Int) - (s.ys.length : Int)) = (s.m : Int) - (s.ys.length : Int) := IntWalk.i64_in _ (by omega)
  have hn' : (s.m : Int) - (s.ys.length : Int) < (n : Int) := by unfold WS.room at hn; omega
  have HF := Lib.hid hf
  clear hf hn
  go_enter Try.func56, Try.ntmps56
  go_wp2_with fail
  go_quiet (fail)
  go_wp2_with fail
  have h1 := h.drewN nq
  refine (wfail_any h1 4).mono ?_
  rintro e w1 ⟨rfl, h2, g2⟩
  rw [WS.fail_no HF.out] at h2
  have d2 := h2.c2
  go_wp2_with fail
  go_ret
  exact ⟨rfl, h2, gb_trans (gb_drewN (World.grownBy.refl w (some P)) nq) g2⟩
end Go.Proofs.Ytghocjigmcdobaa
