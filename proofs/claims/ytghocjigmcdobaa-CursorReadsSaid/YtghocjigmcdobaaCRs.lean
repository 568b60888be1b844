/-
  A reader as a value: what each of its calls comes to. No function of the program is walked here.
-/
import Derived.Test.YtghocjigmcdobaaCRefs
import Derived.Test.YtghocjigmcdobaaVarMath
import Derived.Test.YtghocjigmcdobaaFrame
namespace Go.Proofs.Ytghocjigmcdobaa
open Go.RowKit Go.Lib

/-- A reader: its bytes, the place, the fault's place and number. -/
structure RS where
  xs : List UInt8
  at_ : Nat
  fa : Nat
  fe : Nat

def RS.left (s : RS) : Nat := s.xs.length - s.at_
/-- The reader with a fault at its place, if it has none yet. -/
def RS.fail (s : RS) (e : Nat) : RS := if s.fe = 0 then ⟨s.xs, s.at_, s.at_, e⟩ else s
/-- The reader behind its next n bytes. -/
def RS.next (s : RS) (n : Nat) : RS := if s.fe = 0 then (if s.left < n then ⟨s.xs, s.at_, s.at_, 2⟩ else ⟨s.xs, s.at_ + n, s.fa, s.fe⟩) else s
/-- Its next n bytes. -/
def RS.nextB (s : RS) (n : Nat) : List UInt8 := if s.fe = 0 then (if s.left < n then [] else (s.xs.drop s.at_).take n) else []

theorem RS.fail_xs (s : RS) (e : Nat) : (s.fail e).xs = s.xs := by unfold RS.fail; split <;> rfl
theorem RS.fail_at (s : RS) (e : Nat) : (s.fail e).at_ = s.at_ := by unfold RS.fail; split <;> rfl
theorem RS.fail_no {s : RS} (h : s.fe = 0) (e : Nat) : s.fail e = ⟨s.xs, s.at_, s.at_, e⟩ := if_pos h
theorem RS.fail_yes {s : RS} (h : s.fe ≠ 0) (e : Nat) : s.fail e = s := if_neg h
theorem RS.fail_fe {s : RS} {e : Nat} (he : e ≠ 0) : (s.fail e).fe ≠ 0 := by
  unfold RS.fail
  split
  · exact he
  · assumption
theorem RS.next_xs (s : RS) (n : Nat) : (s.next n).xs = s.xs := by unfold RS.next; split <;> (try split) <;> rfl
theorem RS.next_yes {s : RS} (h : s.fe ≠ 0) (n : Nat) : s.next n = s := if_neg h
theorem RS.next_short {s : RS} (h : s.fe = 0) {n : Nat} (hn : s.left < n) : s.next n = ⟨s.xs, s.at_, s.at_, 2⟩ := by rw [RS.next, if_pos h, if_pos hn]
theorem RS.next_fits {s : RS} (h : s.fe = 0) {n : Nat} (hn : n ≤ s.left) : s.next n = ⟨s.xs, s.at_ + n, s.fa, s.fe⟩ := by rw [RS.next, if_pos h, if_neg (by omega)]
theorem RS.nextB_yes {s : RS} (h : s.fe ≠ 0) (n : Nat) : s.nextB n = [] := if_neg h
theorem RS.nextB_short {s : RS} (h : s.fe = 0) {n : Nat} (hn : s.left < n) : s.nextB n = [] := by rw [RS.nextB, if_pos h, if_pos hn]
theorem RS.nextB_fits {s : RS} (h : s.fe = 0) {n : Nat} (hn : n ≤ s.left) : s.nextB n = (s.xs.drop s.at_).take n := by rw [RS.nextB, if_pos h, if_neg (by omega)]

/-- In block P lies the reader s, over bytes that lie below P. -/
structure Rdr (w : World) (P : Nat) (A : Option Addr) (cap : Nat) (s : RS) : Prop where
  blk : w.heap[P]? = some (.cells #[.slice A s.xs.length cap, .int .i64 (s.at_ : Int), .int .i64 (s.fa : Int), .int .i64 (s.fe : Int)] 81 (0, 0))
  rd : Rd w P A s.xs.length s.xs
  le : s.at_ ≤ s.xs.length
  few : s.xs.length ≤ 100000
  room : s.xs.length ≤ cap
  most : cap ≤ maxLen

section
variable {w w' : World} {P : Nat} {A : Option Addr} {cap : Nat} {s : RS}
theorem Rdr.lt (h : Rdr w P A cap s) : P < w.heap.size := (Array.getElem?_eq_some_iff.1 h.blk).1
theorem Rdr.c0 (h : Rdr w P A cap s) : w.cell? ⟨P, 0, none⟩ = some (.slice A s.xs.length cap) := by rw [cell_of_row w P 0 _ _ (0, 0) h.blk]; rfl
theorem Rdr.c1 (h : Rdr w P A cap s) : w.cell? ⟨P, 1, none⟩ = some (.int .i64 (s.at_ : Int)) := by rw [cell_of_row w P 1 _ _ (0, 0) h.blk]; rfl
theorem Rdr.c2 (h : Rdr w P A cap s) : w.cell? ⟨P, 2, none⟩ = some (.int .i64 (s.fa : Int)) := by rw [cell_of_row w P 2 _ _ (0, 0) h.blk]; rfl
theorem Rdr.c3 (h : Rdr w P A cap s) : w.cell? ⟨P, 3, none⟩ = some (.int .i64 (s.fe : Int)) := by rw [cell_of_row w P 3 _ _ (0, 0) h.blk]; rfl
theorem Rdr.fz (h : Rdr w P A cap s) (i : Nat) : w.frozen? ⟨P, i, none⟩ = false := by simp [World.frozen?, h.blk]
theorem Rdr.drewN (h : Rdr w P A cap s) (k : Nat) : Rdr (w.drewN k) P A cap s := ⟨h.blk, h.rd, h.le, h.few, h.room, h.most⟩
theorem Rdr.alloc (h : Rdr w P A cap s) (o : Obj) : Rdr (w.alloc o) P A cap s :=
  ⟨(Below.heap_alloc w o P h.lt).trans h.blk, h.rd.alloc (Nat.le_of_lt h.lt) o, h.le, h.few, h.room, h.most⟩
theorem Rdr.below (h : Rdr w P A cap s) {B : Nat} (hb : Below B w w') (hP : P < B) : Rdr w' P A cap s :=
  ⟨(hb.block P hP).trans h.blk, h.rd.keep fun _ hp => hb.cell (Nat.lt_trans hp hP), h.le, h.few, h.room, h.most⟩
end
end Go.Proofs.Ytghocjigmcdobaa
