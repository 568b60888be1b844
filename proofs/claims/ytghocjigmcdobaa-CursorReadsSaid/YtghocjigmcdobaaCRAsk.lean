/-
  The contracts of the document's reader, a value: fail and Ask.
-/
import Derived.Test.YtghocjigmcdobaaCText2
namespace Go.Proofs.Ytghocjigmcdobaa
open Go.RowKit Go.Lib

/-- The document's reader as a value. -/
def rvOf (A : Option Addr) (cap : Nat) (s : RS) : Value := .agg #[.slice A s.xs.length cap, .int .i64 (s.at_ : Int), .int .i64 (s.fa : Int), .int .i64 (s.fe : Int)]

/-- A block of four cells. -/
def Blk4 (w : World) (b : Nat) (t : TypeId) (v0 v1 v2 v3 : Value) : Prop := w.heap[b]? = some (.cells #[v0, v1, v2, v3] t (0, 0))
section
variable {w w' : World} {b : Nat} {t : TypeId} {v0 v1 v2 v3 : Value}
theorem Blk4.c0 (h : Blk4 w b t v0 v1 v2 v3) : w.cell? ⟨b, 0, none⟩ = some v0 := by rw [cell_of_row w b 0 _ _ (0, 0) h]; rfl
theorem Blk4.c1 (h : Blk4 w b t v0 v1 v2 v3) : w.cell? ⟨b, 1, none⟩ = some v1 := by rw [cell_of_row w b 1 _ _ (0, 0) h]; rfl
theorem Blk4.c2 (h : Blk4 w b t v0 v1 v2 v3) : w.cell? ⟨b, 2, none⟩ = some v2 := by rw [cell_of_row w b 2 _ _ (0, 0) h]; rfl
theorem Blk4.c3 (h : Blk4 w b t v0 v1 v2 v3) : w.cell? ⟨b, 3, none⟩ = some v3 := by rw [cell_of_row w b 3 _ _ (0, 0) h]; rfl
theorem Blk4.fz (h : Blk4 w b t v0 v1 v2 v3) (i : Nat) : w.frozen? ⟨b, i, none⟩ = false := by unfold Blk4 at h; simp [World.frozen?, h]
theorem Blk4.lt (h : Blk4 w b t v0 v1 v2 v3) : b < w.heap.size := (Array.getElem?_eq_some_iff.1 h).1
theorem Blk4.alloc (h : Blk4 w b t v0 v1 v2 v3) (o : Obj) : Blk4 (w.alloc o) b t v0 v1 v2 v3 := (Below.heap_alloc w o b h.lt).trans h
theorem Blk4.new (w : World) : Blk4 (w.alloc (.cells #[v0, v1, v2, v3] t)) w.heap.size t v0 v1 v2 v3 := heap_alloc_new w _
theorem Blk4.grown (h : Blk4 w b t v0 v1 v2 v3) {row : Option Nat} (hg : w.grownBy w' row) (hr : some b ≠ row) : Blk4 w' b t v0 v1 v2 v3 := (hg.block b h.lt hr).trans h
end

/-- The cells of the document's reader. -/
def rcells (A : Option Addr) (cap : Nat) (s : RS) : Array Value := #[.slice A s.xs.length cap, .int .i64 (s.at_ : Int), .int .i64 (s.fa : Int), .int .i64 (s.fe : Int)]

set_option maxHeartbeats 400000 in
theorem rfail_any (A : Option Addr) (len cap : Nat) (a f e x : Nat) (w : World) :
    Calls Try.prog 51 #[.agg #[.slice A len cap, .int .i64 (a : Int), .int .i64 (f : Int), .int .i64 (e : Int)], .int .i64 (x : Int)] w fun en w' =>
      en = .returned (.agg #[.slice A len cap, .int .i64 (a : Int), .int .i64 (a : Int), .int .i64 (x : Int)]) ∧
        (w.alloc (.cells #[.slice A len cap, .int .i64 (a : Int), .int .i64 (a : Int), .int .i64 (x : Int)] 46)).alloc (.cells #[.slice A len cap, .int .i64 (a : Int), .int .i64 (a : Int), .int .i64 (x : Int)] 46) = w' := by
  go_enter Try.func51, Try.ntmps51
  go_wp2
  exact bodyPost_ret (v := .agg #[.slice A len cap, .int .i64 (a : Int), .int .i64 (a : Int), .int .i64 (x : Int)]) (by simp [results, Try.results51, go_sem]) rfl ⟨rfl, rfl⟩

/-- An answer of the document's Ask. -/
def RGave (w : World) (A : Option Addr) (cap : Nat) (s : RS) (n : Nat) (bs : List UInt8) (e : Ending) (w' : World) : Prop := ∃ v, e = .returned (.tuple #[rvOf A cap s, .int .u64 (n : Int), v]) ∧ Own8 w' w.heap.size v bs ∧ Below w.heap.size w w'

set_option maxRecDepth 100000 in
set_option maxHeartbeats 1000000 in
/-- With a fault. -/
theorem rask_bad (A : Option Addr) (cap : Nat) (s : RS) (hf : s.fe ≠ 0) (kind z : Int) (big : Bool) (w : World) :
    Calls Try.prog 24 #[rvOf A cap s, .int .i64 kind, .int .i64 z, .bool big] w (RGave w A cap s 0 []) := by
  have hb : ((s.fe : Int) != 0) = true := bne_iff_ne.2 (by omega)
  have hb' : (s.fe != 0) = true := bne_iff_ne.2 hf
  clear hf
  unfold rvOf
  go_enter Try.func24, Try.ntmps24
  go_wp2_with fail
  refine bodyPost_ret (v := .tuple #[rvOf A cap s, .int .u64 0, .slice none 0 0]) (by simp [results, Try.results24, go_sem, rvOf]) rfl ⟨_, rfl, Own8.nil_ _ _, ?_⟩
  exact ((Below.refl _ _).alloc (Nat.le_refl _) _).alloc (by simp) _

section
variable {w : World} {A : Option Addr} {cap : Nat} {s : RS}
/-- What the document's reader may be: its place within its bytes. -/
structure RMay (w : World) (A : Option Addr) (cap : Nat) (s : RS) : Prop where
  rd : Rd w w.heap.size A s.xs.length s.xs
  le : s.at_ ≤ s.xs.length
  few : s.xs.length ≤ 100000
  room : s.xs.length ≤ cap
  most : cap ≤ maxLen
theorem RMay.below {w' : World} (h : RMay w A cap s) (hb : Below w.heap.size w w') : RMay w' A cap s := ⟨(h.rd.below hb).more hb.size, h.le, h.few, h.room, h.most⟩
theorem RMay.to {s' : RS} (h : RMay w A cap s) (hx : s'.xs = s.xs) (hle : s'.at_ ≤ s.xs.length) : RMay w A cap s' := by
  obtain ⟨xs, a, f, e⟩ := s'
  subst hx
  exact ⟨h.rd, hle, h.few, h.room, h.most⟩
end

set_option maxRecDepth 100000 in
set_option maxHeartbeats 1000000 in
/-- The end. -/
theorem rask_end {w : World} {A : Option Addr} {cap : Nat} {s : RS} (h : RMay w A cap s) (hf : s.fe = 0) (z : Int) (big : Bool) :
    Calls Try.prog 24 #[rvOf A cap s, .int .i64 5, .int .i64 z, .bool big] w (RGave w A cap s.over 0 []) := by
  have hle := h.le
  have hfew := h.few
  unfold RS.over
  by_cases hl : 0 < s.left
  · rw [if_pos hl, RS.fail_no hf]
    unfold rvOf
    rw [hf]
    have hl' : (s.at_ : Int) < (s.xs.length : Int) := by unfold RS.left at hl; omega
    clear hl hf
    go_enter Try.func24, Try.ntmps24
    go_wp2_with fail
    refine (rfail_any _ _ _ _ _ 0 3 _).mono ?_
    rintro e w1 ⟨rfl, rfl⟩
    go_wp2_with fail
    refine bodyPost_ret (v := .tuple #[rvOf A cap ⟨s.xs, s.at_, s.at_, 3⟩, .int .u64 0, .slice none 0 0]) (by simp [results, Try.results24, go_sem, rvOf]) rfl ⟨_, rfl, Own8.nil_ _ _, ?_⟩
    repeat (first | exact Below.refl _ _ | refine Below.alloc ?_ (by simp <;> omega) _)
  · rw [if_neg hl]
    obtain ⟨xs, at_, fa, fe⟩ := s
    obtain rfl : at_ = xs.length := by unfold RS.left at hl; change at_ ≤ xs.length at hle; change ¬ 0 < xs.length - at_ at hl; omega
    change fe = 0 at hf
    subst hf
    unfold rvOf
    change xs.length ≤ 100000 at hfew
    clear hl hle
    dsimp only
    go_enter Try.func24, Try.ntmps24
    go_wp2_with fail
    refine bodyPost_ret (v := .tuple #[rvOf A cap ⟨xs, xs.length, fa, 0⟩, .int .u64 0, .slice none 0 0]) (by simp [results, Try.results24, go_sem, rvOf]) rfl ⟨_, rfl, Own8.nil_ _ _, ?_⟩
    repeat (first | exact Below.refl _ _ | refine Below.alloc ?_ (by simp <;> omega) _)

set_option maxRecDepth 100000 in
set_option maxHeartbeats 2000000 in
/-- A number of so many bytes. -/
theorem rask_num {w : World} {A : Option Addr} {cap : Nat} {s : RS} (h : RMay w A cap s) (hf : s.fe = 0) (z : Int) (big : Bool) :
    Calls Try.prog 24 #[rvOf A cap s, .int .i64 1, .int .i64 z, .bool big] w (RGave w A cap (s.num z) (s.numN z big) []) := by
  have hle := h.le
  have hfew := h.few
  have hroom := h.room
  unfold RS.num RS.numN
  by_cases hz : 1 ≤ z ∧ z ≤ 8
  · rw [if_pos hz, if_pos hz]
    obtain ⟨n, rfl⟩ := Int.eq_ofNat_of_zero_le (show 0 ≤ z by omega)
    rw [Int.toNat_natCast]
    obtain ⟨z1, z8⟩ := hz
    by_cases hl : s.left < n
    · rw [RS.next_short hf hl, RS.nextB_short hf hl, getOf_nil]
      unfold rvOf
      rw [hf]
      have hl' : (s.xs.length : Int) - (s.at_ : Int) < (n : Int) := by unfold RS.left at hl; omega
      clear hl hf
      go_enter Try.func24, Try.ntmps24
      go_wp2_with fail
      refine (rfail_any _ _ _ _ _ 0 2 _).mono ?_
      rintro e w1 ⟨rfl, rfl⟩
      go_wp2_with fail
      refine bodyPost_ret (v := .tuple #[rvOf A cap ⟨s.xs, s.at_, s.at_, 2⟩, .int .u64 0, .slice none 0 0]) (by simp [results, Try.results24, go_sem, rvOf]) rfl ⟨_, rfl, Own8.nil_ _ _, ?_⟩
      repeat (first | exact Below.refl _ _ | refine Below.alloc ?_ (by simp <;> omega) _)
    · rw [RS.next_fits hf (by omega), RS.nextB_fits hf (by omega)]
      have hadd : s.at_ + n ≤ s.xs.length := by unfold RS.left at hl; omega
      have hcut := run_cut8 A s.xs.length cap s.at_ n (by omega)
      have hrd := h.rd.cut hadd cap hroom
      unfold rvOf
      rw [hf]
      have hl' : (n : Int) ≤ (s.xs.length : Int) - (s.at_ : Int) := by omega
      have hsum : (s.at_ : Int) + (n : Int) ≤ 100000 := by omega
      clear hl hf
      go_enter Try.func24, Try.ntmps24
      go_wp2_with fail
      refine (rget_any _ _ _ _ big (by omega) _ ((hrd.alloc (Nat.le_refl _) _).alloc (by simp) _ |>.more (by simp; omega))).mono ?_
      rintro e w1 ⟨rfl, rfl⟩
      go_wp2_with fail
      refine bodyPost_ret (v := .tuple #[rvOf A cap ⟨s.xs, s.at_ + n, s.fa, 0⟩, .int .u64 (getOf (List.take n (List.drop s.at_ s.xs)) big : Nat), .slice none 0 0]) (by simp [results, Try.results24, go_sem, rvOf]) rfl ⟨_, rfl, Own8.nil_ _ _, ?_⟩
      repeat (first | exact Below.refl _ _ | refine Below.alloc ?_ (by simp <;> omega) _)
  · rw [if_neg hz, if_neg hz, RS.fail_no hf]
    unfold rvOf
    rw [hf]
    by_cases h1 : z < 1
    · clear hz
      go_enter Try.func24, Try.ntmps24
      go_wp2_with fail
      refine (rfail_any _ _ _ _ _ 0 1 _).mono ?_
      rintro e w1 ⟨rfl, rfl⟩
      go_wp2_with fail
      refine bodyPost_ret (v := .tuple #[rvOf A cap ⟨s.xs, s.at_, s.at_, 1⟩, .int .u64 0, .slice none 0 0]) (by simp [results, Try.results24, go_sem, rvOf]) rfl ⟨_, rfl, Own8.nil_ _ _, ?_⟩
      repeat (first | exact Below.refl _ _ | refine Below.alloc ?_ (by simp <;> omega) _)
    · have h1' : 1 ≤ z := by omega
      have h8 : 8 < z := by omega
      clear hz h1
      go_enter Try.func24, Try.ntmps24
      go_wp2_with fail
      refine (rfail_any _ _ _ _ _ 0 1 _).mono ?_
      rintro e w1 ⟨rfl, rfl⟩
      go_wp2_with fail
      refine bodyPost_ret (v := .tuple #[rvOf A cap ⟨s.xs, s.at_, s.at_, 1⟩, .int .u64 0, .slice none 0 0]) (by simp [results, Try.results24, go_sem, rvOf]) rfl ⟨_, rfl, Own8.nil_ _ _, ?_⟩
      repeat (first | exact Below.refl _ _ | refine Below.alloc ?_ (by simp <;> omega) _)

end Go.Proofs.Ytghocjigmcdobaa
