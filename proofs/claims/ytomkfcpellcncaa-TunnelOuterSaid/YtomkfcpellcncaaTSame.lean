/-
  The contract of the document's Same, of headers that are alike.
-/
import Derived.Test.YtomkfcpellcncaaQ7
import Derived.ChangeKeysEq
import Derived.Deep.QuietTactic
import Derived.BigQuiet
namespace Go.Proofs.Ytomkfcpellcncaa
open Go.RowKit Go.Lib

theorem size6_s7 : (Try.prog.info? 38).map (·.size) = some 6 := by kernel_rfl
theorem six_of {xs : List UInt8} (h : xs.length = 6) : ∃ a b c d e f, xs = [a, b, c, d, e, f] := by
  match xs, h with
  | [a, b, c, d, e, f], _ => exact ⟨a, b, c, d, e, f, rfl⟩
theorem info6 : ∃ i, Try.prog.info? 5 = some i := by
  cases h : Try.prog.info? 5 with
  | none => have := size8; rw [h] at this; cases this
  | some i => exact ⟨i, rfl⟩
theorem cells_u8_s7 : Try.prog.cellsOf 5 = 1 := by kernel_rfl
theorem plain_u8_s7 : Try.prog.plainKey 5 = true := by kernel_rfl
theorem run_eq8_s7 (w : World) (d : Nat) (x : UInt8) : (Op.equalIn (d + 1) 5 (v8 x) (v8 x)).run Try.prog w = .ok true w := by
  simp [Op.equalIn, Sem.run_bind, run_underlying Try.underlying5, v8]
theorem run_items8_s7 (w : World) (d : Nat) (xs : List UInt8) : ∀ is : List Nat, (∀ i ∈ is, i < xs.length) → (Op.eqItems (d + 1) 5 1 (xs.map v8).toArray (xs.map v8).toArray is).run Try.prog w = .ok true w
  | [], _ => by simp [Op.eqItems]
  | i :: is, h => by
    have hi := h i (by simp)
    have hx : (xs.map v8).toArray[i * 1]? = some (v8 xs[i]) := by simp [hi]
    simp only [Op.eqItems, Sem.run_bind, run_part_plain w plain_u8_s7 hx, Result.andThen_ok, run_eq8_s7]
    simp only [Bool.not_true, Bool.false_eq_true, if_false]
    exact run_items8_s7 w d xs is fun j hj => h j (by simp [hj])
theorem run_equal6 (w : World) {xs : List UInt8} (h : xs.length = 6) : (Op.equal 38 (.agg (xs.map v8).toArray) (.agg (xs.map v8).toArray)).run Try.prog w = .ok true w := by
  obtain ⟨i, hi⟩ := info6
  show (Op.equalIn (9998 + 1 + 1) _ _ _).run _ _ = _
  rw [run_equalIn_array w (9998 + 1) _ _ Try.underlying38 hi, cells_u8_s7]
  exact run_items8_s7 w 9998 xs _ fun i hi => by rw [h]; exact List.mem_range.1 hi
theorem guard6 : Try.prog.eqGuardType Try.prog.depth 38 = false := by kernel_rfl
theorem run_neq6 (w : World) {xs : List UInt8} (h : xs.length = 6) : (binOp .neq 38 (.agg (xs.map v8).toArray) (.agg (xs.map v8).toArray)).run Try.prog w = .ok (.bool false) w := by
  simp [binOp, run_equal6 w h]
theorem run_eql6 (w : World) {xs : List UInt8} (h : xs.length = 6) : (binOp .eql 38 (.agg (xs.map v8).toArray) (.agg (xs.map v8).toArray)).run Try.prog w = .ok (.bool true) w := by
  simp [binOp, run_equal6 w h]

set_option maxRecDepth 100000 in
set_option maxHeartbeats 2000000 in
theorem same_lk (L : Lk) (h6 : L.Six) {A A' : Option Addr} {n n' : Nat} (cap cap' : Nat) (hn : n ≤ 1000000) {w : World} {B : Nat} (hB : B ≤ w.heap.size) (hT : TagsAt w B A n L.ts) (hT' : TagsAt w B A' n' L.ts) :
    Calls Try.prog 17 #[lkC L (.slice A n cap), lkC L (.slice A' n' cap')] w fun e w' => e = .returned (.bool true) ∧ Below w.heap.size w w' := by
  obtain rfl : n' = n := by rw [← hT.size, ← hT'.size]
  have b0 := (Blk_7.new w 41 (lkL L (.slice A n' cap))).alloc (.cells (lkL L (.slice A' n' cap')).toArray 41)
  have b1 := Blk_7.new (w.alloc (.cells (lkL L (.slice A n' cap)).toArray 41)) 41 (lkL L (.slice A' n' cap'))
  rw [World.size_alloc] at b1
  have hBl := ((Below.refl w.heap.size w).alloc (Nat.le_refl _) (.cells (lkL L (.slice A n' cap)).toArray 41)).alloc (by simp) (.cells (lkL L (.slice A' n' cap')).toArray 41)
  have hd := h6.d
  have hs := h6.s
  have r0 := b0.dst
  have r1 := b1.dst
  have s0 := b0.src h6
  have s1 := b1.src h6
  have p12 := b0.cell (lkL_tags h6 _)
  have p13 := b0.cell (lkL_ty h6 _)
  have p14 := b0.cell (lkL_at h6 _)
  have q12 := b1.cell (lkL_tags h6 _)
  have q13 := b1.cell (lkL_ty h6 _)
  have q14 := b1.cell (lkL_at h6 _)
  have hTB := (hT.more hB).below hBl
  have hTB' := (hT'.more hB).below hBl
  have m6 : (Try.prog.info? 38).map (·.size) = some (L.d.map v8).length := by rw [List.length_map, hd]; exact size6_s7
  have m6' : (Try.prog.info? 38).map (·.size) = some (L.s.map v8).length := by rw [List.length_map, hs]; exact size6_s7
  have n1 := fun W => run_neq6 W hd
  have n2 := fun W => run_neq6 W hs
  unfold lkC
  generalize L.ty = ty at *
  generalize L.at_ = at_ at *
  generalize L.d.map v8 = D at *
  obtain ⟨y0, y1, y2, y3, y4, y5, hy⟩ : ∃ y0 y1 y2 y3 y4 y5 : Value, L.s.map v8 = [y0, y1, y2, y3, y4, y5] := by
    obtain ⟨a, b, c, d, e, f, h⟩ := six_of hs
    exact ⟨_, _, _, _, _, _, by rw [h]; rfl⟩
  rw [hy] at s0 s1 n2 m6'
  clear hy
  generalize lkL L (.slice A n' cap) = C at *
  generalize lkL L (.slice A' n' cap') = C' at *
  obtain ⟨w1, hw1⟩ : ∃ w1, (w.alloc (.cells C.toArray 41)).alloc (.cells C'.toArray 41) = w1 := ⟨_, rfl⟩
  rw [hw1] at r0 r1 s0 s1 p12 p13 p14 q12 q13 q14 hTB hTB' hBl
  have c6 : w1.cell? ⟨w.heap.size, 6, none⟩ = some y0 := s0 0 y0 rfl
  have c7 : w1.cell? ⟨w.heap.size, 7, none⟩ = some y1 := s0 1 y1 rfl
  have c8 : w1.cell? ⟨w.heap.size, 8, none⟩ = some y2 := s0 2 y2 rfl
  have c9 : w1.cell? ⟨w.heap.size, 9, none⟩ = some y3 := s0 3 y3 rfl
  have c10 : w1.cell? ⟨w.heap.size, 10, none⟩ = some y4 := s0 4 y4 rfl
  have c11 : w1.cell? ⟨w.heap.size, 11, none⟩ = some y5 := s0 5 y5 rfl
  have d6 : w1.cell? ⟨w.heap.size + 1, 6, none⟩ = some y0 := s1 0 y0 rfl
  have d7 : w1.cell? ⟨w.heap.size + 1, 7, none⟩ = some y1 := s1 1 y1 rfl
  have d8 : w1.cell? ⟨w.heap.size + 1, 8, none⟩ = some y2 := s1 2 y2 rfl
  have d9 : w1.cell? ⟨w.heap.size + 1, 9, none⟩ = some y3 := s1 3 y3 rfl
  have d10 : w1.cell? ⟨w.heap.size + 1, 10, none⟩ = some y4 := s1 4 y4 rfl
  have d11 : w1.cell? ⟨w.heap.size + 1, 11, none⟩ = some y5 := s1 5 y5 rfl
  have HW1 := Lib.hid hw1
  have R0 := Lib.hid r0
  have R1 := Lib.hid r1
  have HB := Lib.hid hBl
  have HT := Lib.hid hTB
  have HT' := Lib.hid hTB'
  have M6 := Lib.hid m6
  clear r0 r1 s0 s1 hBl hTB hTB' b0 b1 hw1 m6 m6' hd hs
  have x13 : (ty != ty) = false := by simp
  have x14 : (at_ != at_) = false := by simp
  go_enter Try.func17, Try.ntmps17
  go_wp2_with (first
    | ((with_reducible show wpList _ _ _ _ _ _); rw [HW1.out]; refine wpList_load_mid rfl 38 _ rfl w.heap.size 0 (by rfl) D _ R0.out Try.underlying38 rfl M6.out ?_)
    | ((with_reducible show wpList _ _ _ _ _ _); refine wpList_load_mid rfl 38 _ rfl (w.heap.size + 1) 0 (by rfl) D _ R1.out Try.underlying38 rfl M6.out ?_))
  clear R0 R1 n1 n2 c6 c7 c8 c9 c10 c11 d6 d7 d8 d9 d10 d11 p13 p14 q13 q14 x13 x14
  go_loopw [5] (fun i wr => ∃ (k : Nat), k ≤ n' ∧ i = .int .i64 (k : Int) ∧ ∃ m, wr = w1.drewN m) (fun i _ => n' - (intOf i).toNat)
  case atStart => exact ⟨0, by omega, rfl, 0, rfl⟩
  case round =>
    obtain ⟨k, hk, rfl, m, rfl⟩ := hrel
    by_cases hlt : k < n'
    · have hlt' : (k : Int) < (n' : Int) := by omega
      obtain ⟨b, off, rfl, _⟩ := HT.out.addr (by omega)
      obtain ⟨b', off', rfl, _⟩ := HT'.out.addr (by omega)
      obtain ⟨x, hx⟩ : ∃ x, L.ts[k]? = some x := ⟨_, List.getElem?_eq_getElem (by rw [HT.out.size]; exact hlt)⟩
      obtain ⟨e1, e2⟩ := HT.out.cell hx
      obtain ⟨e3, e4⟩ := HT'.out.cell hx
      have xt : (x.t != x.t) = false := by simp
      have xc : (x.c != x.c) = false := by simp
      clear hx
      go_wp2_with fail
      go_quiet (fail)
      go_wp2_with fail
      go_roundw
      case rel => exact ⟨k + 1, by omega, by go_num, _, rfl⟩
      case measure => simp [intOf]; omega
    · go_wp2_with fail
      go_ret
      exact ⟨rfl, below_drewN HB.out m⟩
end Go.Proofs.Ytomkfcpellcncaa
