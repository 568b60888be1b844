/-
  The document's addr.
-/
import Derived.Test.YthicbdjambmnpaaSAddr
import Derived.IntWalk
namespace Go.Proofs.Ythicbdjambmnpaa
open Go.RowKit Go.Lib

/-- An address of which the first bytes are known, the others 0. -/
def adP (ys : List UInt8) : Ad := ⟨true, ys ++ List.replicate (16 - ys.length) 0⟩
theorem adP_nil : adP [] = Ad.six0 := rfl
theorem adP_len {ys : List UInt8} (h : ys.length ≤ 16) : (adP ys).b.length = 16 := by
  show (ys ++ List.replicate (16 - ys.length) 0).length = 16
  rw [List.length_append, List.length_replicate]; omega
theorem adP_cell {ys : List UInt8} (h : ys.length < 16) : (adL (adP ys))[1 + ys.length]? = some (.int .u8 0) := by
  show (Value.bool true :: (ys ++ List.replicate (16 - ys.length) 0).map v8)[1 + ys.length]? = _
  rw [Nat.add_comm, List.getElem?_cons_succ, List.getElem?_map, List.getElem?_append_right (Nat.le_refl _), Nat.sub_self, List.getElem?_replicate, if_pos (by omega)]
  rfl
theorem adP_set {ys : List UInt8} (h : ys.length < 16) (x : UInt8) : (adL (adP ys)).set (1 + ys.length) (v8 x) = adL (adP (ys ++ [x])) := by
  show (Value.bool true :: (ys ++ List.replicate (16 - ys.length) 0).map v8).set (1 + ys.length) (v8 x) = Value.bool true :: ((ys ++ [x]) ++ List.replicate (16 - (ys ++ [x]).length) 0).map v8
  rw [Nat.add_comm, List.set_cons_succ]
  congr 1
  rw [List.map_append, List.set_append_right _ _ (by rw [List.length_map]; exact Nat.le_refl _), List.length_map, Nat.sub_self, show 16 - ys.length = (16 - (ys ++ [x]).length) + 1 by rw [List.length_append, List.length_singleton]; omega, List.replicate_succ, List.map_cons, List.set_cons_zero]
  simp
theorem adP_full {xs : List UInt8} (p : Nat) (h : p + 16 ≤ xs.length) : adP ((xs.drop p).take 16) = adOf xs p := by
  unfold adP adOf ad16
  rw [List.length_take, List.length_drop, Nat.min_eq_left (by omega)]
  simp

set_option maxRecDepth 100000 in
set_option maxHeartbeats 2000000 in
theorem raddr_any {A : Option Addr} {len : Nat} {cap p : Nat} {xs : List UInt8} (z : Int) (hz : z = (p : Int)) (hlen : len ≤ 1000000000) (h : p + 16 ≤ len) {w : World} {B : Nat} (hBw : B ≤ w.heap.size) (hI : Rd w B A len xs) :
    Calls Try.prog 23 #[.slice A len cap, .int .i64 z] w fun e w' => e = .returned (adC (adOf xs p)) ∧ Below w.heap.size w w' := by
  subst hz
  have HL := Lib.hid hI.len
  obtain ⟨Z, hZ⟩ : ∃ Z : World, (w.alloc (.cells (adL Ad.zero).toArray 26)).alloc (.cells (adL Ad.zero).toArray 26) = Z := ⟨_, rfl⟩
  have b1 : Blk Z 26 w.heap.size (adL Ad.zero) := by rw [← hZ]; exact (Blk.new w _ _).alloc _
  have b2 : Blk Z 26 (w.heap.size + 1) (adL Ad.zero) := by
    rw [← hZ]
    have := Blk.new (w.alloc (.cells (adL Ad.zero).toArray 26)) 26 (adL Ad.zero)
    simpa using this
  have hB0 : Below w.heap.size w Z := by rw [← hZ]; exact ((Below.refl w.heap.size w).alloc (Nat.le_refl _) _).alloc (by simp) _
  have b3 := b2.setRow_ (adL Ad.six0)
  have b4 := b1.setRow_far (b := w.heap.size + 1) (by omega) (adL Ad.six0).toArray
  have b5 := below_setRow hB0 (Nat.le_succ w.heap.size) (adL Ad.six0).toArray
  obtain ⟨Y, hY⟩ : ∃ Y, Z.setRow (w.heap.size + 1) (adL Ad.six0).toArray = Y := ⟨_, rfl⟩
  rw [hY] at b3 b4 b5
  rw [← zeroP] at hZ
  have HZ := Lib.hid hZ
  have HY := Lib.hid hY
  have HBZ := Lib.hid b2
  clear hZ hY b1 b2 hB0
  have b1 := b4
  have b2 := b3
  have hB0 := b5
  clear b3 b4 b5
  go_enter Try.func23, Try.ntmps23
  go_wp2_with (first
    | ((with_reducible show wpList _ _ _ _ _ _); refine wpList_buildTo rfl 26 _ rfl (some 7) rfl (adL Ad.six0).toArray (by kernel_rfl) ?_)
    | ((with_reducible show wpList _ _ _ _ _ _); rw [HZ.out]; refine wpList_storeR rfl 26 (.tmp 5) (.tmp 7) rfl (w.heap.size + 1) (by rfl) (adL Ad.six0) (by rfl) _ HBZ.out rfl (sizeAdL rfl) (adL_one _) ?_; rw [HY.out]))
  go_loopw [6] (fun i wr => ∃ (k : Nat) (ys : List UInt8), k ≤ 16 ∧ i = .int .i64 (k : Int) ∧ ys = (xs.drop p).take k ∧ ys.length = k ∧ Blk wr 26 w.heap.size (adL Ad.zero) ∧ Blk wr 26 (w.heap.size + 1) (adL (adP ys)) ∧ Below w.heap.size w wr) (fun i _ => 16 - (intOf i).toNat)
  case atStart => exact ⟨0, [], by omega, rfl, by rw [List.take_zero], rfl, b1, by rw [adP_nil]; exact b2, hB0⟩
  case round =>
    clear b1 b2 hB0
    obtain ⟨k, ys, hk, rfl, hys, hyl, b1, b2, hB⟩ := hrel
    have HB1 := Lib.hid b1
    by_cases hlt : k < 16
    · have hlt' : (k : Int) < 16 := by omega
      have hr := hI.below (hB.mono hBw)
      obtain ⟨b, off, rfl, hb⟩ := hr.addr (by omega)
      have hx : p + k < xs.length := by rw [HL.out]; omega
      have hc := hr.cell (k := p + k) (by omega)
      obtain ⟨x, hxx⟩ : ∃ x, xs[p + k] = x := ⟨_, rfl⟩
      rw [hxx] at hc
      have hys2 : ys ++ [x] = (xs.drop p).take (k + 1) := by
        rw [hys, List.take_succ_eq_append_getElem (by rw [List.length_drop]; omega), List.getElem_drop, hxx]
      have l1 : (p : Int) + (k : Int) < (len : Int) := by omega
      have t1 : ((p : Int) + (k : Int)).toNat = p + k := by omega
      have hw : IntKind.i64.wrap ((p : Int) + (k : Int)) = (p : Int) + (k : Int) := by rw [IntKind.wrap_i64]; omega
      have hc1 : wr.cell? ⟨w.heap.size + 1, 1 + k, none⟩ = some (.int .u8 0) := b2.cell (by have := adP_cell (ys := ys) (by omega); rwa [hyl] at this)
      have hf1 := b2.frozen (1 + k)
      have b2' := b2.set (1 + k) (v8 x)
      rw [show (adL (adP ys)).set (1 + k) (v8 x) = adL (adP (ys ++ [x])) by have := adP_set (ys := ys) (by omega) x; rwa [hyl] at this] at b2'
      have B2 := Lib.hid b2'
      have hB' := Lib.hid (hB.setCell (p := ⟨w.heap.size + 1, 1 + k, none⟩) (by simp) (v8 x))
      have b1' := Lib.hid (HB1.out.far (p := ⟨w.heap.size + 1, 1 + k, none⟩) (by simp) (v8 x))
      have HY := Lib.hid hys2
      have HYL := Lib.hid hyl
      clear b1 b2 b2' hys hys2 hyl hxx hx hB hr
      go_wp2_with fail
      go_roundw
      case rel => exact ⟨k + 1, ys ++ [x], by omega, by go_num, HY.out, by rw [List.length_append, HYL.out]; rfl, b1'.out, B2.out, hB'.out⟩
      case measure => simp [intOf]; omega
    · obtain rfl : k = 16 := by omega
      rw [hys, adP_full p (by rw [HL.out]; exact h)] at b2
      have hl := adOf_len xs p (by rw [HL.out]; exact h)
      have HB2 := Lib.hid b2
      have HBB := Lib.hid hB
      clear b1 b2 hys hyl hB hlt
      go_wp2_with (first
        | ((with_reducible show wpList _ _ _ _ _ _); refine wpList_load_mid rfl 26 _ rfl (w.heap.size + 1) 0 (by rfl) (adL (adOf xs p)) _ HB2.out.range Try.underlying26 rfl (sizeAdL hl) ?_)
        | ((with_reducible show wpList _ _ _ _ _ _); refine wpList_storeR rfl 26 _ _ rfl w.heap.size (by rfl) (adL (adOf xs p)) (by rfl) _ HB1.out (by rw [adL_len hl]; rfl) (sizeAdL hl) (adL_one _) ?_))
      refine bodyPost_ret (v := adC (adOf xs p)) (results_ad rfl _ _ w.heap.size (by rfl) _ hl (HB1.out.setRow_ _)) rfl ?_
      exact ⟨rfl, below_setRow HBB.out (Nat.le_refl _) _⟩

end Go.Proofs.Ythicbdjambmnpaa
