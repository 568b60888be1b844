/-
  The document's addr and Short.
-/
import Derived.Test.YtkdliadigalgaaaFSmall
import Derived.IntWalk
namespace Go.Proofs.Ytkdliadigalgaaa
open Go.RowKit Go.Lib

theorem zeroA : #[Value.bool false, .int .u8 0, .int .u8 0, .int .u8 0, .int .u8 0, .int .u8 0, .int .u8 0, .int .u8 0, .int .u8 0, .int .u8 0, .int .u8 0, .int .u8 0, .int .u8 0, .int .u8 0, .int .u8 0, .int .u8 0, .int .u8 0] = (adL Ad.zero).toArray := by rfl
/-- An address of which the first bytes are known, the others 0. -/
def adP (ys : List UInt8) : Ad := ⟨false, ys ++ List.replicate (16 - ys.length) 0⟩
theorem adP_nil : adP [] = Ad.zero := rfl
theorem adP_len {ys : List UInt8} (h : ys.length ≤ 16) : (adP ys).b.length = 16 := by
  show (ys ++ List.replicate (16 - ys.length) 0).length = 16
  rw [List.length_append, List.length_replicate]; omega
theorem adP_cell {ys : List UInt8} (h : ys.length < 16) : (adL (adP ys))[1 + ys.length]? = some (.int .u8 0) := by
  show (Value.bool false :: (ys ++ List.replicate (16 - ys.length) 0).map v8)[1 + ys.length]? = _
  rw [Nat.add_comm, List.getElem?_cons_succ, List.getElem?_map, List.getElem?_append_right (Nat.le_refl _), Nat.sub_self, List.getElem?_replicate, if_pos (by omega)]
  rfl
theorem adP_set {ys : List UInt8} (h : ys.length < 16) (x : UInt8) : (adL (adP ys)).set (1 + ys.length) (v8 x) = adL (adP (ys ++ [x])) := by
  show (Value.bool false :: (ys ++ List.replicate (16 - ys.length) 0).map v8).set (1 + ys.length) (v8 x) = Value.bool false :: ((ys ++ [x]) ++ List.replicate (16 - (ys ++ [x]).length) 0).map v8
  rw [Nat.add_comm, List.set_cons_succ]
  congr 1
  rw [List.map_append, List.set_append_right _ _ (by rw [List.length_map]; exact Nat.le_refl _), List.length_map, Nat.sub_self, show 16 - ys.length = (16 - (ys ++ [x]).length) + 1 by rw [List.length_append, List.length_singleton]; omega, List.replicate_succ, List.map_cons, List.set_cons_zero]
  simp
theorem adP_four {xs : List UInt8} (p : Nat) (h : p + 4 ≤ xs.length) : adP ((xs.drop p).take 4) = adOf xs p := by
  unfold adP adOf
  rw [List.length_take, List.length_drop, Nat.min_eq_left (by omega)]
  rfl

set_option maxRecDepth 100000 in
set_option maxHeartbeats 2000000 in
theorem raddr_any {A : Option Addr} {len : Nat} {cap p : Nat} {xs : List UInt8} (z : Int) (hz : z = (p : Int)) (hlen : len ≤ 1000000000) (h : p + 4 ≤ len) {w : World} {B : Nat} (hBw : B ≤ w.heap.size) (hI : Rd w B A len xs) :
    Calls Try.prog 22 #[.slice A len cap, .int .i64 z] w fun e w' => e = .returned (adC (adOf xs p)) ∧ Below w.heap.size w w' := by
  subst hz
  have HL := Lib.hid hI.len
  obtain ⟨Z, hZ⟩ : ∃ Z : World, (w.alloc (.cells (adL Ad.zero).toArray 26)).alloc (.cells (adL Ad.zero).toArray 26) = Z := ⟨_, rfl⟩
  have b1 : Blk Z 26 w.heap.size (adL Ad.zero) := by rw [← hZ]; exact (Blk.new w _ _).alloc _
  have b2 : Blk Z 26 (w.heap.size + 1) (adL Ad.zero) := by
    rw [← hZ]
    have := Blk.new (w.alloc (.cells (adL Ad.zero).toArray 26)) 26 (adL Ad.zero)
    simpa using this
  have hB0 : Below w.heap.size w Z := by rw [← hZ]; exact ((Below.refl w.heap.size w).alloc (Nat.le_refl _) _).alloc (by simp) _
  rw [← zeroA] at hZ
  have HZ := Lib.hid hZ
  clear hZ
  go_enter Try.func22, Try.ntmps22
  go_wp2_with fail
  rw [HZ.out]
  go_loopw [6] (fun i wr => ∃ (k : Nat) (ys : List UInt8), k ≤ 4 ∧ i = .int .i64 (k : Int) ∧ ys = (xs.drop p).take k ∧ ys.length = k ∧ Blk wr 26 w.heap.size (adL Ad.zero) ∧ Blk wr 26 (w.heap.size + 1) (adL (adP ys)) ∧ Below w.heap.size w wr) (fun i _ => 4 - (intOf i).toNat)
  case atStart => exact ⟨0, [], by omega, rfl, by rw [List.take_zero], rfl, b1, by rw [adP_nil]; exact b2, hB0⟩
  case round =>
    clear b1 b2 hB0
    obtain ⟨k, ys, hk, rfl, hys, hyl, b1, b2, hB⟩ := hrel
    have HB1 := Lib.hid b1
    by_cases hlt : k < 4
    · have hlt' : (k : Int) < 4 := by omega
      have hr := hI.below (hB.mono hBw)
      obtain ⟨b, off, rfl, hb⟩ := hr.addr (by omega)
      have hx : p + k < xs.length := by rw [HL.out]; omega
      have hc := hr.cell (k := p + k) (by omega)
      obtain ⟨x, hxx⟩ : ∃ x, xs[p + k] = x := ⟨_, rfl⟩
      rw [hxx] at hc
      have hys2 : ys ++ [x] = (xs.drop p).take (k + 1) := by
        rw [hys, List.take_succ_eq_append_getElem (by rw [List.length_drop]; omega), List.getElem_drop, hxx]
      have l1 : (p : Int) + (k : Int) < (len : Int) := by omega
      have t1 : ((p : Int) + (k : Int)).toNat = p + k := by omega
      have hw : IntKind.i64.wrap ((p : Int) + (k : Int)) = (p : Int) + (k : Int) := by rw [IntKind.wrap_i64]; omega
      have hc1 : wr.cell? ⟨w.heap.size + 1, 1 + k, none⟩ = some (.int .u8 0) := b2.cell (by have := adP_cell (ys := ys) (by omega); rwa [hyl] at this)
      have hf1 := b2.frozen (1 + k)
      have b2' := b2.set (1 + k) (v8 x)
      rw [show (adL (adP ys)).set (1 + k) (v8 x) = adL (adP (ys ++ [x])) by have := adP_set (ys := ys) (by omega) x; rwa [hyl] at this] at b2'
      have B2 := Lib.hid b2'
      have hB' := Lib.hid (hB.setCell (p := ⟨w.heap.size + 1, 1 + k, none⟩) (by simp) (v8 x))
      have b1' := Lib.hid (HB1.out.far (p := ⟨w.heap.size + 1, 1 + k, none⟩) (by simp) (v8 x))
      have HY := Lib.hid hys2
      have HYL := Lib.hid hyl
      clear b1 b2 b2' hys hys2 hyl hxx hx hB hr
      go_wp2_with fail
      go_roundw
      case rel => exact ⟨k + 1, ys ++ [x], by omega, by go_num, HY.out, by rw [List.length_append, HYL.out]; rfl, b1'.out, B2.out, hB'.out⟩
      case measure => simp [intOf]; omega
    · obtain rfl : k = 4 := by omega
      rw [hys, adP_four p (by rw [HL.out]; exact h)] at b2
      have hl := adOf_len xs p (by rw [HL.out]; exact h)
      have HB2 := Lib.hid b2
      have HBB := Lib.hid hB
      clear b1 b2 hys hyl hB hlt
      go_wp2_with (first
        | ((with_reducible show wpList _ _ _ _ _ _); refine wpList_load_mid rfl 26 _ rfl (w.heap.size + 1) 0 (by rfl) (adL (adOf xs p)) _ HB2.out.range Try.underlying26 rfl (sizeAdL hl) ?_)
        | ((with_reducible show wpList _ _ _ _ _ _); refine wpList_storeR rfl 26 _ _ rfl w.heap.size (by rfl) (adL (adOf xs p)) (by rfl) _ HB1.out (by rw [adL_len hl]; rfl) (sizeAdL hl) (adL_one _) ?_))
      refine bodyPost_ret (v := adC (adOf xs p)) (results_ad rfl _ _ w.heap.size (by rfl) _ hl (HB1.out.setRow_ _)) rfl ?_
      exact ⟨rfl, below_setRow HBB.out (Nat.le_refl _) _⟩

theorem short_no {a : Ad} {k : Nat} (h4 : 4 ≤ k) (h : batN a.b k ≠ 0) : shortB a = false := by
  obtain ⟨s, b⟩ := a
  unfold shortB
  apply Bool.eq_false_iff.2
  intro hh
  rw [Bool.and_eq_true, List.all_eq_true] at hh
  apply h
  unfold batN
  by_cases hk : k < b.length
  · rw [List.getD, List.getElem?_eq_getElem hk]
    have := hh.2 b[k] (List.mem_iff_getElem.2 ⟨k - 4, by simp; omega, by simp [show 4 + (k - 4) = k by omega]⟩)
    have e : b[k] = 0 := by simpa using this
    show (b[k]).toNat = 0
    rw [e]; rfl
  · rw [List.getD, List.getElem?_eq_none (by show b.length ≤ k; omega)]; rfl
theorem short_all {a : Ad} (h : ∀ k, 4 ≤ k → k < a.b.length → batN a.b k = 0) : shortB a = !a.six := by
  obtain ⟨s, b⟩ := a
  have : (b.drop 4).all (· == 0) = true := by
    rw [List.all_eq_true]
    intro x hx
    obtain ⟨i, hi, rfl⟩ := List.mem_iff_getElem.1 hx
    have hl : 4 + i < b.length := by rw [List.length_drop] at hi; omega
    have := h (4 + i) (by omega) hl
    unfold batN at this
    rw [List.getD, List.getElem?_eq_getElem (show 4 + i < b.length from hl)] at this
    have e : b[4 + i] = 0 := UInt8.toNat_inj.1 this
    simp [e]
  unfold shortB
  rw [show (({ six := s, b := b } : Ad).b.drop 4).all (· == 0) = true from this, Bool.and_true]

set_option maxRecDepth 100000 in
set_option maxHeartbeats 2000000 in
theorem rshort_any {a : Ad} (h : a.b.length = 16) (w : World) : Calls Try.prog 26 #[adC a] w fun e w' => e = .returned (.bool (shortB a)) ∧ Below w.heap.size w w' := by
  have hb1 := Blk.new w 26 (adL a)
  have hB1 := (Below.refl w.heap.size w).alloc (Nat.le_refl _) (.cells (adL a).toArray 26)
  have c0 := hb1.cell (i := 0) (v := .bool a.six) rfl
  have hr := range_rd hb1.adB h (Nat.lt_succ_self _)
  have ha := fun (h : ∀ k, 4 ≤ k → k < 16 → batN a.b k = 0) => short_all (a := a) (fun k h1 h2 => h k h1 (by omega))
  have hn := fun k (h1 : 4 ≤ k) (h2 : batN a.b k ≠ 0) => short_no (a := a) h1 h2
  have HA := Lib.hid ha
  have HN := Lib.hid hn
  unfold adC
  clear hb1 ha hn
  obtain ⟨w1, hw1⟩ : ∃ w1, w.alloc (.cells (adL a).toArray 26) = w1 := ⟨_, rfl⟩
  rw [hw1] at hB1 c0 hr
  have HW := Lib.hid hw1
  have HB := Lib.hid hB1
  generalize a.six = six at *
  generalize shortB a = S at *
  generalize adL a = C at *
  clear hw1 hB1
  go_enter Try.func26, Try.ntmps26
  go_wp2_with fail
  rw [HW.out]
  go_loopw [3] (fun i wr => ∃ (k : Nat), 4 ≤ k ∧ k ≤ 16 ∧ i = .int .i64 (k : Int) ∧ (∀ j, 4 ≤ j → j < k → batN a.b j = 0) ∧ wr = w1) (fun i _ => 16 - (intOf i).toNat)
  case atStart => exact ⟨4, by omega, by omega, rfl, fun j _ _ => by omega, rfl⟩
  case round =>
    obtain ⟨k, hk4, hk, rfl, hz, rfl⟩ := hrel
    have HZ := Lib.hid hz
    clear hz
    by_cases hlt : k < 16
    · have hlt' : (k : Int) < 16 := by omega
      have hc := hr.cellD (k := k) hlt
      have hx := batN_lt a.b k
      by_cases h0 : batN a.b k = 0
      · rw [h0] at hc
        have h0' := Lib.hid h0
        clear h0 hx
        go_wp2_with fail
        go_roundw
        case rel => exact ⟨k + 1, by omega, by omega, by go_num, fun j h1 h2 => by
          by_cases e : j = k
          · subst e; exact h0'.out
          · exact HZ.out j h1 (by omega), trivial⟩
        case measure => simp [intOf]; omega
      · have hS := HN.out k hk4 h0
        generalize batN a.b k = x at *
        have x1 : ((x : Int) == 0) = false := beq_eq_false_iff_ne.2 (by omega)
        have x2 : ((x : Int) != 0) = true := by simp; omega
        have x3 : (x == 0) = false := beq_eq_false_iff_ne.2 h0
        have HSS := Lib.hid hS
        clear hS h0 hx
        go_wp2_with fail
        go_ret
        exact ⟨by rw [HSS.out]; rfl, HB.out⟩
    · obtain rfl : k = 16 := by omega
      have hS := HA.out HZ.out
      have HSS := Lib.hid hS
      clear hS
      go_wp2_with fail
      go_ret
      exact ⟨by rw [HSS.out]; rfl, HB.out⟩
end Go.Proofs.Ytkdliadigalgaaa
