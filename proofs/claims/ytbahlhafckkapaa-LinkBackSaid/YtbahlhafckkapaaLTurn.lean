/-
  The contract of link.Turn.
-/
import Derived.Test.YtbahlhafckkapaaLSmall
import Derived.Deep.RegionLaw
namespace Go.Proofs.Ytbahlhafckkapaa
open Go.RowKit Go.Lib

theorem splice_all (zs cs : List Value) (h : zs.length = cs.length) : splice zs 0 cs = cs := by
  unfold splice
  rw [List.take_zero, List.nil_append, Nat.zero_add, List.drop_eq_nil_of_le (by omega), List.append_nil]
theorem splice_turn (xs d s : List UInt8) (hd : d.length = 6) (hs : s.length = 6) (m1 : Nat) (hm1 : m1 = min 6 xs.length) :
    splice (splice (xs.map v8) 0 ((d.take xs.length).map v8)) m1 ((s.take (xs.length - m1)).map v8) = (turnOf xs d s).map v8 := by
  have l1 : ((d.take xs.length).map v8).length = m1 := by rw [List.length_map, List.length_take, hd]; omega
  have l2 : ((s.take (xs.length - m1)).map v8).length = min 6 (xs.length - m1) := by rw [List.length_map, List.length_take, hs]; omega
  have e1 : splice (xs.map v8) 0 ((d.take xs.length).map v8) = (d.take xs.length).map v8 ++ (xs.drop m1).map v8 := by
    unfold splice
    rw [List.take_zero, List.nil_append, Nat.zero_add, l1, List.map_drop]
  rw [e1]
  unfold splice turnOf
  rw [List.take_append_of_le_length (by omega), List.take_of_length_le (by omega), l2, List.drop_append, l1, List.drop_eq_nil_of_le (by omega), List.nil_append, Nat.add_sub_cancel_left, ← List.map_drop, List.drop_drop]
  rw [← List.map_append, ← List.map_append, ← List.append_assoc]
  congr 1
  by_cases h : 12 ≤ xs.length
  · have : m1 = 6 := by omega
    subst this
    rw [List.take_append, hd, show 6 + min 6 (xs.length - 6) = 12 by omega]
  · rw [List.drop_eq_nil_of_le (by omega), List.drop_eq_nil_of_le (by omega), List.take_append, hd]
    by_cases h6 : 6 ≤ xs.length
    · rw [show m1 = 6 by omega]
    · rw [show xs.length - m1 = 0 by omega, show xs.length - 6 = 0 by omega]

set_option maxRecDepth 100000 in
set_option maxHeartbeats 2000000 in
theorem turnlk_any (A : Option Addr) (len cap : Nat) (xs : List UInt8) (hlen : len ≤ 1000000) (d s : List UInt8) (hd : d.length = 6) (hs : s.length = 6) (w : World) (hI : Rd w w.heap.size A len xs) :
    Calls Try.prog 17 #[.slice A len cap, .agg (d.map v8).toArray, .agg (s.map v8).toArray] w fun e W' => ∃ v, e = .returned v ∧ Own8 W' w.heap.size v (turnOf xs d s) ∧ Below w.heap.size w W' := by
  have HL := Lib.hid hI.len
  obtain ⟨c0, hc0⟩ : ∃ c, (d.map v8).toArray = c := ⟨_, rfl⟩
  obtain ⟨c1, hc1⟩ : ∃ c, (s.map v8).toArray = c := ⟨_, rfl⟩
  have b0 : Blk ((w.alloc (.cells c0 24)).alloc (.cells c1 24)) 24 w.heap.size (d.map v8) := by
    rw [← hc0]; exact (Blk.new w _ _).alloc _
  have b1 : Blk ((w.alloc (.cells c0 24)).alloc (.cells c1 24)) 24 (w.heap.size + 1) (s.map v8) := by
    rw [← hc1]
    have := Blk.new (w.alloc (.cells c0 24)) 24 (s.map v8)
    simpa using this
  have hB0 : Below w.heap.size w ((w.alloc (.cells c0 24)).alloc (.cells c1 24)) := ((Below.refl w.heap.size w).alloc (Nat.le_refl _) _).alloc (by simp) _
  have hz : ((w.alloc (.cells c0 24)).alloc (.cells c1 24)).heap.size = w.heap.size + 2 := by simp
  rw [hc0, hc1]
  obtain ⟨m1, hm1⟩ : ∃ m1, m1 = min 6 len := ⟨_, rfl⟩
  obtain ⟨C1, hC1⟩ : ∃ C1, C1 = (d.take len).map v8 := ⟨_, rfl⟩
  obtain ⟨C2, hC2⟩ : ∃ C2, C2 = (s.take (len - m1)).map v8 := ⟨_, rfl⟩
  have hC1l : C1.length = m1 := by rw [hC1, List.length_map, List.length_take, hd]; omega
  have hC2l : C2.length = min 6 (len - m1) := by rw [hC2, List.length_map, List.length_take, hs]; omega
  have h1one : ∀ v ∈ C1, v.oneCell' = true := by rw [hC1]; exact oneCell8 _
  have h2one : ∀ v ∈ C2, v.oneCell' = true := by rw [hC2]; exact oneCell8 _
  have hfin : splice (splice (xs.map v8) 0 C1) m1 C2 = (turnOf xs d s).map v8 := by
    rw [hC1, hC2, ← HL.out]; exact splice_turn xs d s hd hs m1 (by rw [HL.out]; exact hm1)
  have hsub1 : ∀ (j : Nat) (v : Value), C1[j]? = some v → (d.map v8)[j]? = some v := by
    intro j v h
    rw [hC1, List.map_take, List.getElem?_take] at h
    split at h
    · exact h
    · cases h
  have hsub2 : ∀ (j : Nat) (v : Value), C2[j]? = some v → (s.map v8)[j]? = some v := by
    intro j v h
    rw [hC2, List.map_take, List.getElem?_take] at h
    split at h
    · exact h
    · cases h
  obtain ⟨w2, hw2⟩ : ∃ w2, (w.alloc (.cells c0 24)).alloc (.cells c1 24) = w2 := ⟨_, rfl⟩
  rw [hw2] at b0 b1 hB0 hz
  have hmk := run_make8 len len (Nat.le_refl _) (by omega) w2
  rw [hz] at hmk
  have hrow := Row8.made w2 len
  rw [hz] at hrow
  have hcut := run_from8 (some ⟨w.heap.size + 2, 0, none⟩) len len m1 (by omega)
  obtain ⟨w3, hw3⟩ : ∃ w3, w2.alloc (.cells (madeCells #[.int .u8 0] len) 5) = w3 := ⟨_, rfl⟩
  rw [hw3] at hrow hmk
  have hb3 : Below (w.heap.size + 2) w2 w3 := by rw [← hw3]; exact (Below.refl _ _).alloc (by omega) _
  have b0 := b0.below (B := w.heap.size + 2) (by omega) hb3
  have b1 := b1.below (B := w.heap.size + 2) (by omega) hb3
  have hB3 := hB0.trans (hb3.mono (by omega))
  have hI3 := hI.below hB3
  rw [← hw2] at hmk
  have HROW := Lib.hid hrow
  have HW2 := Lib.hid hw2
  have HB3 := Lib.hid hB3
  have HI3 := Lib.hid hI3
  have HC1l := Lib.hid hC1l
  have HC2l := Lib.hid hC2l
  have H1one := Lib.hid h1one
  have H2one := Lib.hid h2one
  have HFIN := Lib.hid hfin
  have HS1 := Lib.hid hsub1
  have HS2 := Lib.hid hsub2
  have HB0 := Lib.hid b0
  have HB1 := Lib.hid b1
  have HM1 := Lib.hid hm1
  clear hc0 hc1 hC1 hC2 hC1l hC2l h1one h2one hfin hsub1 hsub2 hw2 hz hrow hw3 hb3 hB0 hB3 hI3 hm1 b0 b1
  go_enter Try.func17, Try.ntmps17
  go_wp2_with (first
    | ((with_reducible show wpList _ _ _ _ _ _); refine wpList_copy_splice rfl (.tmp 12) (.tmp 13) 22 22 rfl 5 Try.underlying22 size8 _ _ _ _ _ _ (by rfl) (by rfl) (w.heap.size + 2) 0 ((List.replicate len (0 : UInt8)).map v8) 5 HROW.out (xs.map v8) (by rw [List.length_map, HL.out]; exact (Nat.min_self _).symm) (fun h0 => ⟨rfl, HI3.out.cells (by rw [List.length_map, HL.out] at h0; exact h0)⟩) (by simp; have := HL.out; omega) (oneCell8 _) (w.heap.size + 2) w3 (Below.refl _ _) (Nat.le_refl _) ?_; intro w4 HG4 hB4; rw [splice_all _ _ (by rw [List.length_map, List.length_map, List.length_replicate, HL.out])] at HG4)
    | ((with_reducible show wpList _ _ _ _ _ _); refine wpList_copy_splice rfl (.tmp 15) (.tmp 16) 22 22 rfl 5 Try.underlying22 size8 _ _ _ _ _ _ (by rfl) (by rfl) (w.heap.size + 2) 0 (xs.map v8) 5 HG4.out C1 (HC1l.out.trans HM1.out) (fun h0 => ⟨rfl, ⟨w.heap.size, 0, none⟩, rfl, fun j v hv => by rw [add_plain]; exact (HB0.out.below (by omega) hB4).range j v (HS1.out j v hv)⟩) (by rw [HC1l.out, List.length_map, HL.out, HM1.out]; omega) H1one.out (w.heap.size + 2) w4 (Below.refl _ _) (Nat.le_refl _) ?_; intro w5 HG5 hB5; rw [HC1l.out]))
  have B5 := hB4.trans hB5
  have hpos : 0 < C2.length → cutA (some ⟨w.heap.size + 2, 0, none⟩) len m1 = some ⟨w.heap.size + 2, m1, none⟩ := by
    intro h0
    rw [HC2l.out] at h0
    unfold cutA
    rw [if_neg (by omega)]
    simp [add_plain]
  have hfit : m1 + C2.length ≤ (splice (xs.map v8) 0 C1).length := by
    rw [length_splice _ _ _ (by rw [HC1l.out, List.length_map, HL.out, HM1.out]; omega), List.length_map, HL.out, HC2l.out, HM1.out]; omega
  have HP := Lib.hid hpos
  have HF := Lib.hid hfit
  clear hpos hfit
  go_region_law (refine step_copy_splice rfl (.tmp 20) (.tmp 21) 22 22 rfl 5 Try.underlying22 size8 (cutA (some ⟨w.heap.size + 2, 0, none⟩) len m1) (some ⟨w.heap.size + 1, 0, none⟩) (len - m1) (len - m1) 6 6 (by simp [Act.eval, Act.put]) (by simp [Act.eval, Act.put]) (w.heap.size + 2) m1 (splice (xs.map v8) 0 C1) 5 HG5.out C2 HC2l.out (fun h0 => ⟨HP.out h0, ⟨w.heap.size + 1, 0, none⟩, rfl, fun j v hv => by rw [add_plain]; exact (HB1.out.below (by omega) B5).range j v (HS2.out j v hv)⟩) HF.out H2one.out (w.heap.size + 2) w5 (Below.refl _ _).drew (Nat.le_refl _) ?_; intro w6 HG6 hB6)
  go_wp2_with fail
  have R6 : Row8 w6 (w.heap.size + 2) (turnOf xs d s) := by
    unfold Row8
    rw [← HFIN.out]
    exact HG6.out
  have hl : (turnOf xs d s).length = len := by rw [turnOf_len xs d s hd hs, HL.out]
  have how := R6.own (base := w.heap.size) (by omega) (Nat.le_refl _) (by rw [hl]; unfold maxLen; omega)
  rw [List.take_length, hl] at how
  have hBf : Below w.heap.size w w6 := HB3.out.trans ((B5.trans hB6).mono (by omega))
  clear hl
  go_ret
  exact ⟨_, rfl, how, hBf⟩
end Go.Proofs.Ytbahlhafckkapaa
