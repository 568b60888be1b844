/-
  The contract of link.Put.
-/
import Derived.Test.YtbahlhafckkapaaLTag
import Derived.Deep.RegionLaw
namespace Go.Proofs.Ytbahlhafckkapaa
open Go.RowKit Go.Lib

/-- So many bytes, the first of which are these, noughts behind. -/
def rowOf (pre : List UInt8) (N : Nat) : List UInt8 := pre ++ List.replicate (N - pre.length) 0
theorem rowOf_len (pre : List UInt8) (N : Nat) (h : pre.length ≤ N) : (rowOf pre N).length = N := by unfold rowOf; rw [List.length_append, List.length_replicate]; omega
theorem rowOf_all (pre : List UInt8) (N : Nat) (h : pre.length = N) : rowOf pre N = pre := by unfold rowOf; rw [h]; simp
theorem rowOf_splice (pre ys : List UInt8) (N p : Nat) (hp : pre.length = p) : splice ((rowOf pre N).map v8) p (ys.map v8) = (rowOf (pre ++ ys) N).map v8 := by
  unfold splice rowOf
  rw [← List.map_take, List.length_map, ← List.map_drop, ← List.map_append, ← List.map_append, List.take_append_of_le_length (by omega), List.take_of_length_le (by omega), List.drop_append, hp, List.drop_eq_nil_of_le (by omega), List.nil_append, Nat.add_sub_cancel_left, List.drop_replicate, List.length_append, hp, List.append_assoc, show N - p - ys.length = N - (p + ys.length) by omega]
theorem rowOf_put2 (pre : List UInt8) (N p n : Nat) (hp : pre.length = p) : put2 (rowOf pre N) p n = rowOf (pre ++ be2 (n : Int)) N := by
  unfold put2 rowOf
  rw [List.take_append_of_le_length (by omega), List.take_of_length_le (by omega), List.drop_append, hp, List.drop_eq_nil_of_le (by omega), List.nil_append, Nat.add_sub_cancel_left, List.drop_replicate, List.length_append, hp, be2_len, List.append_assoc, show N - p - 2 = N - (p + 2) by omega]
theorem lay_row (n : Nat) (hn : n < 65536) {w : World} {g N p : Nat} {pre : List UInt8} (hrow : Row8 w g (rowOf pre N)) (m c : Nat) (hm : 2 ≤ m) (hp : pre.length = p) (h : p + 2 ≤ N) (z : Int) (hz : z = (n : Int)) :
    Calls Try.prog 24 #[.slice (some ⟨g, p, none⟩) m c, .int .i64 z] w fun e w' => e = .returned (.int .i64 2) ∧ Row8 w' g (rowOf (pre ++ be2 (n : Int)) N) ∧ w.grownBy w' (some g) := by
  subst hz
  rw [← rowOf_put2 pre N p n hp]
  exact lay_any n hn hrow p m c hm (by rw [rowOf_len _ _ (by omega)]; exact h)
theorem run_fromB (g N p : Nat) (h : p < N) (W : World) :
    (Instr.slice 22 (.slice (some ⟨g, 0, none⟩) N N) (some (.int .i64 (p : Int))) none none).run Try.prog W = .ok (.slice (some ⟨g, p, none⟩) (N - p) (N - p)) W := by
  rw [run_from8 _ N N p (by omega)]
  unfold cutA
  rw [if_neg (by omega)]
  simp [add_plain]
theorem run_fromB' (g N p : Nat) (z : Int) (hz : z = (p : Int)) (h : p < N) (W : World) :
    (Instr.slice 22 (.slice (some ⟨g, 0, none⟩) N N) (some (.int .i64 z)) none none).run Try.prog W = .ok (.slice (some ⟨g, p, none⟩) (N - p) (N - p)) W := by subst hz; exact run_fromB g N p h W

set_option maxRecDepth 100000 in
set_option maxHeartbeats 1000000 in
theorem put_no (L : Lk) (h6 : L.Six) {A : Option Addr} {n : Nat} (cap : Nat) (hn : n ≤ 1000000) {w : World} (hT : TagsAt w w.heap.size A n L.ts) (hr : rightB L = false) :
    Calls Try.prog 13 #[lkC L (.slice A n cap)] w fun e w' => e = .returned (.tuple #[.slice none 0 0, .int .i64 1]) ∧ Below w.heap.size w w' := by
  have hB1 := (Below.refl w.heap.size w).alloc (Nat.le_refl _) (.cells (lkL L (.slice A n cap)).toArray 27)
  have hb1 := Blk.new w 27 (lkL L (.slice A n cap))
  have hT1 := (hT.below hB1).more hB1.size
  have HM := Lib.hid (maybe_any L h6 cap hn hT1)
  rw [hr] at HM
  have HB := Lib.hid hb1
  have HB1 := Lib.hid hB1
  clear hb1 hT1 hB1 hr
  go_enter Try.func13, Try.ntmps13
  unfold lkC
  go_wp2_with (first
    | ((with_reducible show wpList _ _ _ _ _ _); refine wpList_loadL rfl _ rfl w.heap.size (by rfl) L h6 _ HB.out ?_))
  refine HM.out.mono ?_
  rintro e w2 ⟨rfl, hb2⟩
  go_wp2_with fail
  go_ret2
  exact ⟨rfl, HB1.out.trans (hb2.mono HB1.out.size)⟩

set_option maxRecDepth 100000 in
set_option maxHeartbeats 2000000 in
theorem put_yes (L : Lk) (h6 : L.Six) {A : Option Addr} {n : Nat} (cap : Nat) {w : World} (hT : TagsAt w w.heap.size A n L.ts) (hr : rightB L = true) :
    Calls Try.prog 13 #[lkC L (.slice A n cap)] w fun e w' => ∃ v, e = .returned (.tuple #[v, .int .i64 0]) ∧ Own8 w' w.heap.size v (lkB L) ∧ Below w.heap.size w w' := by
  obtain ⟨q1, q2, q3, q4⟩ := right_parts hr
  have hsz := hT.size
  have hn2 : n ≤ 2 := by omega
  have hB1 := (Below.refl w.heap.size w).alloc (Nat.le_refl _) (.cells (lkL L (.slice A n cap)).toArray 27)
  have hb1 := Blk.new w 27 (lkL L (.slice A n cap))
  have hT1 := (hT.below hB1).more hB1.size
  have HM := Lib.hid (maybe_any L h6 cap (by omega) hT1)
  rw [hr] at HM
  have HB := Lib.hid hb1
  have HB1 := Lib.hid hB1
  have HSZ := Lib.hid hsz
  obtain ⟨N, hN⟩ : ∃ N, 14 + 4 * n = N := ⟨_, rfl⟩
  have hmk := run_make8 N N (Nat.le_refl _) (by omega)
  have hNI : (N : Int) = 12 + 2 * (2 * (n : Int) + 1) := by omega
  rw [hNI] at hmk
  have HN := Lib.hid hN
  clear hb1 hT1 hB1 hr hsz hN hNI
  go_enter Try.func13, Try.ntmps13
  unfold lkC
  go_wp2_with (first
    | ((with_reducible show wpList _ _ _ _ _ _); refine wpList_loadL rfl _ rfl w.heap.size (by rfl) L h6 _ HB.out ?_))
  refine HM.out.mono ?_
  rintro e w2 ⟨rfl, hb2⟩
  have b2 := HB.out.below (by simp) hb2
  have c12 := b2.cell (lkL_tags h6 _)
  have z2 : w.heap.size + 1 ≤ w2.heap.size := by have := hb2.size; simpa using this
  have hrow : Row8 (w2.alloc (.cells (madeCells #[.int .u8 0] N) 5)) w2.heap.size (rowOf [] N) := Row8.made w2 N
  obtain ⟨w3, hw3⟩ : ∃ w3, w2.alloc (.cells (madeCells #[.int .u8 0] N) 5) = w3 := ⟨_, rfl⟩
  have hmk2 := hmk w2
  rw [hw3] at hrow hmk2
  have hb3 : Below w2.heap.size w2 w3 := by rw [← hw3]; exact (Below.refl _ _).alloc (Nat.le_refl _) _
  have hgl : w2.heap.size < w3.heap.size := by rw [← hw3]; simp
  obtain ⟨g, hg⟩ : ∃ g, w2.heap.size = g := ⟨_, rfl⟩
  rw [hg] at hmk2 hrow hb3 hgl z2
  have b3 := b2.below (by omega) hb3
  have B3 := HB1.out.trans ((hb2.mono HB1.out.size).trans (hb3.mono (by omega)))
  have hd6 : (L.d.map v8).length = 6 := by rw [List.length_map]; exact h6.d
  have hs6 : (L.s.map v8).length = 6 := by rw [List.length_map]; exact h6.s
  have e1 : splice ((rowOf [] N).map v8) 0 (L.d.map v8) = (rowOf L.d N).map v8 := by have := rowOf_splice [] L.d N 0 rfl; simpa using this
  have e2 : splice ((rowOf L.d N).map v8) 6 (L.s.map v8) = (rowOf (L.d ++ L.s) N).map v8 := rowOf_splice L.d L.s N 6 h6.d
  have hdr : ∀ j v, (L.d.map v8)[j]? = some v → w3.cell? ((⟨w.heap.size, 0, none⟩ : Addr).add j) = some v := fun j v hv => by rw [add_plain]; exact b3.dst j v hv
  have hsr : ∀ W : World, Below g w3 W → ∀ j v, (L.s.map v8)[j]? = some v → W.cell? ((⟨w.heap.size, 6, none⟩ : Addr).add j) = some v := fun W hW j v hv => by rw [add_plain]; exact (b3.below (by omega) hW).src h6 j v hv
  have hc6 : ∀ W, (Instr.slice 22 (.slice (some ⟨g, 0, none⟩) N N) (some (.int .i64 6)) none none).run Try.prog W = .ok (.slice (some ⟨g, 6, none⟩) (N - 6) (N - 6)) W := fun W => run_fromB g N 6 (by have := HN.out; omega) W
  have hN14 : 14 ≤ N := by have := HN.out; omega
  have HDR := Lib.hid hdr
  have HSR := Lib.hid hsr
  have HD6 := Lib.hid hd6
  have HS6 := Lib.hid hs6
  have E1 := Lib.hid e1
  have E2 := Lib.hid e2
  have HROW := Lib.hid hrow
  have HBL := Lib.hid b3
  have HB3 := Lib.hid B3
  have HG := Lib.hid hg
  clear hdr hsr hd6 hs6 e1 e2 hrow b3 B3 hw3 hmk hb2 b2 hb3
  go_wp2_with ((with_reducible show wpList _ _ _ _ _ _); refine wpList_copy_splice rfl (.tmp 19) (.tmp 21) 22 22 rfl 5 Try.underlying22 size8 _ _ _ _ _ _ (by rfl) (by rfl) g 0 ((rowOf [] N).map v8) 5 HROW.out (L.d.map v8) (by rw [HD6.out]; exact (Nat.min_eq_left (by omega)).symm) (fun h0 => ⟨rfl, ⟨w.heap.size, 0, none⟩, rfl, HDR.out⟩) (by rw [HD6.out, List.length_map, rowOf_len _ _ (Nat.zero_le _)]; omega) (oneCell8 _) g w3 (Below.refl _ _) (Nat.le_refl _) ?_; intro w4 HG4 hB4; rw [HD6.out])
  rw [E1.out] at HG4
  go_region_law (refine step_copy_splice rfl (.tmp 26) (.tmp 28) 22 22 rfl 5 Try.underlying22 size8 (some ⟨g, 6, none⟩) (some ⟨w.heap.size, 6, none⟩) (N - 6) (N - 6) 6 6 (by simp [Act.eval, Act.put]) (by simp [Act.eval, Act.put]) g 6 ((rowOf L.d N).map v8) 5 HG4.out (L.s.map v8) (by rw [HS6.out]; exact (Nat.min_eq_left (by omega)).symm) (fun h0 => ⟨rfl, ⟨w.heap.size, 6, none⟩, rfl, HSR.out _ hB4.drew⟩) (by rw [HS6.out, List.length_map, rowOf_len _ _ (by rw [h6.d]; omega)]; omega) (oneCell8 _) g w4 (Below.refl _ _).drew (Nat.le_refl _) ?_; intro w5 HG5 hB5; rw [HS6.out])
  rw [E2.out] at HG5
  have B45 := hB4.trans hB5
  have R5 : Row8 w5 g (rowOf (L.d ++ L.s) N) := HG5.out
  have L5 := HBL.out.below (by omega) B45
  have hgl5 : g < w5.heap.size := Nat.lt_of_lt_of_le hgl B45.size
  have B5 := HB3.out.trans (B45.mono (by omega))
  have hc12 := L5.cell (lkL_tags h6 _)
  have R5 := Lib.hid R5
  have L5 := Lib.hid L5
  have B5 := Lib.hid B5
  clear HG4 HG5 hB4 hB5 B45 c12 hc6
  go_wp2_with fail
  go_loopw [5, 34] (fun at_ i wr => ∃ k p : Nat, k ≤ n ∧ i = .int .i64 (k : Int) ∧ at_ = .int .i64 (p : Int) ∧ p = 12 + 4 * k ∧ Row8 wr g (rowOf (L.d ++ (L.s ++ tsB (L.ts.take k))) N) ∧ Blk wr 27 w.heap.size (lkL L (.slice A n cap)) ∧ g < wr.heap.size ∧ Below w.heap.size w wr) (fun _ i _ => n - (intOf i).toNat)
  case atStart => exact ⟨0, 12, by omega, rfl, rfl, rfl, by rw [List.take_zero]; show Row8 w5 g (rowOf (L.d ++ (L.s ++ [])) N); rw [List.append_nil]; exact R5.out, L5.out, hgl5, B5.out⟩
  case round =>
    clear R5 L5 B5 hgl5 hc12
    obtain ⟨k, p, hk, rfl, rfl, hp, R, Lb, hgw, B⟩ := hrel
    have HP := Lib.hid hp
    have hp20 : p ≤ 20 := by omega
    have hpl : (L.d ++ (L.s ++ tsB (L.ts.take k))).length = p := by
      rw [List.length_append, List.length_append, h6.d, h6.s, tsB_len, List.length_take, HSZ.out, Nat.min_eq_left hk]; omega
    clear hp
    by_cases hlt : k < n
    · have hlt' : (k : Int) < (n : Int) := by omega
      have hT5 := hT.below B
      obtain ⟨b, off, rfl, _⟩ := hT5.addr (by omega)
      obtain ⟨x, hx⟩ : ∃ x, L.ts[k]? = some x := ⟨_, List.getElem?_eq_getElem (by rw [HSZ.out]; exact hlt)⟩
      obtain ⟨c1, c2⟩ := hT5.cell hx
      have hpN : p + 4 + 2 ≤ N := by have := HN.out; have := HP.out; omega
      have htk : tsB (L.ts.take (k + 1)) = tsB (L.ts.take k) ++ (be2 x.t ++ be2 x.c) := by
        obtain ⟨h1, h2⟩ := List.getElem?_eq_some_iff.1 hx
        rw [← List.take_append_getElem h1, h2, tsB_snoc]
        rfl
      have hok : tgOk x = true := List.all_eq_true.1 q2 x (List.mem_of_getElem? hx)
      have hok' : isTg x.t = true ∧ fitsB x.c = true := by simpa [tgOk] using hok
      obtain ⟨t0, t1⟩ := fits_yes (isTg_fits hok'.1)
      obtain ⟨u0, u1⟩ := fits_yes hok'.2
      obtain ⟨xt, xc⟩ := x
      obtain ⟨t, rfl⟩ := Int.eq_ofNat_of_zero_le t0
      obtain ⟨u, rfl⟩ := Int.eq_ofNat_of_zero_le u0
      have ht65 : t < 65536 := by have t1' : ((t : Nat) : Int) < 65536 := t1; omega
      have hu65 : u < 65536 := by have u1' : ((u : Nat) : Int) < 65536 := u1; omega
      obtain ⟨pre, hpre⟩ : ∃ pre, L.d ++ (L.s ++ tsB (L.ts.take k)) = pre := ⟨_, rfl⟩
      have hpre2 : L.d ++ (L.s ++ tsB (L.ts.take (k + 1))) = (pre ++ be2 (t : Int)) ++ be2 (u : Int) := by
        rw [htk, ← hpre]; simp
      rw [hpre] at R hpl
      have hcut1 := run_fromB g N p (by omega)
      have hcut2 := run_fromB' g N (p + 2) ((p : Int) + 2) (by omega) (by omega)
      have hw2 : IntKind.i64.wrap ((p : Int) + 2) = (p : Int) + 2 := by rw [IntKind.wrap_i64]; omega
      have hw4 : IntKind.i64.wrap ((p : Int) + 2 + 2) = (p : Int) + 2 + 2 := by rw [IntKind.wrap_i64]; omega
      have HPRE2 := Lib.hid hpre2
      have HPL := Lib.hid hpl
      clear hpre hpre2 hpl htk hok hok' t0 t1 u0 u1 hx hT5
      -- the box of the tag
      obtain ⟨wA, hwA⟩ : ∃ wA, wr.alloc (.cells #[.int .i64 (t : Int), .int .i64 (u : Int)] 45) = wA := ⟨_, rfl⟩
      have tA : Blk wA 45 wr.heap.size [.int .i64 (t : Int), .int .i64 (u : Int)] := by rw [← hwA]; exact Blk.new wr _ [.int .i64 (t : Int), .int .i64 (u : Int)]
      have RA : Row8 wA g (rowOf pre N) := by rw [← hwA]; exact R.alloc _
      have LA : Blk wA 27 w.heap.size (lkL L (.slice (some ⟨b, off, none⟩) n cap)) := by rw [← hwA]; exact Lb.alloc _
      have BA : Below w.heap.size w wA := by rw [← hwA]; exact B.alloc B.size _
      have zA : wA.heap.size = wr.heap.size + 1 := by rw [← hwA]; simp
      have a0 := tA.cell (i := 0) rfl
      have hgne : some g ≠ some wr.heap.size := fun e => by cases e; omega
      have HWA := Lib.hid hwA
      have TA := Lib.hid tA
      have RA := Lib.hid RA
      have LA := Lib.hid LA
      have BA := Lib.hid BA
      have ZA := Lib.hid zA
      have HNE := Lib.hid hgne
      clear hwA tA R Lb B zA hgne
      go_wp2_with fail
      rw [HWA.out]
      go_region_law (rw [if_pos (by rfl)]; go_simp; refine (lay_row t ht65 (RA.out.drew) (N - p) (N - p) (by omega) HPL.out (by omega) _ rfl).mono ?_; rintro e w6 ⟨rfl, hR6, hg6⟩)
      have T6 := TA.out.drew.grown hg6 HNE.out
      have L6 := LA.out.drew.grown hg6 (fun e => by cases e; omega)
      have B6 := BA.out.drew.trans (gb_to_below hg6 (by omega) (by have := BA.out.size; simpa using this))
      have z6 : g < w6.heap.size := hR6.lt
      have a1 := T6.cell (i := 1) rfl
      have hl2 : (pre ++ be2 (t : Int)).length = p + 2 := by rw [List.length_append, HPL.out, be2_len]
      have HL2 := Lib.hid hl2
      have HR6 := Lib.hid hR6
      have L6 := Lib.hid L6
      have B6 := Lib.hid B6
      clear T6 hg6 hR6 a0 hl2
      go_wp2_with fail
      (try simp only [Act.put, List.getElem_toArray, List.getElem_cons_succ, List.getElem_cons_zero, List.setIfInBounds_toArray, List.set_cons_zero, List.set_cons_succ])
      go_region_law (rw [if_pos (by rfl)]; go_simp; refine (lay_row u hu65 (HR6.out.drew) (N - (p + 2)) (N - (p + 2)) (by omega) HL2.out (by omega) _ rfl).mono ?_; rintro e w7 ⟨rfl, hR7, hg7⟩)
      have L7 := L6.out.drew.grown hg7 (fun e => by cases e; omega)
      have B7 := B6.out.drew.trans (gb_to_below hg7 (by omega) (by have := B6.out.size; simpa using this))
      have z7 : g < w7.heap.size := hR7.lt
      rw [← HPRE2.out] at hR7
      have HR7 := Lib.hid hR7
      have L7 := Lib.hid L7
      have B7 := Lib.hid B7
      clear hR7 hg7 a1
      go_wp2_with fail
      clear hw2 hw4
      go_roundw
      case rel => exact ⟨k + 1, p + 4, by omega, by go_num, by go_num, by have := HP.out; omega, HR7.out, L7.out, z7, B7.out⟩
      case measure => simp [intOf]; omega
    · obtain rfl : k = n := by omega
      rw [List.take_of_length_le (by rw [HSZ.out]; exact Nat.le_refl _)] at R hpl
      have c13 := Lb.cell (lkL_ty h6 _)
      have hpN : p + 2 = N := by have := HN.out; have := HP.out; omega
      obtain ⟨t0, t1⟩ := fits_yes q3
      obtain ⟨t, ht⟩ := Int.eq_ofNat_of_zero_le t0
      have ht65 : t < 65536 := by omega
      have HTY := Lib.hid ht
      obtain ⟨pre, hpre⟩ : ∃ pre, L.d ++ (L.s ++ tsB L.ts) = pre := ⟨_, rfl⟩
      rw [hpre] at R hpl
      have hfin : lkB L = pre ++ be2 (t : Int) := by rw [← hpre, ← ht]; unfold lkB; simp
      have hcut1 := run_fromB g N p (by omega)
      have HFIN := Lib.hid hfin
      have HPL := Lib.hid hpl
      have HR := Lib.hid R
      have HB9 := Lib.hid B
      clear hfin hpl hpre ht t0 t1 hlt R B Lb
      go_wp2_with fail
      go_region_law (rw [if_pos (by rfl)]; go_simp; refine (lay_row t ht65 (HR.out.drew) (N - p) (N - p) (by omega) HPL.out (by omega) _ HTY.out).mono ?_; rintro e w7 ⟨rfl, hR7, hg7⟩)
      have B7 := HB9.out.drew.trans (gb_to_below hg7 (by omega) (by have := HB9.out.size; simpa using this))
      have hl : (pre ++ be2 (t : Int)).length = N := by rw [List.length_append, HPL.out, be2_len]; exact hpN
      rw [rowOf_all _ _ hl, ← HFIN.out] at hR7
      rw [← HFIN.out] at hl
      have how := hR7.own (base := w.heap.size) (by omega) (Nat.le_refl _) (by rw [hl]; unfold maxLen; omega)
      rw [List.take_length, hl] at how
      clear hR7 hg7 hl
      go_wp2_with fail
      go_ret2
      exact ⟨_, rfl, how, B7⟩
end Go.Proofs.Ytbahlhafckkapaa
