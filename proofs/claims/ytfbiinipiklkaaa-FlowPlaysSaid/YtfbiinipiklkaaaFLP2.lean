/-
  The program: within, rightAddr.
  The program: rightKey, Right.
-/
import Derived.Test.YtfbiinipiklkaaaSlK2
import Derived.Test.YtfbiinipiklkaaaFLLd
import Derived.Test.YtfbiinipiklkaaaFLRef2
import Derived.Shelf.RegionOpen
import Derived.Test.YtfbiinipiklkaaaUP1
namespace Go.Proofs.Ytfbiinipiklkaaa
set_option maxRecDepth 100000
open Go.RowKit Go.Lib

theorem guardAf : Try.prog.eqGuardType Try.prog.depth 24 = false := by kernel_rfl
theorem wpList_loadAdL {w : World} {ops : Array Oper} {rest : List Oper} {op : Oper} {a : Act} {Q : Exit → Act → World → Prop} (x : Operand) (ho : op.op = .load 24 x) (hw : Region.wanted op (yielded ops a.tmps) = true)
    (g o : Nat) (hx : a.eval x = .pointer (some ⟨g, o, none⟩)) (A : Ad) (h : A.b.length = 16) (hb : w.rangeAt g o (adL A)) (C : Value) (hC : adC A = C)
    (hk : wpList Try.prog ops Q rest (a.put op.dst C) w) : wpList Try.prog ops Q (op :: rest) a w := by
  subst hC
  exact BigFrame.wpList_want hw fun _ hK => wp_load_mid 24 x ho g o hx (adL A) _ hb Try.underlying24 rfl (sizeAdL h) (hK _ _ hk)
theorem run_eqlA (w : World) {a b : Ad} (ha : a.b.length = 16) (hb : b.b.length = 16) : (binOp .eql 24 (adC a) (adC b)).run Try.prog w = .ok (.bool (adB a b)) w := by
  have := run_eq_ad w 9997 ha hb
  unfold adC at this ⊢
  rw [run_eql_struct, this, Result.andThen_ok]
theorem pwithin_any (z lo hi : Int) (W : World) : Calls Try.prog 32 #[.int .i64 z, .int .i64 lo, .int .i64 hi] W fun e w' => e = .returned (.bool (inB' z lo hi)) ∧ W = w' := by
  obtain ⟨r, hr⟩ : ∃ r, inB' z lo hi = r := ⟨_, rfl⟩
  rw [hr]
  unfold inB' at hr
  by_cases h1 : lo ≤ z
  · by_cases h2 : z ≤ hi
    · obtain rfl : r = true := by rw [← hr]; simp [h1, h2]
      clear hr
      go_enter Try.func32, Try.ntmps32
      go_wp2_with fail
      go_ret
      exact ⟨rfl, rfl⟩
    · obtain rfl : r = false := by rw [← hr]; simp [h2]
      clear hr
      go_enter Try.func32, Try.ntmps32
      go_wp2_with fail
      go_ret
      exact ⟨rfl, rfl⟩
  · obtain rfl : r = false := by rw [← hr]; simp [h1]
    clear hr
    go_enter Try.func32, Try.ntmps32
    go_wp2_with fail
    go_ret
    exact ⟨rfl, rfl⟩
def adf (xs : List UInt8) : Ad := ⟨false, xs.take 4 ++ [0, 0, 0, 0, 0, 0, 0, 0, 0, 0, 0, 0]⟩
theorem adf_len {xs : List UInt8} (h : 4 ≤ xs.length) : (adf xs).b.length = 16 := by
  show (xs.take 4 ++ [0, 0, 0, 0, 0, 0, 0, 0, 0, 0, 0, 0]).length = 16
  rw [List.length_append, List.length_take, Nat.min_eq_left h]; rfl
theorem short_adf {a : Ad} (h : a.b.length = 16) : adB a (adf a.b) = shortB a := by
  obtain ⟨six, b⟩ := a
  match b, h with
  | [b0, b1, b2, b3, b4, b5, b6, b7, b8, b9, b10, b11, b12, b13, b14, b15], _ =>
    apply Bool.eq_iff_iff.2
    cases six <;> simp [adB, adf, shortB]
theorem spl_adf {A : Ad} (h : A.b.length = 16) : spl (adL ⟨false, z16⟩) ((A.b.take 4).map v8) 1 = adL (adf A.b) := by
  obtain ⟨six, b⟩ := A
  match b, h with
  | [b0, b1, b2, b3, b4, b5, b6, b7, b8, b9, b10, b11, b12, b13, b14, b15], _ => rfl
theorem zeroAdf : #[Value.bool false, .int .u8 0, .int .u8 0, .int .u8 0, .int .u8 0, .int .u8 0, .int .u8 0, .int .u8 0, .int .u8 0, .int .u8 0, .int .u8 0, .int .u8 0, .int .u8 0, .int .u8 0, .int .u8 0, .int .u8 0, .int .u8 0] = (adL ⟨false, z16⟩).toArray := by rfl
theorem copyf_any {w : World} {g0 g1 : Nat} {A : Ad} (h : A.b.length = 16) (hb0 : Blk w 24 g0 (adL A)) (hb1 : Blk w 24 g1 (adL ⟨false, z16⟩)) (ty : TypeId) :
    ∃ w', (Builtin.copy_ #[72, 72] ty #[.slice (some ⟨g1, 1, none⟩) 4 16, .slice (some ⟨g0, 1, none⟩) 16 16]).run Try.prog w = .ok (.int .i64 4) w' ∧ (Blk w' 24 g1 (adL (adf A.b)) ∧ w.grownBy w' (some g1)) := by
  have h4 : ((A.b.take 4).map v8).length = 4 := by rw [List.length_map, List.length_take, h]; rfl
  have hsrc : ∀ j v, ((A.b.take 4).map v8)[j]? = some v → w.cell? ((⟨g0, 1, none⟩ : Addr).add j) = some v := fun j v hj => by
    rw [add_plain]
    refine Blk_10.cell hb0 ?_
    rw [Nat.add_comm 1 j]
    show (A.b.map v8)[j]? = some v
    have hjl := (List.getElem?_eq_some_iff.1 hj).1
    rw [List.map_take, List.getElem?_take] at hj
    rw [if_pos (by omega)] at hj
    exact hj
  have h9 := run_copy_row (P := Try.prog) w 72 72 ty 5 g1 1 4 16 ⟨g0, 1, none⟩ 16 16 (adL ⟨false, z16⟩).toArray 24 ((A.b.take 4).map v8) Try.underlying72 (by kernel_rfl) hb1 (by rw [h4]; rfl) hsrc (by rw [h4]; decide) (fun v hv => by
    obtain ⟨x, _, rfl⟩ := List.mem_map.1 hv
    rfl)
  have e := spl_adf h
  unfold spl at e
  have e2 : (adL ⟨false, z16⟩).toArray.toList = adL ⟨false, z16⟩ := rfl
  rw [e2, e, h4] at h9
  exact ⟨_, h9, Blk_10.setRow_ hb1 _, gb_setRow1 w g1 _⟩
set_option maxHeartbeats 4000000 in
theorem prightA_any {A : Ad} (h : A.b.length = 16) (w : World) : Calls Try.prog 49 #[adC A] w fun e w' => e = .returned (.bool (A.six || shortB A)) ∧ Below w.heap.size w w' := by
  obtain ⟨Y, hY⟩ : ∃ Y, w.alloc (.cells (adL A).toArray 24) = Y := ⟨_, rfl⟩
  have hT : Blk Y 24 w.heap.size (adL A) := by rw [← hY]; exact Blk_10.new w _ _
  have hB : Below w.heap.size w Y := by rw [← hY]; exact (Below.refl w.heap.size w).alloc (Nat.le_refl _) _
  have hz : Y.heap.size = w.heap.size + 1 := by rw [← hY, World.size_alloc]
  have HT := Lib.hid hT
  have HB := Lib.hid hB
  have HZ := Lib.hid hz
  have HY := Lib.hid hY
  have HA := Lib.hid h
  obtain ⟨C, hC⟩ : ∃ C, (adL A).toArray = C := ⟨_, rfl⟩
  have HC := Lib.hid (show adC A = .agg C by rw [← hC]; rfl)
  have he := Lib.hid (fun W => run_eqlA W h (adf_len (xs := A.b) (by omega)))
  rw [short_adf h] at he
  have HE := he
  have HEX := Lib.hid (sizeAdL h)
  clear he hT hB hz
  unfold adC
  rw [hC]
  rw [hC] at hY HY
  have HNEW : Hid (Blk ((w.alloc (.cells C 24)).alloc (.cells (adL ⟨false, z16⟩).toArray 24)) 24 (w.heap.size + 1) (adL ⟨false, z16⟩)) := Lib.hid (by
    have h9 := Blk_10.new Y 24 (adL ⟨false, z16⟩)
    rw [HZ.out, ← hY] at h9
    exact h9)
  have HT1 : Hid (Blk ((w.alloc (.cells C 24)).alloc (.cells (adL ⟨false, z16⟩).toArray 24)) 24 w.heap.size (adL A)) := Lib.hid (by
    rw [HY.out]
    exact Blk_10.alloc HT.out _)
  have HB1 : Hid (Below w.heap.size w ((w.alloc (.cells C 24)).alloc (.cells (adL ⟨false, z16⟩).toArray 24))) := Lib.hid (by
    rw [HY.out]
    exact HB.out.alloc (by rw [HZ.out]; omega) _)
  clear hY hC h HT HB HY HZ
  obtain ⟨six, hsix⟩ : ∃ x, A.six = x := ⟨_, rfl⟩
  obtain ⟨S, hS⟩ : ∃ x, shortB A = x := ⟨_, rfl⟩
  rw [hS] at HE
  rw [hsix, hS]
  have HSIX := Lib.hid hsix
  clear hsix hS
  go_enter Try.func49, Try.ntmps49
  go_wp2_with ((with_reducible show wpList _ _ _ (⟨none, .store _ _ _, _, _, _, _⟩ :: _) _ _); refine wpList_storeBA rfl _ _ _ rfl (w.heap.size + 1) (by rfl) (adL ⟨false, z16⟩) (by rfl) (adL ⟨false, z16⟩) HNEW.out rfl (sizeAdL (a := ⟨false, z16⟩) rfl) (adL_one _) ?_; intro W2 hb2 hg2; have HN2 := Lib.hid hb2; have HT2 := Lib.hid (Blk.gb HT1.out hg2 (by simp)); have HB2 := Lib.hid (below_gb HB1.out hg2 (Nat.le_succ _) HB1.out.size); clear hb2 hg2 HNEW HT1 HB1)
  have HC4 := Lib.hid (fun ty => copyf_any (w := W2.drew) HA.out HT2.out HN2.out ty)
  have HB3 : Hid (Below w.heap.size w W2.drew) := Lib.hid HB2.out.drew
  go_region_law (refine step_copyL rfl _ _ _ _ rfl _ _ (by simp [Act.eval, Act.put]) (by simp [Act.eval, Act.put]) _ _ (HC4.out _) ?_; intro W3 h3; have HN3 := Lib.hid h3.1; have HT3 := Lib.hid (Blk.gb (Blk_10.drew HT2.out) h3.2 (by simp)); have HB4 := Lib.hid (below_gb HB3.out h3.2 (Nat.le_succ _) HB3.out.size); clear h3)
  clear HC4 HT2 HN2 HB2 HB3
  have q0 : W3.cell? ⟨w.heap.size, 0, none⟩ = some (.bool six) := Blk_10.cell HT3.out (by rw [← HSIX.out]; rfl)
  cases six
  · have HRA : Hid (W3.rangeAt w.heap.size 0 (adL A)) := Lib.hid (Blk_10.range HT3.out)
    have HRB : Hid (W3.rangeAt (w.heap.size + 1) 0 (adL (adf A.b))) := Lib.hid (Blk_10.range HN3.out)
    obtain ⟨D, hD⟩ : ∃ D, (adL (adf A.b)).toArray = D := ⟨_, rfl⟩
    have HD := Lib.hid (show adC (adf A.b) = .agg D by rw [← hD]; rfl)
    have HEE := Lib.hid (fun W => by have h9 := HE.out W; rw [HC.out, HD.out] at h9; exact h9)
    clear hD HE
    go_wp2_with (first | ((with_reducible show wpList _ _ _ (⟨some 13, _, _, _, _, _⟩ :: _) _ _); refine wpList_loadAdL (op := ⟨some 13, _, _, _, _, _⟩) _ rfl (by rfl) w.heap.size 0 (by rfl) A HA.out HRA.out _ HC.out ?_) | ((with_reducible show wpList _ _ _ (⟨some 14, _, _, _, _, _⟩ :: _) _ _); refine wpList_loadAdL (op := ⟨some 14, _, _, _, _, _⟩) _ rfl (by rfl) (w.heap.size + 1) 0 (by rfl) (adf A.b) (adf_len (by have := HA.out; omega)) HRB.out _ HD.out ?_) | ((with_reducible show wpList _ _ _ (⟨some 15, _, _, _, _, _⟩ :: _) _ _); refine wpList_cmpS (op := ⟨some 15, _, _, _, _, _⟩) .eql 24 _ _ _ rfl (by rfl) _ _ (by rfl) (by rfl) guardAf S HEE.out ?_))
    go_ret
    exact ⟨rfl, HB4.out⟩
  · go_wp2_with fail
    go_ret
    exact ⟨rfl, HB4.out⟩
end Go.Proofs.Ytfbiinipiklkaaa
namespace Go.Proofs.Ytfbiinipiklkaaa
set_option maxRecDepth 100000
open Go.RowKit Go.Lib

theorem wpList_loadTuL {w : World} {ops : Array Oper} {rest : List Oper} {op : Oper} {a : Act} {Q : Exit → Act → World → Prop} (x : Operand) (ho : op.op = .load 26 x) (hw : Region.wanted op (yielded ops a.tmps) = true)
    (g o : Nat) (hx : a.eval x = .pointer (some ⟨g, o, none⟩)) (t : Tu) (h : t.Ok) (hb : w.rangeAt g o (tuL t)) (C : Value) (hC : tuC t = C)
    (hk : wpList Try.prog ops Q rest (a.put op.dst C) w) : wpList Try.prog ops Q (op :: rest) a w := by
  subst hC
  exact BigFrame.wpList_want hw fun _ hK => wp_load_mid 26 x ho g o hx (tuL t) _ hb Try.underlying26 rfl (sizeTuL h) (hK _ _ hk)
theorem known_or (t : Tu) : knownB t = ((t.s.six == t.d.six) && ((t.s.six || shortB t.s) && ((t.d.six || shortB t.d) && (inB' t.pr 0 255 && (inB' t.sp 0 65535 && inB' t.dp 0 65535))))) := by
  unfold knownB famB
  generalize shortB t.s = a
  generalize shortB t.d = b
  cases t.s.six <;> cases t.d.six <;> cases a <;> cases b <;> simp
set_option maxHeartbeats 8000000 in
theorem pkey_any {t : Tu} (ho : t.Ok) (w : World) : Calls Try.prog 33 #[tuC t] w fun e w' => e = .returned (.bool (knownB t)) ∧ Below w.heap.size w w' := by
  obtain ⟨Y, hY, hb, hbel, _⟩ := box_tu1 w t
  obtain ⟨C0, hC0⟩ : ∃ C, (tuL t).toArray = C := ⟨_, rfl⟩
  have HY := Lib.hid (show w.alloc (.cells C0 26) = Y by rw [← hC0]; exact hY)
  have HB := Lib.hid hbel
  have hte : tuC t = .agg C0 := by unfold tuC; rw [hC0]
  rw [hte]
  obtain ⟨r, hr⟩ : ∃ r, knownB t = r := ⟨_, rfl⟩
  rw [hr]
  have q0 : Y.cell? ⟨w.heap.size, 0, none⟩ = some (.bool t.s.six) := hb.cell (i := 0) (v := .bool t.s.six) (by unfold tuL adL; rfl)
  have q1 : Y.cell? ⟨w.heap.size, 17, none⟩ = some (.bool t.d.six) := tu_dix hb ho
  have HQ : Hid (∀ W, Below Y.heap.size Y W → W.cell? ⟨w.heap.size, 34, none⟩ = some (.int .i64 t.pr) ∧ W.cell? ⟨w.heap.size, 35, none⟩ = some (.int .i64 t.sp) ∧ W.cell? ⟨w.heap.size, 36, none⟩ = some (.int .i64 t.dp)) := Lib.hid (fun W h => by
    have hk := Blk_10.below hb (Blk_10.lt hb) h
    exact ⟨hk.cell (i := 34) (tuL_num ho 0), hk.cell (i := 35) (tuL_num ho 1), hk.cell (i := 36) (tuL_num ho 2)⟩)
  have HA : Hid (∀ W, Below Y.heap.size Y W → W.rangeAt w.heap.size 0 (adL t.s) ∧ W.rangeAt w.heap.size 17 (adL t.d)) := Lib.hid (fun W h => by
    have hk := Blk_10.below hb (Blk_10.lt hb) h
    exact ⟨tu_src hk, tu_dst hk ho⟩)
  have hs1 := fun W => prightA_any ho.s W
  have hs2 := fun W => prightA_any ho.d W
  have HO1 := Lib.hid ho.s
  have HO2 := Lib.hid ho.d
  have hkn := known_or t
  rw [hr] at hkn
  obtain ⟨S, hS⟩ : ∃ S, t.s = S := ⟨_, rfl⟩
  obtain ⟨D, hD⟩ : ∃ D, t.d = D := ⟨_, rfl⟩
  rw [hS] at q0 HA hs1 HO1 hkn
  rw [hD] at q1 HA hs2 HO2 hkn
  have hw1 := fun W => pwithin_any t.pr 0 255 W
  have hw2 := fun W => pwithin_any t.sp 0 65535 W
  have hw3 := fun W => pwithin_any t.dp 0 65535 W
  generalize inB' t.pr 0 255 = p at hw1 hkn
  generalize inB' t.sp 0 65535 = q at hw2 hkn
  generalize inB' t.dp 0 65535 = u at hw3 hkn
  generalize t.pr = pr at HQ hw1
  generalize t.sp = sp at HQ hw2
  generalize t.dp = dp at HQ hw3
  obtain ⟨CA, hCA⟩ : ∃ C, adC S = C := ⟨_, rfl⟩
  obtain ⟨CB, hCB⟩ : ∃ C, adC D = C := ⟨_, rfl⟩
  rw [hCA] at hs1
  rw [hCB] at hs2
  have HCA := Lib.hid hCA
  have HCB := Lib.hid hCB
  generalize (S.six || shortB S) = a at hs1 hkn
  generalize (D.six || shortB D) = b at hs2 hkn
  obtain ⟨x, hx⟩ : ∃ x, S.six = x := ⟨_, rfl⟩
  obtain ⟨y, hy⟩ : ∃ x, D.six = x := ⟨_, rfl⟩
  rw [hx] at q0 hkn
  rw [hy] at q1 hkn
  obtain ⟨f, hf⟩ : ∃ f, (x == y) = f := ⟨_, rfl⟩
  rw [hf] at hkn
  have HS1 := Lib.hid hs1
  have HS2 := Lib.hid hs2
  have HW1 := Lib.hid hw1
  have HW2 := Lib.hid hw2
  have HW3 := Lib.hid hw3
  clear hr hb hbel hC0 hY hte ho hS hD hx hy hCA hCB hs1 hs2 hw1 hw2 hw3
  cases f
  case false =>
    obtain rfl : r = false := by rw [hkn]; simp
    clear hkn
    go_enter Try.func33, Try.ntmps33
    go_upto_region 1 with (fail)
    rw [HY.out]
    go_wp2_with (first | ((with_reducible show wpList _ _ _ (⟨some 13, _, _, _, _, _⟩ :: _) _ _); refine wpList_loadAdL (op := ⟨some 13, _, _, _, _, _⟩) _ rfl (by rfl) w.heap.size 0 (by rfl) S HO1.out (HA.out Y (Below.refl _ _)).1 CA HCA.out ?_) | ((with_reducible refine (HS1.out Y).mono ?_); rintro e w1 ⟨rfl, hb⟩; have D1 := Lib.hid hb; obtain ⟨n0, n1, n2⟩ := HQ.out w1 hb; clear hb) | ((with_reducible show wpList _ _ _ (⟨some 18, _, _, _, _, _⟩ :: _) _ _); refine wpList_loadAdL (op := ⟨some 18, _, _, _, _, _⟩) _ rfl (by rfl) w.heap.size 17 (by rfl) D HO2.out (HA.out w1 D1.out).2 CB HCB.out ?_) | ((with_reducible refine (HS2.out w1).mono ?_); rintro e w2 ⟨rfl, hb⟩; have D2 := Lib.hid (D1.out.trans (hb.mono D1.out.size)); clear n0 n1 n2; obtain ⟨n0, n1, n2⟩ := HQ.out w2 D2.out; clear hb) | ((with_reducible refine (HW1.out _).mono ?_); rintro e w' ⟨rfl, rfl⟩) | ((with_reducible refine (HW2.out _).mono ?_); rintro e w' ⟨rfl, rfl⟩) | ((with_reducible refine (HW3.out _).mono ?_); rintro e w' ⟨rfl, rfl⟩))
    go_ret
    exact ⟨rfl, HB.out⟩
  cases a
  case false =>
    obtain rfl : r = false := by rw [hkn]; simp
    clear hkn
    go_enter Try.func33, Try.ntmps33
    go_upto_region 1 with (fail)
    rw [HY.out]
    go_wp2_with (first | ((with_reducible show wpList _ _ _ (⟨some 13, _, _, _, _, _⟩ :: _) _ _); refine wpList_loadAdL (op := ⟨some 13, _, _, _, _, _⟩) _ rfl (by rfl) w.heap.size 0 (by rfl) S HO1.out (HA.out Y (Below.refl _ _)).1 CA HCA.out ?_) | ((with_reducible refine (HS1.out Y).mono ?_); rintro e w1 ⟨rfl, hb⟩; have D1 := Lib.hid hb; obtain ⟨n0, n1, n2⟩ := HQ.out w1 hb; clear hb) | ((with_reducible show wpList _ _ _ (⟨some 18, _, _, _, _, _⟩ :: _) _ _); refine wpList_loadAdL (op := ⟨some 18, _, _, _, _, _⟩) _ rfl (by rfl) w.heap.size 17 (by rfl) D HO2.out (HA.out w1 D1.out).2 CB HCB.out ?_) | ((with_reducible refine (HS2.out w1).mono ?_); rintro e w2 ⟨rfl, hb⟩; have D2 := Lib.hid (D1.out.trans (hb.mono D1.out.size)); clear n0 n1 n2; obtain ⟨n0, n1, n2⟩ := HQ.out w2 D2.out; clear hb) | ((with_reducible refine (HW1.out _).mono ?_); rintro e w' ⟨rfl, rfl⟩) | ((with_reducible refine (HW2.out _).mono ?_); rintro e w' ⟨rfl, rfl⟩) | ((with_reducible refine (HW3.out _).mono ?_); rintro e w' ⟨rfl, rfl⟩))
    go_ret
    exact ⟨rfl, HB.out.trans (D1.out.mono HB.out.size)⟩
  cases b
  case false =>
    obtain rfl : r = false := by rw [hkn]; simp
    clear hkn
    go_enter Try.func33, Try.ntmps33
    go_upto_region 1 with (fail)
    rw [HY.out]
    go_wp2_with (first | ((with_reducible show wpList _ _ _ (⟨some 13, _, _, _, _, _⟩ :: _) _ _); refine wpList_loadAdL (op := ⟨some 13, _, _, _, _, _⟩) _ rfl (by rfl) w.heap.size 0 (by rfl) S HO1.out (HA.out Y (Below.refl _ _)).1 CA HCA.out ?_) | ((with_reducible refine (HS1.out Y).mono ?_); rintro e w1 ⟨rfl, hb⟩; have D1 := Lib.hid hb; obtain ⟨n0, n1, n2⟩ := HQ.out w1 hb; clear hb) | ((with_reducible show wpList _ _ _ (⟨some 18, _, _, _, _, _⟩ :: _) _ _); refine wpList_loadAdL (op := ⟨some 18, _, _, _, _, _⟩) _ rfl (by rfl) w.heap.size 17 (by rfl) D HO2.out (HA.out w1 D1.out).2 CB HCB.out ?_) | ((with_reducible refine (HS2.out w1).mono ?_); rintro e w2 ⟨rfl, hb⟩; have D2 := Lib.hid (D1.out.trans (hb.mono D1.out.size)); clear n0 n1 n2; obtain ⟨n0, n1, n2⟩ := HQ.out w2 D2.out; clear hb) | ((with_reducible refine (HW1.out _).mono ?_); rintro e w' ⟨rfl, rfl⟩) | ((with_reducible refine (HW2.out _).mono ?_); rintro e w' ⟨rfl, rfl⟩) | ((with_reducible refine (HW3.out _).mono ?_); rintro e w' ⟨rfl, rfl⟩))
    go_ret
    exact ⟨rfl, HB.out.trans (D2.out.mono HB.out.size)⟩
  cases p
  case false =>
    obtain rfl : r = false := by rw [hkn]; simp
    clear hkn
    go_enter Try.func33, Try.ntmps33
    go_upto_region 1 with (fail)
    rw [HY.out]
    go_wp2_with (first | ((with_reducible show wpList _ _ _ (⟨some 13, _, _, _, _, _⟩ :: _) _ _); refine wpList_loadAdL (op := ⟨some 13, _, _, _, _, _⟩) _ rfl (by rfl) w.heap.size 0 (by rfl) S HO1.out (HA.out Y (Below.refl _ _)).1 CA HCA.out ?_) | ((with_reducible refine (HS1.out Y).mono ?_); rintro e w1 ⟨rfl, hb⟩; have D1 := Lib.hid hb; obtain ⟨n0, n1, n2⟩ := HQ.out w1 hb; clear hb) | ((with_reducible show wpList _ _ _ (⟨some 18, _, _, _, _, _⟩ :: _) _ _); refine wpList_loadAdL (op := ⟨some 18, _, _, _, _, _⟩) _ rfl (by rfl) w.heap.size 17 (by rfl) D HO2.out (HA.out w1 D1.out).2 CB HCB.out ?_) | ((with_reducible refine (HS2.out w1).mono ?_); rintro e w2 ⟨rfl, hb⟩; have D2 := Lib.hid (D1.out.trans (hb.mono D1.out.size)); clear n0 n1 n2; obtain ⟨n0, n1, n2⟩ := HQ.out w2 D2.out; clear hb) | ((with_reducible refine (HW1.out _).mono ?_); rintro e w' ⟨rfl, rfl⟩) | ((with_reducible refine (HW2.out _).mono ?_); rintro e w' ⟨rfl, rfl⟩) | ((with_reducible refine (HW3.out _).mono ?_); rintro e w' ⟨rfl, rfl⟩))
    go_ret
    exact ⟨rfl, HB.out.trans (D2.out.mono HB.out.size)⟩
  cases q
  case false =>
    obtain rfl : r = false := by rw [hkn]; simp
    clear hkn
    go_enter Try.func33, Try.ntmps33
    go_upto_region 1 with (fail)
    rw [HY.out]
    go_wp2_with (first | ((with_reducible show wpList _ _ _ (⟨some 13, _, _, _, _, _⟩ :: _) _ _); refine wpList_loadAdL (op := ⟨some 13, _, _, _, _, _⟩) _ rfl (by rfl) w.heap.size 0 (by rfl) S HO1.out (HA.out Y (Below.refl _ _)).1 CA HCA.out ?_) | ((with_reducible refine (HS1.out Y).mono ?_); rintro e w1 ⟨rfl, hb⟩; have D1 := Lib.hid hb; obtain ⟨n0, n1, n2⟩ := HQ.out w1 hb; clear hb) | ((with_reducible show wpList _ _ _ (⟨some 18, _, _, _, _, _⟩ :: _) _ _); refine wpList_loadAdL (op := ⟨some 18, _, _, _, _, _⟩) _ rfl (by rfl) w.heap.size 17 (by rfl) D HO2.out (HA.out w1 D1.out).2 CB HCB.out ?_) | ((with_reducible refine (HS2.out w1).mono ?_); rintro e w2 ⟨rfl, hb⟩; have D2 := Lib.hid (D1.out.trans (hb.mono D1.out.size)); clear n0 n1 n2; obtain ⟨n0, n1, n2⟩ := HQ.out w2 D2.out; clear hb) | ((with_reducible refine (HW1.out _).mono ?_); rintro e w' ⟨rfl, rfl⟩) | ((with_reducible refine (HW2.out _).mono ?_); rintro e w' ⟨rfl, rfl⟩) | ((with_reducible refine (HW3.out _).mono ?_); rintro e w' ⟨rfl, rfl⟩))
    go_ret
    exact ⟨rfl, HB.out.trans (D2.out.mono HB.out.size)⟩
  cases u
  case false =>
    obtain rfl : r = false := by rw [hkn]; simp
    clear hkn
    go_enter Try.func33, Try.ntmps33
    go_upto_region 1 with (fail)
    rw [HY.out]
    go_wp2_with (first | ((with_reducible show wpList _ _ _ (⟨some 13, _, _, _, _, _⟩ :: _) _ _); refine wpList_loadAdL (op := ⟨some 13, _, _, _, _, _⟩) _ rfl (by rfl) w.heap.size 0 (by rfl) S HO1.out (HA.out Y (Below.refl _ _)).1 CA HCA.out ?_) | ((with_reducible refine (HS1.out Y).mono ?_); rintro e w1 ⟨rfl, hb⟩; have D1 := Lib.hid hb; obtain ⟨n0, n1, n2⟩ := HQ.out w1 hb; clear hb) | ((with_reducible show wpList _ _ _ (⟨some 18, _, _, _, _, _⟩ :: _) _ _); refine wpList_loadAdL (op := ⟨some 18, _, _, _, _, _⟩) _ rfl (by rfl) w.heap.size 17 (by rfl) D HO2.out (HA.out w1 D1.out).2 CB HCB.out ?_) | ((with_reducible refine (HS2.out w1).mono ?_); rintro e w2 ⟨rfl, hb⟩; have D2 := Lib.hid (D1.out.trans (hb.mono D1.out.size)); clear n0 n1 n2; obtain ⟨n0, n1, n2⟩ := HQ.out w2 D2.out; clear hb) | ((with_reducible refine (HW1.out _).mono ?_); rintro e w' ⟨rfl, rfl⟩) | ((with_reducible refine (HW2.out _).mono ?_); rintro e w' ⟨rfl, rfl⟩) | ((with_reducible refine (HW3.out _).mono ?_); rintro e w' ⟨rfl, rfl⟩))
    go_ret
    exact ⟨rfl, HB.out.trans (D2.out.mono HB.out.size)⟩
  obtain rfl : r = true := by rw [hkn]; simp
  clear hkn
  go_enter Try.func33, Try.ntmps33
  go_upto_region 1 with (fail)
  rw [HY.out]
  go_wp2_with (first | ((with_reducible show wpList _ _ _ (⟨some 13, _, _, _, _, _⟩ :: _) _ _); refine wpList_loadAdL (op := ⟨some 13, _, _, _, _, _⟩) _ rfl (by rfl) w.heap.size 0 (by rfl) S HO1.out (HA.out Y (Below.refl _ _)).1 CA HCA.out ?_) | ((with_reducible refine (HS1.out Y).mono ?_); rintro e w1 ⟨rfl, hb⟩; have D1 := Lib.hid hb; obtain ⟨n0, n1, n2⟩ := HQ.out w1 hb; clear hb) | ((with_reducible show wpList _ _ _ (⟨some 18, _, _, _, _, _⟩ :: _) _ _); refine wpList_loadAdL (op := ⟨some 18, _, _, _, _, _⟩) _ rfl (by rfl) w.heap.size 17 (by rfl) D HO2.out (HA.out w1 D1.out).2 CB HCB.out ?_) | ((with_reducible refine (HS2.out w1).mono ?_); rintro e w2 ⟨rfl, hb⟩; have D2 := Lib.hid (D1.out.trans (hb.mono D1.out.size)); clear n0 n1 n2; obtain ⟨n0, n1, n2⟩ := HQ.out w2 D2.out; clear hb) | ((with_reducible refine (HW1.out _).mono ?_); rintro e w' ⟨rfl, rfl⟩) | ((with_reducible refine (HW2.out _).mono ?_); rintro e w' ⟨rfl, rfl⟩) | ((with_reducible refine (HW3.out _).mono ?_); rintro e w' ⟨rfl, rfl⟩))
  go_ret
  exact ⟨rfl, HB.out.trans (D2.out.mono HB.out.size)⟩
set_option maxHeartbeats 8000000 in
theorem pright_any (f : Fw) (w : World) (hnm : f.nm.length ≤ 1000000) : Calls Try.prog 13 #[fwC f] w fun e w' => e = .returned (.bool (rightF f)) ∧ Below w.heap.size w w' := by
  obtain ⟨Y, hY, hb, hbel, _⟩ := box_fw1 w f
  obtain ⟨C0, hC0⟩ : ∃ C, (fwL f).toArray = C := ⟨_, rfl⟩
  have HY := Lib.hid (show w.alloc (.cells C0 28) = Y by rw [← hC0]; exact hY)
  have HB := Lib.hid hbel
  have hte : fwC f = .agg C0 := by unfold fwC; rw [hC0]
  rw [hte]
  obtain ⟨r, hr⟩ : ∃ r, rightF f = r := ⟨_, rfl⟩
  rw [hr]
  unfold rightF at hr
  have q0 : Y.cell? ⟨w.heap.size, 38, none⟩ = some (.int .i64 f.st) := hb.cell (i := 38) (fw_st f)
  have HQ : Hid (∀ W, Below Y.heap.size Y W → W.cell? ⟨w.heap.size, 37, none⟩ = some (.string ⟨f.nm.toArray⟩) ∧ W.cell? ⟨w.heap.size, 39, none⟩ = some (.int .i64 f.sn) ∧ W.cell? ⟨w.heap.size, 40, none⟩ = some (.int .i64 f.no)) := Lib.hid (fun W h => by
    have hk := Blk_10.below hb (Blk_10.lt hb) h
    exact ⟨hk.cell (i := 37) (fw_nm f), hk.cell (i := 39) (fw_sn f), hk.cell (i := 40) (fw_no f)⟩)
  have HR1 : Hid (Y.rangeAt w.heap.size 0 (tuL f.k)) := Lib.hid (fw_key (Blk_10.range hb))
  have HOK := Lib.hid f.ok
  have HK := Lib.hid (fun W => pkey_any f.ok W)
  have HN := Lib.hid (fun W => pname_any f.nm hnm W)
  have HW1 := Lib.hid (fun W => pwithin_any f.st 1 5 W)
  have HW2 := Lib.hid (fun W => pwithin_any f.sn 0 1099511627776 W)
  have HW3 := Lib.hid (fun W => pwithin_any f.no 0 1152921504606846976 W)
  generalize inB' f.st 1 5 = p at HW1 hr
  generalize inB' f.sn 0 1099511627776 = q at HW2 hr
  generalize inB' f.no 0 1152921504606846976 = u at HW3 hr
  generalize knownB f.k = a at HK hr
  generalize nameB f.nm = b at HN hr
  generalize f.st = st at q0 HW1
  generalize f.sn = sn at HQ HW2
  generalize f.no = no at HQ HW3
  generalize f.nm = nm at HQ HN
  generalize f.k = K at HR1 HOK HK
  obtain ⟨CK, hCK⟩ : ∃ C, tuC K = C := ⟨_, rfl⟩
  rw [hCK] at HK
  have HCK := Lib.hid hCK
  clear hb hbel hC0 hY hte hnm hCK
  cases a
  case false =>
    obtain rfl : r = false := by rw [← hr]; simp
    clear hr
    go_enter Try.func13, Try.ntmps13
    go_upto_region 1 with (fail)
    rw [HY.out]
    go_wp2_with (first | ((with_reducible refine (HW1.out _).mono ?_); rintro e w' ⟨rfl, rfl⟩) | ((with_reducible show wpList _ _ _ (⟨some 8, _, _, _, _, _⟩ :: _) _ _); refine wpList_loadTuL (op := ⟨some 8, _, _, _, _, _⟩) _ rfl (by rfl) w.heap.size 0 (by rfl) K HOK.out HR1.out CK HCK.out ?_) | ((with_reducible refine (HK.out _).mono ?_); rintro e w1 ⟨rfl, hb⟩; have D1 := Lib.hid hb; obtain ⟨n0, n1, n2⟩ := HQ.out w1 hb; clear hb) | ((with_reducible refine (HN.out _).mono ?_); rintro e w' ⟨rfl, rfl⟩) | ((with_reducible refine (HW2.out _).mono ?_); rintro e w' ⟨rfl, rfl⟩) | ((with_reducible refine (HW3.out _).mono ?_); rintro e w' ⟨rfl, rfl⟩))
    go_ret
    exact ⟨rfl, HB.out.trans (D1.out.mono HB.out.size)⟩
  cases b
  case false =>
    obtain rfl : r = false := by rw [← hr]; simp
    clear hr
    go_enter Try.func13, Try.ntmps13
    go_upto_region 1 with (fail)
    rw [HY.out]
    go_wp2_with (first | ((with_reducible refine (HW1.out _).mono ?_); rintro e w' ⟨rfl, rfl⟩) | ((with_reducible show wpList _ _ _ (⟨some 8, _, _, _, _, _⟩ :: _) _ _); refine wpList_loadTuL (op := ⟨some 8, _, _, _, _, _⟩) _ rfl (by rfl) w.heap.size 0 (by rfl) K HOK.out HR1.out CK HCK.out ?_) | ((with_reducible refine (HK.out _).mono ?_); rintro e w1 ⟨rfl, hb⟩; have D1 := Lib.hid hb; obtain ⟨n0, n1, n2⟩ := HQ.out w1 hb; clear hb) | ((with_reducible refine (HN.out _).mono ?_); rintro e w' ⟨rfl, rfl⟩) | ((with_reducible refine (HW2.out _).mono ?_); rintro e w' ⟨rfl, rfl⟩) | ((with_reducible refine (HW3.out _).mono ?_); rintro e w' ⟨rfl, rfl⟩))
    go_ret
    exact ⟨rfl, HB.out.trans (D1.out.mono HB.out.size)⟩
  cases p
  case false =>
    obtain rfl : r = false := by rw [← hr]; simp
    clear hr
    go_enter Try.func13, Try.ntmps13
    go_upto_region 1 with (fail)
    rw [HY.out]
    go_wp2_with (first | ((with_reducible refine (HW1.out _).mono ?_); rintro e w' ⟨rfl, rfl⟩) | ((with_reducible show wpList _ _ _ (⟨some 8, _, _, _, _, _⟩ :: _) _ _); refine wpList_loadTuL (op := ⟨some 8, _, _, _, _, _⟩) _ rfl (by rfl) w.heap.size 0 (by rfl) K HOK.out HR1.out CK HCK.out ?_) | ((with_reducible refine (HK.out _).mono ?_); rintro e w1 ⟨rfl, hb⟩; have D1 := Lib.hid hb; obtain ⟨n0, n1, n2⟩ := HQ.out w1 hb; clear hb) | ((with_reducible refine (HN.out _).mono ?_); rintro e w' ⟨rfl, rfl⟩) | ((with_reducible refine (HW2.out _).mono ?_); rintro e w' ⟨rfl, rfl⟩) | ((with_reducible refine (HW3.out _).mono ?_); rintro e w' ⟨rfl, rfl⟩))
    go_ret
    exact ⟨rfl, HB.out.trans (D1.out.mono HB.out.size)⟩
  cases q
  case false =>
    obtain rfl : r = false := by rw [← hr]; simp
    clear hr
    go_enter Try.func13, Try.ntmps13
    go_upto_region 1 with (fail)
    rw [HY.out]
    go_wp2_with (first | ((with_reducible refine (HW1.out _).mono ?_); rintro e w' ⟨rfl, rfl⟩) | ((with_reducible show wpList _ _ _ (⟨some 8, _, _, _, _, _⟩ :: _) _ _); refine wpList_loadTuL (op := ⟨some 8, _, _, _, _, _⟩) _ rfl (by rfl) w.heap.size 0 (by rfl) K HOK.out HR1.out CK HCK.out ?_) | ((with_reducible refine (HK.out _).mono ?_); rintro e w1 ⟨rfl, hb⟩; have D1 := Lib.hid hb; obtain ⟨n0, n1, n2⟩ := HQ.out w1 hb; clear hb) | ((with_reducible refine (HN.out _).mono ?_); rintro e w' ⟨rfl, rfl⟩) | ((with_reducible refine (HW2.out _).mono ?_); rintro e w' ⟨rfl, rfl⟩) | ((with_reducible refine (HW3.out _).mono ?_); rintro e w' ⟨rfl, rfl⟩))
    go_ret
    exact ⟨rfl, HB.out.trans (D1.out.mono HB.out.size)⟩
  cases u
  case false =>
    obtain rfl : r = false := by rw [← hr]; simp
    clear hr
    go_enter Try.func13, Try.ntmps13
    go_upto_region 1 with (fail)
    rw [HY.out]
    go_wp2_with (first | ((with_reducible refine (HW1.out _).mono ?_); rintro e w' ⟨rfl, rfl⟩) | ((with_reducible show wpList _ _ _ (⟨some 8, _, _, _, _, _⟩ :: _) _ _); refine wpList_loadTuL (op := ⟨some 8, _, _, _, _, _⟩) _ rfl (by rfl) w.heap.size 0 (by rfl) K HOK.out HR1.out CK HCK.out ?_) | ((with_reducible refine (HK.out _).mono ?_); rintro e w1 ⟨rfl, hb⟩; have D1 := Lib.hid hb; obtain ⟨n0, n1, n2⟩ := HQ.out w1 hb; clear hb) | ((with_reducible refine (HN.out _).mono ?_); rintro e w' ⟨rfl, rfl⟩) | ((with_reducible refine (HW2.out _).mono ?_); rintro e w' ⟨rfl, rfl⟩) | ((with_reducible refine (HW3.out _).mono ?_); rintro e w' ⟨rfl, rfl⟩))
    go_ret
    exact ⟨rfl, HB.out.trans (D1.out.mono HB.out.size)⟩
  obtain rfl : r = true := by rw [← hr]; simp
  clear hr
  go_enter Try.func13, Try.ntmps13
  go_upto_region 1 with (fail)
  rw [HY.out]
  go_wp2_with (first | ((with_reducible refine (HW1.out _).mono ?_); rintro e w' ⟨rfl, rfl⟩) | ((with_reducible show wpList _ _ _ (⟨some 8, _, _, _, _, _⟩ :: _) _ _); refine wpList_loadTuL (op := ⟨some 8, _, _, _, _, _⟩) _ rfl (by rfl) w.heap.size 0 (by rfl) K HOK.out HR1.out CK HCK.out ?_) | ((with_reducible refine (HK.out _).mono ?_); rintro e w1 ⟨rfl, hb⟩; have D1 := Lib.hid hb; obtain ⟨n0, n1, n2⟩ := HQ.out w1 hb; clear hb) | ((with_reducible refine (HN.out _).mono ?_); rintro e w' ⟨rfl, rfl⟩) | ((with_reducible refine (HW2.out _).mono ?_); rintro e w' ⟨rfl, rfl⟩) | ((with_reducible refine (HW3.out _).mono ?_); rintro e w' ⟨rfl, rfl⟩))
  go_ret
  exact ⟨rfl, HB.out.trans (D1.out.mono HB.out.size)⟩
end Go.Proofs.Ytfbiinipiklkaaa
