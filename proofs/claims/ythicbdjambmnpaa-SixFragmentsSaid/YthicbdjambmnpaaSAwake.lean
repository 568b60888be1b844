/-
  The statements' own header, and their 'awake', which answers true.
-/
import Derived.Test.YthicbdjambmnpaaSPut
import Derived.Test.YthicbdjambmnpaaSRead
import Derived.Laws.OwnMore
namespace Go.Proofs.Ythicbdjambmnpaa
open Go.RowKit Go.Lib

/-- The statements' own header; the one of its bytes with an extension. -/
def F0 : Fr := ⟨40, 48, 64, false, 0, 17, ⟨true, [1, 2, 0, 0, 0, 0, 0, 0, 0, 0, 0, 0, 0, 0, 0, 0]⟩, ⟨true, [3, 0, 0, 0, 0, 0, 0, 0, 0, 0, 0, 0, 0, 0, 0, 0]⟩⟩
def F1 : Fr := ⟨48, 48, 64, false, 1, 17, ⟨true, [1, 2, 0, 0, 0, 0, 0, 0, 0, 0, 0, 0, 0, 0, 0, 0]⟩, ⟨true, [3, 0, 0, 0, 0, 0, 0, 0, 0, 0, 0, 0, 0, 0, 0, 0]⟩⟩
theorem f0_ok : F0.Ok := ⟨rfl, rfl⟩
theorem f1_ok : F1.Ok := ⟨rfl, rfl⟩
theorem f0_right : rightB F0 = true := by decide
theorem f0_len : (putF F0).length = 40 := putF_len f0_ok
theorem f0_back : rdN (putF F0 ++ [1, 2, 3, 4, 5, 6, 7, 8, 9]) = 0 ∧ rdF (putF F0 ++ [1, 2, 3, 4, 5, 6, 7, 8, 9]) = F0 := putF_back f0_ok f0_right [1, 2, 3, 4, 5, 6, 7, 8, 9] (by rw [List.length_append, f0_len]; decide)
theorem f0_cut : rdN (putF F0) = 2 := putF_cut f0_ok f0_right (by decide)
theorem f1_back : rdN ((putF F0).set 6 0 ++ [17, 0, 0, 0, 0, 0, 0, 0]) = 0 ∧ rdF ((putF F0).set 6 0 ++ [17, 0, 0, 0, 0, 0, 0, 0]) = F1 := ⟨by rfl, by rfl⟩
theorem zero_right : rightB Fr.zero = false := by decide

theorem Own8.form {w : World} {base : Nat} {v : Value} {xs : List UInt8} (h : Own8 w base v xs) {n : Nat} (hn : xs.length = n) : ∃ A c, v = .slice A n c ∧ n ≤ c ∧ c ≤ maxLen ∧ Rd w w.heap.size A n xs := by
  subst hn
  obtain ⟨A, c, e, h1, h2, h3, _⟩ := h.rd
  exact ⟨A, c, e, h1, h2, h3⟩
theorem Own8.formG {w : World} {base : Nat} {v : Value} {xs : List UInt8} (h : Own8 w base v xs) {n : Nat} (hn : xs.length = n) (h0 : 0 < n) : ∃ g c, v = .slice (some ⟨g, 0, none⟩) n c ∧ n ≤ c ∧ c ≤ maxLen ∧ base ≤ g ∧ g < w.heap.size ∧ Rd w w.heap.size (some ⟨g, 0, none⟩) n xs := by
  subst hn
  obtain ⟨A, c, rfl, h1, h2, h3, h4⟩ := h.rd
  obtain ⟨g, rfl, hb⟩ := h4 h0
  obtain ⟨b, off, e, hlt⟩ := h3.addr h0
  cases e
  exact ⟨g, c, rfl, h1, h2, hb, hlt, h3⟩
/-- A byte stored into an owned slice: a law for the walk; the world behind it is a letter. -/
theorem wpList_storeO {w : World} {ops : Array Oper} {rest : List Oper} {op : Oper} {a : Act} {Q : Exit → Act → World → Prop} (hgd : op.guard = none) (x y : Operand) (ho : op.op = .store 5 x y)
    (g i : Nat) (hx : a.eval x = .pointer (some ⟨g, i, none⟩)) (b : UInt8) (m : Int) (hm : m = (b.toNat : Int)) (hy : a.eval y = .int .u8 m) (xs : List UInt8) (n c base : Nat) (hn : xs.length = n) (hown : Own8 w base (.slice (some ⟨g, 0, none⟩) n c) xs) (hi : i < n)
    (h : ∀ w', Own8 w' base (.slice (some ⟨g, 0, none⟩) n c) (xs.set i b) → Below g w w' → wpList Try.prog ops Q rest (a.put op.dst undef) w') : wpList Try.prog ops Q (op :: rest) a w := by
  subst hm
  subst hn
  refine wpList_plain hgd fun K hK => ?_
  have hc := hown.cellAt i (by omega)
  have hf := hown.frozenAt i
  have hs := (hown.stored i (v8 b)).1
  rw [List.getElem?_map, List.getElem?_eq_getElem hi] at hc
  have ho2 : Own8 (w.setCell ⟨g, i, none⟩ (v8 b)) base (.slice (some ⟨g, 0, none⟩) xs.length c) (xs.set i b) := by
    unfold Own8
    rw [List.length_set, List.map_set]
    exact hs
  have hk := h _ ho2 ((Below.refl g w).setCell (p := ⟨g, i, none⟩) (Nat.le_refl _) _)
  unfold v8 at hc hk
  simp only [Option.map_some] at hc
  unfold Oper.wp execOp
  simp only [ho, hx, hy]
  clear h hs ho2
  go_simp
  exact hK _ _ hk
/-- six.Read, of bytes whose reading is known. -/
theorem read_as {A : Option Addr} {len cap : Nat} {xs : List UInt8} {f : Fr} {k : Nat} (hr : rdF xs = f) (hk : rdN xs = k) (hlen : len ≤ 1000000) (hcap : len ≤ cap) (hcap2 : cap ≤ maxLen) {w : World} (hI : Rd w w.heap.size A len xs) :
    Calls Try.prog 10 #[.slice A len cap] w fun e w' => e = .returned (.tuple #[frC f, .int .i64 (k : Int)]) ∧ Below w.heap.size w w' := by
  subst hr hk
  exact read_any A len cap xs hlen hcap hcap2 w hI

set_option maxRecDepth 100000 in
set_option maxHeartbeats 1000000 in
theorem some_any (w : World) : Calls Try.prog 18 #[] w fun e w' => e = .returned (frC F0) ∧ Below w.heap.size w w' := by
  go_enter Try.func18, Try.ntmps18
  go_wp2_with (first
    | ((with_reducible show wpList _ _ _ _ _ _); refine wpList_buildTo rfl 24 _ rfl (some 1) rfl (F0.s.b.map v8).toArray (by kernel_rfl) ?_)
    | ((with_reducible show wpList _ _ _ _ _ _); refine wpList_buildTo rfl 26 _ rfl (some 2) rfl (adL F0.s).toArray (by kernel_rfl) ?_)
    | ((with_reducible show wpList _ _ _ _ _ _); refine wpList_buildTo rfl 24 _ rfl (some 3) rfl (F0.d.b.map v8).toArray (by kernel_rfl) ?_)
    | ((with_reducible show wpList _ _ _ _ _ _); refine wpList_buildTo rfl 26 _ rfl (some 4) rfl (adL F0.d).toArray (by kernel_rfl) ?_)
    | ((with_reducible show wpList _ _ _ _ _ _); refine wpList_buildTo rfl 28 _ rfl (some 5) rfl (frL F0).toArray (by kernel_rfl) ?_)
    | ((with_reducible show wpList _ _ _ _ _ _); refine wpList_storeNew rfl _ _ rfl (by rfl) F0 f0_ok (by rfl) ?_; intro w1 hq hb _))
  refine bodyPost_ret (v := frC F0) (results_fr1 rfl _ _ w.heap.size (by rfl) _ f0_ok hq) rfl ?_
  exact ⟨rfl, hb⟩

set_option maxRecDepth 100000 in
set_option maxHeartbeats 4000000 in
theorem awake_any (w : World) : Calls Try.prog 9 #[] w fun e w' => e = .returned (.bool true) ∧ Below w.heap.size w w' := by
  have HU0 := Lib.hid (show (0 : Int) = ((0 : UInt8).toNat : Int) from rfl)
  go_enter Try.func9, Try.ntmps9
  go_wp2_with fail
  refine (some_any w).mono ?_
  rintro e w1 ⟨rfl, hb1⟩
  go_wp2_with fail
  refine (put_yes f0_ok f0_right w1).mono ?_
  rintro e w2 ⟨v2, rfl, ho2, hb2⟩
  have HB2 := Lib.hid (hb1.trans (hb2.mono hb1.size))
  obtain ⟨A2, c2, rfl, hc2, hm2, hr2⟩ := ho2.form f0_len
  have o0 := empty8 (base := w2.heap.size) w2 (Nat.le_refl _)
  have O0 := Lib.hid o0
  have HR2 := Lib.hid hr2
  clear o0 hr2 ho2 hb2 hb1
  go_wp2_with (first
    | (at_builtin; refine wpList_append8 (o := ⟨some 20, _, _, _, _, _⟩) rfl _ _ rfl w2.heap.size _ [] (by rfl) O0.out _ _ _ _ (putF F0) (by rfl) (HR2.out.alloc (Nat.le_refl _) _) (by decide) (by simp) ?_; intro v3 w3 ho3 hg3 hob3; rw [List.nil_append] at ho3; have r9 : Rd (w3.alloc (.cells #[.int .u8 1, .int .u8 2, .int .u8 3, .int .u8 4, .int .u8 5, .int .u8 6, .int .u8 7, .int .u8 8, .int .u8 9] 5)) (w3.heap.size + 1) (some ⟨w3.heap.size, 0, none⟩) 9 [1, 2, 3, 4, 5, 6, 7, 8, 9] := Rd.laid w3 [1, 2, 3, 4, 5, 6, 7, 8, 9] 9 rfl; have z3 := hg3.size)
    | (at_builtin; refine wpList_append8 (o := ⟨some 22, _, _, _, _, _⟩) rfl _ _ rfl w2.heap.size _ (putF F0) (by rfl) (ho3.alloc _) _ _ _ _ [1, 2, 3, 4, 5, 6, 7, 8, 9] (by rfl) r9 (by rw [f0_len]; decide) (by simp at z3 ⊢; omega) ?_; intro v4 w4 ho4 hg4 hob4; obtain ⟨A4, c4, rfl, hc4, hm4, hr4⟩ := ho4.form (n := 49) (by rw [List.length_append, f0_len]; rfl)))
  have e4 : Below w2.heap.size w2 w4 := ((((Below.refl _ w2).alloc (Nat.le_refl _) (.cells #[] 5)).grown hg3 (by simp) (fun g hg => by simp [Value.ownBlock] at hg; omega)).alloc (by simp at z3; omega) (.cells #[.int .u8 1, .int .u8 2, .int .u8 3, .int .u8 4, .int .u8 5, .int .u8 6, .int .u8 7, .int .u8 8, .int .u8 9] 5)).grown hg4 (by simp at z3 ⊢; omega) (fun g hg => ho3.lt g hg)
  have HB4 := Lib.hid (HB2.out.trans (e4.mono HB2.out.size))
  have HR4 := Lib.hid (HR2.out.below e4)
  have z4 : w2.heap.size ≤ w4.heap.size := e4.size
  clear hg3 hob3 ho3 r9 z3 hg4 hob4 ho4 e4
  refine (read_as f0_back.2 f0_back.1 (by decide) hc4 hm4 hr4).mono ?_
  rintro e w5 ⟨rfl, hb5⟩
  have HB5 := Lib.hid (HB4.out.trans (hb5.mono HB4.out.size))
  have HR5 := Lib.hid (HR4.out.below (hb5.mono z4))
  have z5 := hb5.size
  clear hb5 hr4
  go_wp2_with (((with_reducible show wpList _ _ _ _ _ _); skip); refine wpList_storeNew rfl _ _ rfl (by rfl) F0 f0_ok (by rfl) ?_; intro w6 hM6 hb6 hz6; have HZ6 := Lib.hid hz6; clear hz6)
  have HB6 := Lib.hid (HB5.out.trans (hb6.mono HB5.out.size))
  have hz6 := HZ6.out
  have HR6 := Lib.hid (HR5.out.below (hb6.mono (by omega)))
  have HM6 := Lib.hid hM6
  have hr6 : Rd w6 w6.heap.size A2 40 (putF F0) := HR6.out.more (by omega)
  clear hb6 hM6 hz6 HZ6
  generalize w5.heap.size = PH at *
  refine (read_as (rdF_no (by rw [f0_cut]; decide)) f0_cut (by decide) hc2 hm2 hr6).mono ?_
  rintro e w7 ⟨rfl, hb7⟩
  have HB7 := Lib.hid (HB6.out.trans (hb7.mono HB6.out.size))
  have HM7 := Lib.hid (HM6.out.below HM6.out.lt hb7)
  have HR7 := Lib.hid (hr6.below hb7)
  have z7 := hb7.size
  clear hb7 hr6
  clear z4 z5
  go_wp2_with (first
    | ((with_reducible show wpList _ _ _ _ _ _); refine wpList_storeNew rfl _ _ rfl (by rfl) Fr.zero Fr.ok_zero (by rfl) ?_; intro w8 _ hb8 hz8; clear hz8; have HB8 := Lib.hid (HB7.out.trans (hb8.mono HB7.out.size)); have HM8 := Lib.hid (HM7.out.below HM7.out.lt hb8); have HR8 := Lib.hid (((HR7.out.more z7).below hb8).more (hb8.size)); have O8 := Lib.hid (empty8 (base := w8.heap.size) w8 (Nat.le_refl _)); clear hb8)
    | (at_builtin; refine wpList_append8 (o := ⟨some 33, _, _, _, _, _⟩) rfl _ _ rfl w8.heap.size _ [] (by rfl) O8.out _ _ _ _ (putF F0) (by rfl) (HR8.out.alloc (Nat.le_refl _) _) (by decide) (by simp) ?_; intro v9 w9 ho9 hg9 hob9; rw [List.nil_append] at ho9; obtain ⟨g9, c9, rfl, _, _, hgb9, hgl9, _⟩ := ho9.formG f0_len (by decide); have e9 : Below w8.heap.size w8 w9 := ((Below.refl _ w8).alloc (Nat.le_refl _) (.cells #[] 5)).grown hg9 (by simp) (fun g hg => by simp [Value.ownBlock] at hg; omega); have HB9 := Lib.hid (HB8.out.trans (e9.mono HB8.out.size)); have HM9 := Lib.hid (HM8.out.below HM8.out.lt e9); have HO9 := Lib.hid ho9; have HE9 := Lib.hid e9.size; have HG9 := Lib.hid hgb9; clear hg9 hob9 e9 ho9 hgl9 hgb9)
    | ((with_reducible show wpList _ _ _ _ _ _); refine wpList_storeO rfl (.tmp 38) _ rfl g9 6 (by rfl) (0 : UInt8) 0 HU0.out (by rfl) (putF F0) 40 c9 w8.heap.size f0_len HO9.out (by decide) ?_; intro wa hoa hba; have za := hba.size; have HBa := Lib.hid (HB9.out.trans (hba.mono (Nat.le_trans HB8.out.size HG9.out))); have HMa := Lib.hid (HM9.out.below (Nat.lt_of_lt_of_le HM8.out.lt HG9.out) hba); have HOa := Lib.hid hoa; have HSZ := Lib.hid (Nat.le_trans HE9.out za); have rb : Rd (wa.alloc (.cells #[.int .u8 17, .int .u8 0, .int .u8 0, .int .u8 0, .int .u8 0, .int .u8 0, .int .u8 0, .int .u8 0] 5)) (wa.heap.size + 1) (some ⟨wa.heap.size, 0, none⟩) 8 [17, 0, 0, 0, 0, 0, 0, 0] := Rd.laid wa [17, 0, 0, 0, 0, 0, 0, 0] 8 rfl; clear hoa hba)
    | (at_builtin; refine wpList_append8 (o := ⟨some 42, _, _, _, _, _⟩) rfl _ _ rfl w8.heap.size _ ((putF F0).set 6 0) (by rfl) (HOa.out.alloc _) _ _ _ _ [17, 0, 0, 0, 0, 0, 0, 0] (by rfl) rb (by rw [List.length_set, f0_len]; decide) (by simp; exact Nat.le_succ_of_le HSZ.out) ?_; intro vb wb hob hgb hobb; obtain ⟨Ab, cb, rfl, hcb, hmb, hrb⟩ := hob.form (n := 48) (by rw [List.length_append, List.length_set, f0_len]; rfl)))
  have eb : Below w8.heap.size wa wb := ((Below.refl _ wa).alloc (HSZ.out) (.cells #[.int .u8 17, .int .u8 0, .int .u8 0, .int .u8 0, .int .u8 0, .int .u8 0, .int .u8 0, .int .u8 0] 5)).grown hgb (by simp; exact Nat.le_succ_of_le HSZ.out) (fun g hg => HOa.out.lt g hg)
  have HBb := Lib.hid (HBa.out.trans (eb.mono HB8.out.size))
  have HMb := Lib.hid (HMa.out.below HM8.out.lt eb)
  clear hgb hobb hob eb rb HOa
  refine (read_as f1_back.2 f1_back.1 (by decide) hcb hmb hrb).mono ?_
  rintro e wc ⟨rfl, hbc⟩
  have HBc := Lib.hid (HBb.out.trans (hbc.mono HBb.out.size))
  have HMc := Lib.hid (HMb.out.below HMb.out.lt hbc)
  clear hbc hrb
  go_wp2_with (first
    | ((with_reducible show wpList _ _ _ _ _ _); refine wpList_storeNew rfl _ _ rfl (by rfl) F1 f1_ok (by rfl) ?_; intro wd hXd hbd hzd; clear hzd; have HBd := Lib.hid (HBc.out.trans (hbd.mono HBc.out.size)); have HMd := Lib.hid (HMc.out.below HMc.out.lt hbd); have HXd := Lib.hid hXd; clear hXd hbd)
    | ((with_reducible show wpList _ _ _ _ _ _); refine wpList_buildTo rfl 28 _ rfl (some 47) rfl (frL Fr.zero).toArray (by kernel_rfl) ?_))
  generalize wc.heap.size = PX at *
  refine (put_no Fr.ok_zero zero_right wd).mono ?_
  rintro e we ⟨rfl, hbe⟩
  have HB9 := Lib.hid (HBd.out.trans (hbe.mono HBd.out.size))
  have HM := Lib.hid (HMd.out.below HMd.out.lt hbe)
  have HX := Lib.hid (HXd.out.below HXd.out.lt hbe)
  clear hbe
  go_wp2_with fail
  refine wp_region_held_drew (S := fun W => Below we.heap.size we W) (by kernel_rfl) (Below.refl _ _).drew (fun hHeld => ?_)
  refine wpAnyH_take (i := 0) (oi := ⟨some 51, _, _, _, _, _⟩) (v := .int .i64 0) rfl (by kernel_rfl) (by kernel_rfl) (by kernel_rfl) (fun _ _ _ h => h) (Or.inl ⟨by rfl, fun _ _ => by go_simp⟩) hHeld ?_
  simp only [Act.put, List.setIfInBounds_toArray, List.set_cons_zero, List.set_cons_succ]
  refine wpAnyH_take (i := 1) (oi := ⟨some 52, _, _, _, _, _⟩) (v := .bool true) rfl (by kernel_rfl) (by kernel_rfl) (by kernel_rfl) (fun _ _ _ h => h) (Or.inl ⟨by rfl, fun _ _ => by go_simp⟩) hHeld ?_
  simp only [Act.put, List.setIfInBounds_toArray, List.set_cons_zero, List.set_cons_succ]
  refine wpAnyH_take (i := 2) (oi := ⟨some 53, _, _, _, _, _⟩) (v := .bool true) rfl (by kernel_rfl) (by kernel_rfl) (by kernel_rfl) (fun _ _ _ h => h) (Or.inl ⟨by rfl, fun _ _ => by go_simp⟩) hHeld ?_
  simp only [Act.put, List.setIfInBounds_toArray, List.set_cons_zero, List.set_cons_succ]
  refine wpAnyH_take (i := 3) (oi := ⟨some 54, _, _, _, _, _⟩) (v := .int .i64 0) rfl (by kernel_rfl) (by kernel_rfl) (by kernel_rfl) (fun _ _ _ h => h) (Or.inl ⟨by rfl, fun _ _ => by go_simp⟩) hHeld ?_
  simp only [Act.put, List.setIfInBounds_toArray, List.set_cons_zero, List.set_cons_succ]
  refine wpAnyH_take (i := 4) (oi := ⟨some 55, _, _, _, _, _⟩) (v := .bool true) rfl (by kernel_rfl) (by kernel_rfl) (by kernel_rfl) (fun _ _ _ h => h) (Or.inl ⟨by rfl, fun _ _ => by go_simp⟩) hHeld ?_
  simp only [Act.put, List.setIfInBounds_toArray, List.set_cons_zero, List.set_cons_succ]
  refine wpAnyH_take (i := 5) (oi := ⟨some 56, _, _, _, _, _⟩) (v := .bool true) rfl (by kernel_rfl) (by kernel_rfl) (by kernel_rfl) (fun _ _ _ h => h) (Or.inl ⟨by rfl, fun _ _ => by go_simp⟩) hHeld ?_
  simp only [Act.put, List.setIfInBounds_toArray, List.set_cons_zero, List.set_cons_succ]
  refine wpAnyH_take (i := 6) (oi := ⟨some 57, _, _, _, _, _⟩) (v := .bool true) rfl (by kernel_rfl) (by kernel_rfl) (by kernel_rfl) (fun _ _ _ h => h) (Or.inl ⟨by rfl, fun _ _ => by go_simp⟩) hHeld ?_
  simp only [Act.put, List.setIfInBounds_toArray, List.set_cons_zero, List.set_cons_succ]
  refine wpAnyH_take (i := 7) (oi := ⟨some 58, _, _, _, _, _⟩) (v := .agg (frL F0).toArray) rfl (by kernel_rfl) (by kernel_rfl) (by kernel_rfl) (fun _ _ _ h => h) (yieldsIf_load_mid (by rfl) 28 _ rfl PH 0 rfl (frL F0) _ (fun W hW => (HM.out.below HM.out.lt hW).range) Try.underlying28 rfl (sizeFrL f0_ok)) hHeld ?_
  simp only [Act.put, List.setIfInBounds_toArray, List.set_cons_zero, List.set_cons_succ]
  refine wpAnyH_ready (rs := [8]) (by kernel_rfl) (by simp) (AllReadyH.cons (o := ⟨some 59, _, _, _, _, _⟩) rfl (fun K hK => ?_) AllReadyH.nil)
  go_simp
  refine (some_any _).mono ?_
  rintro e w10 ⟨rfl, hb10⟩
  refine hK.out _ _ (hHeld.trans (hb10.mono hHeld.size)) (fun hHeld => ?_)
  clear hK K hb10
  refine wpAnyH_take (i := 9) (oi := ⟨some 60, _, _, _, _, _⟩) (v := .bool true) rfl (by kernel_rfl) (by kernel_rfl) (by kernel_rfl) (fun _ _ _ h => h) (yields_eql (by rfl) 28 _ _ _ rfl (frL F0).toArray (frL F0).toArray (by rfl) (by rfl) guard_fr true (fun W => run_eql_fr W f0_ok)) hHeld ?_
  simp only [Act.put, List.setIfInBounds_toArray, List.set_cons_zero, List.set_cons_succ]
  refine wpAnyH_take (i := 10) (oi := ⟨some 61, _, _, _, _, _⟩) (v := .bool true) rfl (by kernel_rfl) (by kernel_rfl) (by kernel_rfl) (fun _ _ _ h => h) (Or.inl ⟨by rfl, fun _ _ => by go_simp⟩) hHeld ?_
  simp only [Act.put, List.setIfInBounds_toArray, List.set_cons_zero, List.set_cons_succ]
  refine wpAnyH_take (i := 11) (oi := ⟨some 62, _, _, _, _, _⟩) (v := .bool true) rfl (by kernel_rfl) (by kernel_rfl) (by kernel_rfl) (fun _ _ _ h => h) (Or.inl ⟨by rfl, fun _ _ => by go_simp⟩) hHeld ?_
  simp only [Act.put, List.setIfInBounds_toArray, List.set_cons_zero, List.set_cons_succ]
  refine wpAnyH_take (i := 12) (oi := ⟨some 63, _, _, _, _, _⟩) (v := .int .i64 2) rfl (by kernel_rfl) (by kernel_rfl) (by kernel_rfl) (fun _ _ _ h => h) (Or.inl ⟨by rfl, fun _ _ => by go_simp⟩) hHeld ?_
  simp only [Act.put, List.setIfInBounds_toArray, List.set_cons_zero, List.set_cons_succ]
  refine wpAnyH_take (i := 13) (oi := ⟨some 64, _, _, _, _, _⟩) (v := .bool true) rfl (by kernel_rfl) (by kernel_rfl) (by kernel_rfl) (fun _ _ _ h => h) (Or.inl ⟨by rfl, fun _ _ => by go_simp⟩) hHeld ?_
  simp only [Act.put, List.setIfInBounds_toArray, List.set_cons_zero, List.set_cons_succ]
  refine wpAnyH_take (i := 14) (oi := ⟨some 65, _, _, _, _, _⟩) (v := .bool true) rfl (by kernel_rfl) (by kernel_rfl) (by kernel_rfl) (fun _ _ _ h => h) (Or.inl ⟨by rfl, fun _ _ => by go_simp⟩) hHeld ?_
  simp only [Act.put, List.setIfInBounds_toArray, List.set_cons_zero, List.set_cons_succ]
  refine wpAnyH_take (i := 15) (oi := ⟨some 66, _, _, _, _, _⟩) (v := .bool true) rfl (by kernel_rfl) (by kernel_rfl) (by kernel_rfl) (fun _ _ _ h => h) (Or.inl ⟨by rfl, fun _ _ => by go_simp⟩) hHeld ?_
  simp only [Act.put, List.setIfInBounds_toArray, List.set_cons_zero, List.set_cons_succ]
  refine wpAnyH_take (i := 16) (oi := ⟨some 67, _, _, _, _, _⟩) (v := .int .i64 0) rfl (by kernel_rfl) (by kernel_rfl) (by kernel_rfl) (fun _ _ _ h => h) (Or.inl ⟨by rfl, fun _ _ => by go_simp⟩) hHeld ?_
  simp only [Act.put, List.setIfInBounds_toArray, List.set_cons_zero, List.set_cons_succ]
  refine wpAnyH_take (i := 17) (oi := ⟨some 68, _, _, _, _, _⟩) (v := .bool true) rfl (by kernel_rfl) (by kernel_rfl) (by kernel_rfl) (fun _ _ _ h => h) (Or.inl ⟨by rfl, fun _ _ => by go_simp⟩) hHeld ?_
  simp only [Act.put, List.setIfInBounds_toArray, List.set_cons_zero, List.set_cons_succ]
  refine wpAnyH_take (i := 18) (oi := ⟨some 69, _, _, _, _, _⟩) (v := .bool true) rfl (by kernel_rfl) (by kernel_rfl) (by kernel_rfl) (fun _ _ _ h => h) (Or.inl ⟨by rfl, fun _ _ => by go_simp⟩) hHeld ?_
  simp only [Act.put, List.setIfInBounds_toArray, List.set_cons_zero, List.set_cons_succ]
  refine wpAnyH_take (i := 19) (oi := ⟨some 70, _, _, _, _, _⟩) (v := .bool true) rfl (by kernel_rfl) (by kernel_rfl) (by kernel_rfl) (fun _ _ _ h => h) (Or.inl ⟨by rfl, fun _ _ => by go_simp⟩) hHeld ?_
  simp only [Act.put, List.setIfInBounds_toArray, List.set_cons_zero, List.set_cons_succ]
  refine wpAnyH_take (i := 20) (oi := ⟨some 71, _, _, _, _, _⟩) (v := .pointer (some ⟨PX, 0, none⟩)) rfl (by kernel_rfl) (by kernel_rfl) (by kernel_rfl) (fun _ _ _ h => h) (Or.inl ⟨by rfl, fun _ _ => by go_simp⟩) hHeld ?_
  simp only [Act.put, List.setIfInBounds_toArray, List.set_cons_zero, List.set_cons_succ]
  refine wpAnyH_take (i := 21) (oi := ⟨some 72, _, _, _, _, _⟩) (v := .int .i64 48) rfl (by kernel_rfl) (by kernel_rfl) (by kernel_rfl) (fun _ _ _ h => h) (Or.inl ⟨by rfl, fun W hW => by have hc := (HX.out.below HX.out.lt hW).cell (i := 0) (v := .int .i64 48) rfl; go_simp⟩) hHeld ?_
  simp only [Act.put, List.setIfInBounds_toArray, List.set_cons_zero, List.set_cons_succ]
  refine wpAnyH_take (i := 22) (oi := ⟨some 73, _, _, _, _, _⟩) (v := .bool true) rfl (by kernel_rfl) (by kernel_rfl) (by kernel_rfl) (fun _ _ _ h => h) (Or.inl ⟨by rfl, fun _ _ => by go_simp⟩) hHeld ?_
  simp only [Act.put, List.setIfInBounds_toArray, List.set_cons_zero, List.set_cons_succ]
  refine wpAnyH_take (i := 23) (oi := ⟨some 74, _, _, _, _, _⟩) (v := .bool true) rfl (by kernel_rfl) (by kernel_rfl) (by kernel_rfl) (fun _ _ _ h => h) (Or.inl ⟨by rfl, fun _ _ => by go_simp⟩) hHeld ?_
  simp only [Act.put, List.setIfInBounds_toArray, List.set_cons_zero, List.set_cons_succ]
  refine wpAnyH_take (i := 24) (oi := ⟨some 75, _, _, _, _, _⟩) (v := .bool true) rfl (by kernel_rfl) (by kernel_rfl) (by kernel_rfl) (fun _ _ _ h => h) (Or.inl ⟨by rfl, fun _ _ => by go_simp⟩) hHeld ?_
  simp only [Act.put, List.setIfInBounds_toArray, List.set_cons_zero, List.set_cons_succ]
  refine wpAnyH_take (i := 25) (oi := ⟨some 76, _, _, _, _, _⟩) (v := .pointer (some ⟨PX, 4, none⟩)) rfl (by kernel_rfl) (by kernel_rfl) (by kernel_rfl) (fun _ _ _ h => h) (Or.inl ⟨by rfl, fun _ _ => by go_simp⟩) hHeld ?_
  simp only [Act.put, List.setIfInBounds_toArray, List.set_cons_zero, List.set_cons_succ]
  refine wpAnyH_take (i := 26) (oi := ⟨some 77, _, _, _, _, _⟩) (v := .int .i64 1) rfl (by kernel_rfl) (by kernel_rfl) (by kernel_rfl) (fun _ _ _ h => h) (Or.inl ⟨by rfl, fun W hW => by have hc := (HX.out.below HX.out.lt hW).cell (i := 4) (v := .int .i64 1) rfl; go_simp⟩) hHeld ?_
  simp only [Act.put, List.setIfInBounds_toArray, List.set_cons_zero, List.set_cons_succ]
  refine wpAnyH_take (i := 27) (oi := ⟨some 78, _, _, _, _, _⟩) (v := .bool true) rfl (by kernel_rfl) (by kernel_rfl) (by kernel_rfl) (fun _ _ _ h => h) (Or.inl ⟨by rfl, fun _ _ => by go_simp⟩) hHeld ?_
  simp only [Act.put, List.setIfInBounds_toArray, List.set_cons_zero, List.set_cons_succ]
  refine wpAnyH_take (i := 28) (oi := ⟨some 79, _, _, _, _, _⟩) (v := .bool true) rfl (by kernel_rfl) (by kernel_rfl) (by kernel_rfl) (fun _ _ _ h => h) (Or.inl ⟨by rfl, fun _ _ => by go_simp⟩) hHeld ?_
  simp only [Act.put, List.setIfInBounds_toArray, List.set_cons_zero, List.set_cons_succ]
  refine wpAnyH_take (i := 29) (oi := ⟨some 80, _, _, _, _, _⟩) (v := .bool true) rfl (by kernel_rfl) (by kernel_rfl) (by kernel_rfl) (fun _ _ _ h => h) (Or.inl ⟨by rfl, fun _ _ => by go_simp⟩) hHeld ?_
  simp only [Act.put, List.setIfInBounds_toArray, List.set_cons_zero, List.set_cons_succ]
  refine wpAnyH_take (i := 30) (oi := ⟨some 81, _, _, _, _, _⟩) (v := .pointer (some ⟨PX, 5, none⟩)) rfl (by kernel_rfl) (by kernel_rfl) (by kernel_rfl) (fun _ _ _ h => h) (Or.inl ⟨by rfl, fun _ _ => by go_simp⟩) hHeld ?_
  simp only [Act.put, List.setIfInBounds_toArray, List.set_cons_zero, List.set_cons_succ]
  refine wpAnyH_take (i := 31) (oi := ⟨some 82, _, _, _, _, _⟩) (v := .int .i64 17) rfl (by kernel_rfl) (by kernel_rfl) (by kernel_rfl) (fun _ _ _ h => h) (Or.inl ⟨by rfl, fun W hW => by have hc := (HX.out.below HX.out.lt hW).cell (i := 5) (v := .int .i64 17) rfl; go_simp⟩) hHeld ?_
  simp only [Act.put, List.setIfInBounds_toArray, List.set_cons_zero, List.set_cons_succ]
  refine wpAnyH_take (i := 32) (oi := ⟨some 83, _, _, _, _, _⟩) (v := .bool true) rfl (by kernel_rfl) (by kernel_rfl) (by kernel_rfl) (fun _ _ _ h => h) (Or.inl ⟨by rfl, fun _ _ => by go_simp⟩) hHeld ?_
  simp only [Act.put, List.setIfInBounds_toArray, List.set_cons_zero, List.set_cons_succ]
  refine wpAnyH_take (i := 33) (oi := ⟨some 84, _, _, _, _, _⟩) (v := .bool true) rfl (by kernel_rfl) (by kernel_rfl) (by kernel_rfl) (fun _ _ _ h => h) (Or.inl ⟨by rfl, fun _ _ => by go_simp⟩) hHeld ?_
  simp only [Act.put, List.setIfInBounds_toArray, List.set_cons_zero, List.set_cons_succ]
  refine wpAnyH_take (i := 34) (oi := ⟨some 85, _, _, _, _, _⟩) (v := .bool true) rfl (by kernel_rfl) (by kernel_rfl) (by kernel_rfl) (fun _ _ _ h => h) (Or.inl ⟨by rfl, fun _ _ => by go_simp⟩) hHeld ?_
  simp only [Act.put, List.setIfInBounds_toArray, List.set_cons_zero, List.set_cons_succ]
  refine wpAnyH_take (i := 35) (oi := ⟨some 86, _, _, _, _, _⟩) (v := .int .i64 1) rfl (by kernel_rfl) (by kernel_rfl) (by kernel_rfl) (fun _ _ _ h => h) (Or.inl ⟨by rfl, fun _ _ => by go_simp⟩) hHeld ?_
  simp only [Act.put, List.setIfInBounds_toArray, List.set_cons_zero, List.set_cons_succ]
  refine wpAnyH_take (i := 36) (oi := ⟨some 87, _, _, _, _, _⟩) (v := .bool true) rfl (by kernel_rfl) (by kernel_rfl) (by kernel_rfl) (fun _ _ _ h => h) (Or.inl ⟨by rfl, fun _ _ => by go_simp⟩) hHeld ?_
  simp only [Act.put, List.setIfInBounds_toArray, List.set_cons_zero, List.set_cons_succ]
  refine wpAnyH_take (i := 37) (oi := ⟨some 88, _, _, _, _, _⟩) (v := .bool true) rfl (by kernel_rfl) (by kernel_rfl) (by kernel_rfl) (fun _ _ _ h => h) (Or.inl ⟨by rfl, fun _ _ => by go_simp⟩) hHeld ?_
  simp only [Act.put, List.setIfInBounds_toArray, List.set_cons_zero, List.set_cons_succ]
  refine wpAnyH_take (i := 38) (oi := ⟨some 0, _, _, _, _, _⟩) (v := .bool true) rfl (by kernel_rfl) (by kernel_rfl) (by kernel_rfl) (fun _ _ _ h => h) (Or.inl ⟨by rfl, fun _ _ => by go_simp⟩) hHeld ?_
  simp only [Act.put, List.setIfInBounds_toArray, List.set_cons_zero]
  refine wpAnyH_done (by kernel_rfl) ?_ _
  go_wp2_with fail
  go_ret
  exact ⟨rfl, HB9.out.trans (hHeld.mono HB9.out.size)⟩
end Go.Proofs.Ythicbdjambmnpaa
