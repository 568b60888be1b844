/-
  The statements' 'awake', which answers true.
-/
import Derived.Test.YtdkaaffghendiaaKPMake
import Derived.Test.YtdkaaffghendiaaKPRead
import Derived.Test.YtdkaaffghendiaaKRef2
import Derived.Lib.SlBytesConst
namespace Go.Proofs.Ytdkaaffghendiaa
set_option maxRecDepth 100000
open Go.RowKit Go.Lib

theorem Rd.marked (w : World) (xs : List UInt8) (fr : Nat × Nat) : Rd (w.alloc (.cells (xs.map v8).toArray 5 fr)) (w.heap.size + 1) (some ⟨w.heap.size, 0, none⟩) xs.length xs :=
  ⟨rfl, fun _ => ⟨w.heap.size, 0, rfl, by omega, fun j x hx => by
    rw [Nat.zero_add, cell_of_row _ w.heap.size j _ _ fr (heap_alloc_new w _)]
    simp [hx]⟩⟩
theorem zero_six : Lk.zero.Six := ⟨rfl, rfl⟩
theorem makeK_len {L : Lk} {t : Tu} (h6 : L.Six) (ho : t.Ok) (f : Int) (load : List UInt8) : (makeK L t f load).length = 14 + 4 * L.ts.length + (ihN t + (shN_ t + load.length)) := by
  unfold makeK ipK
  rw [List.length_append, lkB_len (typed_six h6 t), List.length_append, headK_len ho, fillK_len]
  rfl
theorem sm_ok : MakeOk Lk.zero SM 2 := okB_yes (by decide)
theorem sm_why : whyN Lk.zero SM 2 ([104, 105] : List UInt8).length = 0 := by decide
theorem no_why : whyN Lk.zero Tu.zero 0 ([] : List UInt8).length = 1 := by decide
theorem sm_read : readK (makeK Lk.zero SM 2 [104, 105]) = ⟨0, SM, 2, 14, 34, 56⟩ := by
  have h := make_read (L := Lk.zero) (t := SM) (f := 2) (load := [104, 105]) zero_six SM_ok sm_ok (by decide) []
  rw [List.append_nil] at h
  exact h
theorem sm_len : (makeK Lk.zero SM 2 [104, 105]).length = 56 := makeK_len zero_six SM_ok 2 [104, 105]
theorem z13_read : readK (List.replicate 13 0) = kindK 1 := if_pos (by decide)
theorem z14_read : readK (List.replicate 14 0) = kindK 2 := by unfold readK; rw [if_neg (by decide), if_neg (by decide), if_neg (by decide)]
theorem mk_yes (W : World) (A : Option Addr) (c : Nat) (hR : Rd W W.heap.size A 2 [104, 105]) :
    Calls Try.prog 13 #[lkC Lk.zero (.slice none 0 0), tuC SM, .int .i64 2, .slice A 2 c] W fun e w' => ∃ A' c', e = .returned (.tuple #[.slice A' 56 c', .int .i64 0]) ∧ 56 ≤ c' ∧ c' ≤ maxLen ∧ Rd w' w'.heap.size A' 56 (makeK Lk.zero SM 2 [104, 105]) ∧ Below W.heap.size W w' := by
  refine (pmake_any zero_six (A := none) (n := 0) (by omega) SM_ok 2 (by omega) W (TagsAt.nil_ none) hR).mono ?_
  rintro e w' ⟨_, hy, hb⟩
  obtain ⟨v, rfl, ho⟩ := hy sm_why
  obtain ⟨A', c', rfl, h1, h2, h3⟩ := ho.formN sm_len
  exact ⟨A', c', rfl, h1, h2, h3, hb⟩
theorem mk_no (W : World) :
    Calls Try.prog 13 #[lkC Lk.zero (.slice none 0 0), tuC Tu.zero, .int .i64 0, .slice none 0 0] W fun e w' => e = .returned (.tuple #[.slice none 0 0, .int .i64 1]) ∧ Below W.heap.size W w' := by
  refine (pmake_any zero_six (A := none) (n := 0) (by omega) Tu.ok_zero 0 (by omega) W (TagsAt.nil_ none) (Rd.nil_ none)).mono ?_
  rintro e w' ⟨hn, _, hb⟩
  have := hn (by rw [no_why]; decide)
  rw [no_why] at this
  exact ⟨this, hb⟩
theorem built_lk0 : Try.prog.built 36 [] = some (lkL Lk.zero (.slice none 0 0)).toArray := by kernel_rfl
theorem built_pk5 (t : Tu) (fl net sg en : Int) (h : t.Ok) : Try.prog.built 30 [(1, tuC t), (2, .int .i64 fl), (3, .int .i64 net), (4, .int .i64 sg), (5, .int .i64 en)] = some (pkL ⟨0, t, fl, net, sg, en⟩).toArray := built_pk t fl net sg en h
def PA : Pk := ⟨0, SM, 2, 14, 34, 56⟩
theorem PA_ok : PA.t.Ok := SM_ok
set_option maxHeartbeats 8000000 in
theorem awake_any (w : World) : Calls Try.prog 10 #[] w fun e w' => e = .returned (.bool true) ∧ Below w.heap.size w w' := by
  have kc := fun (w : World) (C : Array Value) (n c : Nat) => Lib.run_convert_bytes_const (P := Try.prog) w 22 5 C n c Try.underlying22 Try.underlying5
  go_enter Try.func10, Try.ntmps10
  go_wp2_with (((with_reducible show wpList _ _ _ (⟨some 7, _, _, _, _, _⟩ :: _) _ _); refine wpList_buildw (op := ⟨some 7, _, _, _, _, _⟩) 36 _ rfl (by rfl) _ (by kernel_rfl) (lkL Lk.zero (.slice none 0 0)).toArray built_lk0 ?_))
  refine (some_any w).mono ?_
  rintro e w1 ⟨rfl, hb1⟩
  have HB1 := Lib.hid hb1
  clear hb1
  go_wp2_with fail
  have hrd := Rd.marked w1 [104, 105] (2, 3)
  have hw2 : Below w.heap.size w (w1.alloc (.cells #[.int .u8 104, .int .u8 105] 5 (2, 3))) := HB1.out.alloc HB1.out.size _
  clear kc
  refine (mk_yes _ _ _ (hrd.more (by simp))).mono ?_
  rintro e w3 ⟨A3, c3, rfl, h1, h2, hr3, hb3⟩
  have HB3 := Lib.hid (hw2.trans (hb3.mono hw2.size))
  have HR3 := Lib.hid (sm_read ▸ pread_any A3 56 c3 _ (by omega) h1 h2 w3 hr3)
  clear hb3 hrd hw2 hr3
  go_wp2_with fail
  refine HR3.out.mono ?_
  rintro e w4 ⟨rfl, hb4⟩
  have HB4 := Lib.hid (HB3.out.trans (hb4.mono HB3.out.size))
  clear hb4
  go_wp2_with (first
    | ((with_reducible show wpList _ _ _ (⟨none, .store 30 (.tmp 3) (.tmp 15), _, _, _, _⟩ :: _) _ _); refine wpList_storeNewG (op := ⟨none, .store 30 (.tmp 3) (.tmp 15), _, _, _, _⟩) rfl 30 _ _ rfl (by rfl) (pkL PA) (by rfl) (by rw [pkL_len PA_ok]; rfl) (sizePkL PA_ok) (pkL_one _) ?_; intro w5 hp5 hb5 hz5; clear hz5; have HB5 := Lib.hid (HB4.out.trans (hb5.mono HB4.out.size)); have HP5 := Lib.hid hp5; clear hp5 hb5)
    | ((with_reducible show wpList _ _ _ (⟨some 17, _, _, _, _, _⟩ :: _) _ _); refine wpList_buildw (op := ⟨some 17, _, _, _, _, _⟩) 36 _ rfl (by rfl) _ (by kernel_rfl) (lkL Lk.zero (.slice none 0 0)).toArray built_lk0 ?_)
    | ((with_reducible show wpList _ _ _ (⟨some 18, _, _, _, _, _⟩ :: _) _ _); refine wpList_buildw (op := ⟨some 18, _, _, _, _, _⟩) 28 _ rfl (by rfl) _ (by kernel_rfl) (tuL Tu.zero).toArray built_tu0 ?_))
  refine (mk_no _).mono ?_
  rintro e w6 ⟨rfl, hb6⟩
  have HB6 := Lib.hid (HB5.out.trans (hb6.mono HB5.out.size))
  have HP6 := Lib.hid (HP5.out.below HP5.out.lt hb6)
  clear hb6
  go_wp2_with fail
  generalize w4.heap.size = PH at HP6 ⊢
  refine wp_region_held_drew (S := fun W => Below w6.heap.size w6 W) (by kernel_rfl) ((Below.refl _ _).drew) (fun hHeld => ?_)
  obtain ⟨X, hX⟩ : ∃ X, w6.drew = X := ⟨_, rfl⟩
  rw [hX] at hHeld ⊢
  clear hX
  refine wpAnyH_take (i := 2) (oi := ⟨some 24, _, _, _, _, _⟩) (v := .agg (pkL (kindK 1)).toArray) rfl (by kernel_rfl) (by kernel_rfl) (by kernel_rfl) (fun _ _ _ h => h) (yields_build (by rfl) 30 _ rfl [(0, .int .i64 1)] (by kernel_rfl) _ (built_pk1 1)) hHeld ?_
  simp only [Act.put, List.setIfInBounds_toArray, List.set_cons_zero, List.set_cons_succ]
  refine wpAnyH_ready (rs := [0]) (by kernel_rfl) (by simp) (AllReadyH.cons (o := ⟨some 22, _, _, _, _, _⟩) rfl (fun K hK => ?_) AllReadyH.nil)
  have hmk13 : ∀ W : World, (Instr.makeSlice 22 (.int .i64 13) (.int .i64 13)).run Try.prog W = .ok (.slice (some ⟨W.heap.size, 0, none⟩) 13 13) (W.alloc (.cells (madeCells #[.int .u8 0] 13) 5)) := fun W => run_make8 13 13 (Nat.le_refl _) (by omega) W
  go_simp
  have HM13 := Lib.hid (made_own X 13 13 X.heap.size (Nat.le_refl _) (small_max (by omega)) (Nat.le_refl _))
  have HH13 := Lib.hid (hHeld.alloc hHeld.size (.cells (madeCells #[.int .u8 0] 13) 5))
  generalize X.alloc (.cells (madeCells #[.int .u8 0] 13) 5) = Z13 at HM13 HH13 ⊢
  generalize X.heap.size = G13 at HM13 ⊢
  refine hK.out _ _ (HH13.out) (fun hHeld => ?_)
  clear hK K hmk13
  refine wpAnyH_ready (rs := [1]) (by kernel_rfl) (by simp) (AllReadyH.cons (o := ⟨some 23, _, _, _, _, _⟩) rfl (fun K hK => ?_) AllReadyH.nil)
  have HC13 : Calls Try.prog 11 #[.slice (some ⟨G13, 0, none⟩) 13 13] Z13 fun e w' => e = .returned (pkC (kindK 1)) ∧ Below Z13.heap.size Z13 w' := by
    obtain ⟨A', c', e', h1, h2, hr⟩ := HM13.out.formN (n := 13) (List.length_replicate ..)
    cases e'
    exact z13_read ▸ pread_any _ 13 13 _ (by omega) h1 h2 _ hr
  go_simp
  refine HC13.mono ?_
  rintro e wa13 ⟨rfl, hba⟩
  refine hK.out _ _ (hHeld.trans (hba.mono hHeld.size)) (fun hHeld => ?_)
  clear hK K hba HC13
  refine wpAnyH_take (i := 3) (oi := ⟨some 25, _, _, _, _, _⟩) (v := .bool true) rfl (by kernel_rfl) (by kernel_rfl) (by kernel_rfl) (fun _ _ _ h => h) (yields_eql (by rfl) 30 _ _ _ rfl (pkL (kindK 1)).toArray (pkL (kindK 1)).toArray (by rfl) (by rfl) guard_pk true (fun W => run_eql_pk W (p := (kindK 1)) Tu.ok_zero)) hHeld ?_
  simp only [Act.put, List.setIfInBounds_toArray, List.set_cons_zero, List.set_cons_succ]
  refine wpAnyH_take (i := 4) (oi := ⟨some 26, _, _, _, _, _⟩) (v := .bool true) rfl (by kernel_rfl) (by kernel_rfl) (by kernel_rfl) (fun _ _ _ h => h) (Or.inl ⟨by rfl, fun _ _ => by go_simp⟩) hHeld ?_
  simp only [Act.put, List.setIfInBounds_toArray, List.set_cons_zero, List.set_cons_succ]
  refine wpAnyH_take (i := 7) (oi := ⟨some 29, _, _, _, _, _⟩) (v := .agg (pkL (kindK 2)).toArray) rfl (by kernel_rfl) (by kernel_rfl) (by kernel_rfl) (fun _ _ _ h => h) (yields_build (by rfl) 30 _ rfl [(0, .int .i64 2)] (by kernel_rfl) _ (built_pk1 2)) hHeld ?_
  simp only [Act.put, List.setIfInBounds_toArray, List.set_cons_zero, List.set_cons_succ]
  refine wpAnyH_ready (rs := [5]) (by kernel_rfl) (by simp) (AllReadyH.cons (o := ⟨some 27, _, _, _, _, _⟩) rfl (fun K hK => ?_) AllReadyH.nil)
  have hmk14 : ∀ W : World, (Instr.makeSlice 22 (.int .i64 14) (.int .i64 14)).run Try.prog W = .ok (.slice (some ⟨W.heap.size, 0, none⟩) 14 14) (W.alloc (.cells (madeCells #[.int .u8 0] 14) 5)) := fun W => run_make8 14 14 (Nat.le_refl _) (by omega) W
  rw [if_pos (by rfl)]
  go_simp
  have HM14 := Lib.hid (made_own wa13 14 14 wa13.heap.size (Nat.le_refl _) (small_max (by omega)) (Nat.le_refl _))
  have HH14 := Lib.hid (hHeld.alloc hHeld.size (.cells (madeCells #[.int .u8 0] 14) 5))
  generalize wa13.alloc (.cells (madeCells #[.int .u8 0] 14) 5) = Z14 at HM14 HH14 ⊢
  generalize wa13.heap.size = G14 at HM14 ⊢
  refine hK.out _ _ (HH14.out) (fun hHeld => ?_)
  clear hK K hmk14
  refine wpAnyH_ready (rs := [6]) (by kernel_rfl) (by simp) (AllReadyH.cons (o := ⟨some 28, _, _, _, _, _⟩) rfl (fun K hK => ?_) AllReadyH.nil)
  have HC14 : Calls Try.prog 11 #[.slice (some ⟨G14, 0, none⟩) 14 14] Z14 fun e w' => e = .returned (pkC (kindK 2)) ∧ Below Z14.heap.size Z14 w' := by
    obtain ⟨A', c', e', h1, h2, hr⟩ := HM14.out.formN (n := 14) (List.length_replicate ..)
    cases e'
    exact z14_read ▸ pread_any _ 14 14 _ (by omega) h1 h2 _ hr
  rw [if_pos (by rfl)]
  go_simp
  refine HC14.mono ?_
  rintro e wa14 ⟨rfl, hba⟩
  refine hK.out _ _ (hHeld.trans (hba.mono hHeld.size)) (fun hHeld => ?_)
  clear hK K hba HC14
  refine wpAnyH_take (i := 8) (oi := ⟨some 30, _, _, _, _, _⟩) (v := .bool true) rfl (by kernel_rfl) (by kernel_rfl) (by kernel_rfl) (fun _ _ _ h => h) (yields_eql (by rfl) 30 _ _ _ rfl (pkL (kindK 2)).toArray (pkL (kindK 2)).toArray (by rfl) (by rfl) guard_pk true (fun W => run_eql_pk W (p := (kindK 2)) Tu.ok_zero)) hHeld ?_
  simp only [Act.put, List.setIfInBounds_toArray, List.set_cons_zero, List.set_cons_succ]
  refine wpAnyH_take (i := 9) (oi := ⟨some 31, _, _, _, _, _⟩) (v := .bool true) rfl (by kernel_rfl) (by kernel_rfl) (by kernel_rfl) (fun _ _ _ h => h) (Or.inl ⟨by rfl, fun _ _ => by go_simp⟩) hHeld ?_
  simp only [Act.put, List.setIfInBounds_toArray, List.set_cons_zero, List.set_cons_succ]
  refine wpAnyH_take (i := 10) (oi := ⟨some 32, _, _, _, _, _⟩) (v := .bool true) rfl (by kernel_rfl) (by kernel_rfl) (by kernel_rfl) (fun _ _ _ h => h) (Or.inl ⟨by rfl, fun _ _ => by go_simp⟩) hHeld ?_
  simp only [Act.put, List.setIfInBounds_toArray, List.set_cons_zero, List.set_cons_succ]
  refine wpAnyH_take (i := 11) (oi := ⟨some 33, _, _, _, _, _⟩) (v := .int .i64 0) rfl (by kernel_rfl) (by kernel_rfl) (by kernel_rfl) (fun _ _ _ h => h) (Or.inl ⟨by rfl, fun _ _ => by go_simp⟩) hHeld ?_
  simp only [Act.put, List.setIfInBounds_toArray, List.set_cons_zero, List.set_cons_succ]
  refine wpAnyH_take (i := 12) (oi := ⟨some 34, _, _, _, _, _⟩) (v := .bool true) rfl (by kernel_rfl) (by kernel_rfl) (by kernel_rfl) (fun _ _ _ h => h) (Or.inl ⟨by rfl, fun _ _ => by go_simp⟩) hHeld ?_
  simp only [Act.put, List.setIfInBounds_toArray, List.set_cons_zero, List.set_cons_succ]
  refine wpAnyH_take (i := 13) (oi := ⟨some 35, _, _, _, _, _⟩) (v := .bool true) rfl (by kernel_rfl) (by kernel_rfl) (by kernel_rfl) (fun _ _ _ h => h) (Or.inl ⟨by rfl, fun _ _ => by go_simp⟩) hHeld ?_
  simp only [Act.put, List.setIfInBounds_toArray, List.set_cons_zero, List.set_cons_succ]
  refine wpAnyH_take (i := 14) (oi := ⟨some 36, _, _, _, _, _⟩) (v := .bool true) rfl (by kernel_rfl) (by kernel_rfl) (by kernel_rfl) (fun _ _ _ h => h) (Or.inl ⟨by rfl, fun _ _ => by go_simp⟩) hHeld ?_
  simp only [Act.put, List.setIfInBounds_toArray, List.set_cons_zero, List.set_cons_succ]
  refine wpAnyH_take (i := 15) (oi := ⟨some 37, _, _, _, _, _⟩) (v := .slice A3 56 c3) rfl (by kernel_rfl) (by kernel_rfl) (by kernel_rfl) (fun _ _ _ h => h) (Or.inl ⟨by rfl, fun _ _ => by go_simp⟩) hHeld ?_
  simp only [Act.put, List.setIfInBounds_toArray, List.set_cons_zero, List.set_cons_succ]
  refine wpAnyH_take (i := 16) (oi := ⟨some 38, _, _, _, _, _⟩) (v := .int .i64 56) rfl (by kernel_rfl) (by kernel_rfl) (by kernel_rfl) (fun _ _ _ h => h) (Or.inl ⟨by rfl, fun _ _ => by go_simp⟩) hHeld ?_
  simp only [Act.put, List.setIfInBounds_toArray, List.set_cons_zero, List.set_cons_succ]
  refine wpAnyH_take (i := 17) (oi := ⟨some 39, _, _, _, _, _⟩) (v := .bool true) rfl (by kernel_rfl) (by kernel_rfl) (by kernel_rfl) (fun _ _ _ h => h) (Or.inl ⟨by rfl, fun _ _ => by go_simp⟩) hHeld ?_
  simp only [Act.put, List.setIfInBounds_toArray, List.set_cons_zero, List.set_cons_succ]
  refine wpAnyH_take (i := 18) (oi := ⟨some 40, _, _, _, _, _⟩) (v := .bool true) rfl (by kernel_rfl) (by kernel_rfl) (by kernel_rfl) (fun _ _ _ h => h) (Or.inl ⟨by rfl, fun _ _ => by go_simp⟩) hHeld ?_
  simp only [Act.put, List.setIfInBounds_toArray, List.set_cons_zero, List.set_cons_succ]
  refine wpAnyH_take (i := 19) (oi := ⟨some 41, _, _, _, _, _⟩) (v := .bool true) rfl (by kernel_rfl) (by kernel_rfl) (by kernel_rfl) (fun _ _ _ h => h) (Or.inl ⟨by rfl, fun _ _ => by go_simp⟩) hHeld ?_
  simp only [Act.put, List.setIfInBounds_toArray, List.set_cons_zero, List.set_cons_succ]
  refine wpAnyH_take (i := 20) (oi := ⟨some 42, _, _, _, _, _⟩) (v := pkC PA) rfl (by kernel_rfl) (by kernel_rfl) (by kernel_rfl) (fun _ _ _ h => h) (yieldsIf_load_mid (by rfl) 30 _ rfl PH 0 rfl (pkL PA) _ (fun W hW => Blk_10.range (HP6.out.below HP6.out.lt hW)) Try.underlying30 rfl (sizePkL PA_ok)) hHeld ?_
  simp only [Act.put, List.setIfInBounds_toArray, List.set_cons_zero, List.set_cons_succ]
  refine wpAnyH_ready (rs := [21]) (by kernel_rfl) (by simp) (AllReadyH.cons (o := ⟨some 43, _, _, _, _, _⟩) rfl (fun K hK => ?_) AllReadyH.nil)
  rw [if_pos (by rfl)]
  go_simp
  refine (some_any _).mono ?_
  rintro e wb ⟨rfl, hbb⟩
  refine hK.out _ _ (hHeld.trans (hbb.mono hHeld.size)) (fun hHeld => ?_)
  clear hK K hbb
  refine wpAnyH_take (i := 22) (oi := ⟨some 44, _, _, _, _, _⟩) (v := .agg (pkL PA).toArray) rfl (by kernel_rfl) (by kernel_rfl) (by kernel_rfl) (fun _ _ _ h => h) (yields_build (by rfl) 30 _ rfl [(1, tuC SM), (2, .int .i64 2), (3, .int .i64 14), (4, .int .i64 34), (5, .int .i64 56)] (by kernel_rfl) _ (built_pk5 _ _ _ _ _ SM_ok)) hHeld ?_
  simp only [Act.put, List.setIfInBounds_toArray, List.set_cons_zero, List.set_cons_succ]
  refine wpAnyH_take (i := 23) (oi := ⟨some 45, _, _, _, _, _⟩) (v := .bool true) rfl (by kernel_rfl) (by kernel_rfl) (by kernel_rfl) (fun _ _ _ h => h) (yields_eql (by rfl) 30 _ _ _ rfl (pkL PA).toArray (pkL PA).toArray (by rfl) (by rfl) guard_pk true (fun W => run_eql_pk W (p := PA) PA_ok)) hHeld ?_
  simp only [Act.put, List.setIfInBounds_toArray, List.set_cons_zero, List.set_cons_succ]
  refine wpAnyH_take (i := 24) (oi := ⟨some 46, _, _, _, _, _⟩) (v := .bool true) rfl (by kernel_rfl) (by kernel_rfl) (by kernel_rfl) (fun _ _ _ h => h) (Or.inl ⟨by rfl, fun _ _ => by go_simp⟩) hHeld ?_
  simp only [Act.put, List.setIfInBounds_toArray, List.set_cons_zero, List.set_cons_succ]
  refine wpAnyH_take (i := 25) (oi := ⟨some 47, _, _, _, _, _⟩) (v := .bool true) rfl (by kernel_rfl) (by kernel_rfl) (by kernel_rfl) (fun _ _ _ h => h) (Or.inl ⟨by rfl, fun _ _ => by go_simp⟩) hHeld ?_
  simp only [Act.put, List.setIfInBounds_toArray, List.set_cons_zero, List.set_cons_succ]
  refine wpAnyH_take (i := 26) (oi := ⟨some 48, _, _, _, _, _⟩) (v := .int .i64 1) rfl (by kernel_rfl) (by kernel_rfl) (by kernel_rfl) (fun _ _ _ h => h) (Or.inl ⟨by rfl, fun _ _ => by go_simp⟩) hHeld ?_
  simp only [Act.put, List.setIfInBounds_toArray, List.set_cons_zero, List.set_cons_succ]
  refine wpAnyH_take (i := 27) (oi := ⟨some 49, _, _, _, _, _⟩) (v := .bool true) rfl (by kernel_rfl) (by kernel_rfl) (by kernel_rfl) (fun _ _ _ h => h) (Or.inl ⟨by rfl, fun _ _ => by go_simp⟩) hHeld ?_
  simp only [Act.put, List.setIfInBounds_toArray, List.set_cons_zero, List.set_cons_succ]
  refine wpAnyH_take (i := 28) (oi := ⟨some 50, _, _, _, _, _⟩) (v := .bool true) rfl (by kernel_rfl) (by kernel_rfl) (by kernel_rfl) (fun _ _ _ h => h) (Or.inl ⟨by rfl, fun _ _ => by go_simp⟩) hHeld ?_
  simp only [Act.put, List.setIfInBounds_toArray, List.set_cons_zero, List.set_cons_succ]
  refine wpAnyH_take (i := 29) (oi := ⟨some 51, _, _, _, _, _⟩) (v := .bool true) rfl (by kernel_rfl) (by kernel_rfl) (by kernel_rfl) (fun _ _ _ h => h) (Or.inl ⟨by rfl, fun _ _ => by go_simp⟩) hHeld ?_
  simp only [Act.put, List.setIfInBounds_toArray, List.set_cons_zero, List.set_cons_succ]
  refine wpAnyH_ready (rs := [30]) (by kernel_rfl) (by simp) (AllReadyH.cons (o := ⟨some 52, _, _, _, _, _⟩) rfl (fun K hK => ?_) AllReadyH.nil)
  rw [if_pos (by rfl)]
  go_simp
  refine (some_any _).mono ?_
  rintro e wc ⟨rfl, hbc⟩
  refine hK.out _ _ (hHeld.trans (hbc.mono hHeld.size)) (fun hHeld => ?_)
  clear hK K hbc
  refine wpAnyH_ready (rs := [31]) (by kernel_rfl) (by simp) (AllReadyH.cons (o := ⟨some 53, _, _, _, _, _⟩) rfl (fun K hK => ?_) AllReadyH.nil)
  rw [if_pos (by rfl)]
  go_simp
  refine (pturn_any SM_ok _).mono ?_
  rintro e wd ⟨rfl, hbd⟩
  refine hK.out _ _ (hHeld.trans (hbd.mono hHeld.size)) (fun hHeld => ?_)
  clear hK K hbd
  have hfd : ∀ W : World, (Instr.field 28 (tuC (turnT SM)) 3).run Try.prog W = .ok (.int .i64 80) W := fun W => by kernel_rfl
  refine wpAnyH_take (i := 32) (oi := ⟨some 54, _, _, _, _, _⟩) (v := .int .i64 80) rfl (by kernel_rfl) (by kernel_rfl) (by kernel_rfl) (fun _ _ _ h => h) (Or.inl ⟨by rfl, fun _ _ => by go_simp⟩) hHeld ?_
  simp only [Act.put, List.setIfInBounds_toArray, List.set_cons_zero, List.set_cons_succ]
  refine wpAnyH_take (i := 33) (oi := ⟨some 55, _, _, _, _, _⟩) (v := .bool true) rfl (by kernel_rfl) (by kernel_rfl) (by kernel_rfl) (fun _ _ _ h => h) (Or.inl ⟨by rfl, fun _ _ => by go_simp⟩) hHeld ?_
  simp only [Act.put, List.setIfInBounds_toArray, List.set_cons_zero, List.set_cons_succ]
  refine wpAnyH_take (i := 34) (oi := ⟨some 56, _, _, _, _, _⟩) (v := .bool true) rfl (by kernel_rfl) (by kernel_rfl) (by kernel_rfl) (fun _ _ _ h => h) (Or.inl ⟨by rfl, fun _ _ => by go_simp⟩) hHeld ?_
  simp only [Act.put, List.setIfInBounds_toArray, List.set_cons_zero, List.set_cons_succ]
  refine wpAnyH_take (i := 35) (oi := ⟨some 0, _, _, _, _, _⟩) (v := .bool true) rfl (by kernel_rfl) (by kernel_rfl) (by kernel_rfl) (fun _ _ _ h => h) (Or.inl ⟨by rfl, fun _ _ => by go_simp⟩) hHeld ?_
  simp only [Act.put, List.setIfInBounds_toArray, List.set_cons_zero]
  refine wpAnyH_done (by kernel_rfl) ?_ _
  go_wp2_with fail
  go_ret
  exact ⟨rfl, HB6.out.trans (hHeld.mono HB6.out.size)⟩
end Go.Proofs.Ytdkaaffghendiaa
