/-
  The document's header with a Type; the statements' own tuple.
-/
import Derived.Test.YtomkfcpellcncaaKRead
namespace Go.Proofs.Ytomkfcpellcncaa
open Go.RowKit Go.Lib
/-- The result of one header of a frame in a cell. -/
theorem results_lk1 {fn : Func} {p : Tmp} (hr : fn.results = #[.cell p 41]) (tmps : Array Value) (w : World) (g : Nat) (hp : tmps.getD p undef = .pointer (some ⟨g, 0, none⟩)) (L : Lk) (h : L.Six) (tv : Value) (hb : Blk w 41 g (lkL L tv)) :
    (results fn tmps).run Try.prog w = .ok (lkC L tv) w := by
  have hl := run_loadVar_mid (P := Try.prog) w g 0 41 (lkL L tv) _ (Blk_10.range hb) Try.underlying41 rfl (sizeLkL h tv)
  rw [results_cell0 hr, hp]
  simp [Result.andThen, asAddr, hl, lkC]
/-- Three boxes. -/
theorem box3 (w : World) (c0 c1 c2 : List Value) (T0 T1 T2 : TypeId) : ∃ Y : World, ((w.alloc (.cells c0.toArray T0)).alloc (.cells c1.toArray T1)).alloc (.cells c2.toArray T2) = Y ∧ Blk Y T0 w.heap.size c0 ∧ Blk Y T1 (w.heap.size + 1) c1 ∧ Blk Y T2 (w.heap.size + 1 + 1) c2 ∧ Below w.heap.size w Y := by
  have h0 := Blk_10.new w T0 c0
  have h1 := Blk_10.new (w.alloc (.cells c0.toArray T0)) T1 c1
  have h2 := Blk_10.new ((w.alloc (.cells c0.toArray T0)).alloc (.cells c1.toArray T1)) T2 c2
  simp only [World.size_alloc] at h1 h2
  exact ⟨_, rfl, (h0.alloc _).alloc _, h1.alloc _, h2, (((Below.refl w.heap.size w).alloc (Nat.le_refl _) _).alloc (by simp) _).alloc (by simp; omega) _⟩
set_option maxHeartbeats 4000000 in
/-- The document's header with the Type of a tuple's family. -/
theorem typed_any {L : Lk} (h6 : L.Six) (tv : Value) (ht : tv.oneCell' = true) (t : Tu) (w : World) :
    Calls Try.prog 34 #[lkC L tv, tuC t] w fun e w' => e = .returned (lkC (typedL L t) tv) ∧ Below w.heap.size w w' := by
  obtain ⟨Y, hY, hl, htu, hz, hb⟩ := box3 w (lkL L tv) (tuL t) (lkL Lk.zero (.slice none 0 0)) 41 51 41
  rw [← zeroLk] at hY
  have n13 := (lk_ty L h6 tv).1
  have HS1 := Lib.hid (lk_set L h6 tv 2048)
  have HS2 := Lib.hid (lk_set { L with ty := 2048 } ⟨h6.d, h6.s⟩ tv 34525)
  have N2 := Lib.hid (lk_ty { L with ty := 2048 } ⟨h6.d, h6.s⟩ tv).1
  have H6 := Lib.hid (typed_six h6 t)
  have HTV := Lib.hid ht
  have hs6 := tu_six htu
  unfold lkC tuC
  obtain ⟨six, hsix⟩ : ∃ b, t.s.six = b := ⟨_, rfl⟩
  rw [hsix] at hs6
  have HTL : Hid (typedL L t = { L with ty := if six = true then 34525 else 2048 }) := Lib.hid (by rw [← hsix]; rfl)
  obtain ⟨C0, hC0⟩ : ∃ C, (lkL L tv).toArray = C := ⟨_, rfl⟩
  obtain ⟨C1, hC1⟩ : ∃ C, (tuL t).toArray = C := ⟨_, rfl⟩
  rw [hC0, hC1] at hY ⊢
  have HY := Lib.hid hY
  have HL := Lib.hid hl
  have HT := Lib.hid htu
  have HZ := Lib.hid hz
  have HB := Lib.hid hb
  have HN := Lib.hid n13
  have HX := Lib.hid hs6
  clear hY hl htu hz hb hC0 hC1 n13 hs6 hsix ht h6
  go_enter Try.func34, Try.ntmps34
  cases six with
  | false =>
    go_wp2_with (first
      | ((with_reducible show wpList _ _ _ (⟨none, .store 3 (.tmp 5) _, _, _, _, _⟩ :: _) _ _); rw [HY.out]; refine wpList_storeI_10 rfl (.tmp 5) _ rfl w.heap.size 13 (by rfl) 2048 (by rfl) 41 _ HL.out L.ty HN.out ?_; intro wa hla hna hba; rw [HS1.out] at hla; have HLa := Lib.hid hla; have HXa : wa.cell? ⟨w.heap.size + 1, 0, none⟩ = some (.bool false) := (World.cell?_of_block (hna _ (Nat.succ_ne_self _))).trans HX.out; have HZa := Lib.hid (show Blk wa 41 (w.heap.size + 1 + 1) _ from (hna _ (by omega)).trans HZ.out); have HBa := Lib.hid (HB.out.trans (hba.mono (Nat.le_refl _))); clear hla hna hba)
      | ((with_reducible show wpList _ _ _ (⟨some 10, _, _, _, _, _⟩ :: _) _ _); refine wpList_loadM 41 _ rfl (by rfl) w.heap.size 0 (by rfl) (lkL { L with ty := 2048 } tv) (Blk_10.range HLa.out) _ Try.underlying41 rfl (sizeLkL (show ({ L with ty := 2048 } : Lk).Six from ⟨H6.out.d, H6.out.s⟩) _) ?_)
      | ((with_reducible show wpList _ _ _ (⟨none, .store 41 (.tmp 4) _, _, _, _, _⟩ :: _) _ _); refine wpList_storeR_10 rfl 41 _ _ rfl (w.heap.size + 1 + 1) (by rfl) (lkL { L with ty := 2048 } tv) (by rfl) _ HZa.out (by rw [lkL_len (show ({ L with ty := 2048 } : Lk).Six from ⟨H6.out.d, H6.out.s⟩), lkL_len (L := Lk.zero) ⟨rfl, rfl⟩]) (sizeLkL (show ({ L with ty := 2048 } : Lk).Six from ⟨H6.out.d, H6.out.s⟩) _) (lkL_one _ _ HTV.out) ?_))
    refine bodyPost_ret (v := lkC { L with ty := 2048 } tv) (results_lk1 rfl _ _ (w.heap.size + 1 + 1) (by rfl) _ (show ({ L with ty := 2048 } : Lk).Six from ⟨H6.out.d, H6.out.s⟩) _ (Blk_10.setRow_ HZa.out _)) rfl ?_
    exact ⟨by rw [HTL.out]; rfl, below_setRow HBa.out (by omega) _⟩
  | true =>
    go_wp2_with (first
      | ((with_reducible show wpList _ _ _ (⟨none, .store 3 (.tmp 5) _, _, _, _, _⟩ :: _) _ _); rw [HY.out]; refine wpList_storeI_10 rfl (.tmp 5) _ rfl w.heap.size 13 (by rfl) 2048 (by rfl) 41 _ HL.out L.ty HN.out ?_; intro wa hla hna hba; rw [HS1.out] at hla; have HLa := Lib.hid hla; have HXa : wa.cell? ⟨w.heap.size + 1, 0, none⟩ = some (.bool true) := (World.cell?_of_block (hna _ (Nat.succ_ne_self _))).trans HX.out; have HZa := Lib.hid (show Blk wa 41 (w.heap.size + 1 + 1) _ from (hna _ (by omega)).trans HZ.out); have HBa := Lib.hid (HB.out.trans (hba.mono (Nat.le_refl _))); clear hla hna hba)
      | ((with_reducible show wpList _ _ _ (⟨none, .store 3 (.tmp 9) _, _, _, _, _⟩ :: _) _ _); refine wpList_storeI_10 rfl (.tmp 9) _ rfl w.heap.size 13 (by rfl) 34525 (by rfl) 41 _ HLa.out 2048 N2.out ?_; intro wb hlb hnb hbb; rw [HS2.out] at hlb; have HLb := Lib.hid hlb; have HZb := Lib.hid (show Blk wb 41 (w.heap.size + 1 + 1) _ from (hnb _ (by omega)).trans HZa.out); have HBb := Lib.hid (HBa.out.trans (hbb.mono (Nat.le_refl _))); clear hlb hnb hbb)
      | ((with_reducible show wpList _ _ _ (⟨some 10, _, _, _, _, _⟩ :: _) _ _); refine wpList_loadM 41 _ rfl (by rfl) w.heap.size 0 (by rfl) (lkL { L with ty := 34525 } tv) (Blk_10.range HLb.out) _ Try.underlying41 rfl (sizeLkL (show ({ L with ty := 34525 } : Lk).Six from ⟨H6.out.d, H6.out.s⟩) _) ?_)
      | ((with_reducible show wpList _ _ _ (⟨none, .store 41 (.tmp 4) _, _, _, _, _⟩ :: _) _ _); refine wpList_storeR_10 rfl 41 _ _ rfl (w.heap.size + 1 + 1) (by rfl) (lkL { L with ty := 34525 } tv) (by rfl) _ HZb.out (by rw [lkL_len (show ({ L with ty := 34525 } : Lk).Six from ⟨H6.out.d, H6.out.s⟩), lkL_len (L := Lk.zero) ⟨rfl, rfl⟩]) (sizeLkL (show ({ L with ty := 34525 } : Lk).Six from ⟨H6.out.d, H6.out.s⟩) _) (lkL_one _ _ HTV.out) ?_))
    refine bodyPost_ret (v := lkC { L with ty := 34525 } tv) (results_lk1 rfl _ _ (w.heap.size + 1 + 1) (by rfl) _ (show ({ L with ty := 34525 } : Lk).Six from ⟨H6.out.d, H6.out.s⟩) _ (Blk_10.setRow_ HZb.out _)) rfl ?_
    exact ⟨by rw [HTL.out]; rfl, below_setRow HBb.out (by omega) _⟩
end Go.Proofs.Ytomkfcpellcncaa
