/-
  packet.netHeader.
-/
import Derived.Test.YtdkaaffghendiaaKPMay
import Derived.Test.YtdkaaffghendiaaKMake
namespace Go.Proofs.Ytdkaaffghendiaa
open Go.RowKit Go.Lib

theorem built_4 (T pr : Int) (s d : Ad) (hs : s.b.length = 16) (hd : d.b.length = 16) : Try.prog.built 60 [(0, .int .i64 20), (1, .int .i64 T), (5, .bool true), (6, .int .i64 64), (7, .int .i64 pr), (8, adC s), (9, adC d)] = some (frL_8 ⟨20, T, 0, 0, false, true, 64, pr, s, d⟩).toArray := by
  obtain ⟨s6, sb⟩ := s
  obtain ⟨d6, db⟩ := d
  obtain ⟨a0, a1, a2, a3, a4, a5, a6, a7, a8, a9, a10, a11, a12, a13, a14, a15, rfl⟩ := sixteen hs
  obtain ⟨b0, b1, b2, b3, b4, b5, b6, b7, b8, b9, b10, b11, b12, b13, b14, b15, rfl⟩ := sixteen hd
  kernel_rfl
set_option maxHeartbeats 2000000 in
theorem nethead_4 {t : Tu} (h : t.Ok) (hs : t.s.six = false) {n : Nat} (hr : rightB (four4 t n) = true) (T : Int) (hT : T = ((20 + n : Nat) : Int)) (w : World) :
    Calls Try.prog 32 #[tuC t, .int .i64 T] w fun e w' => ∃ v, e = .returned v ∧ Own8 w' w.heap.size v (putF (four4 t n)) ∧ Below w.heap.size w w' := by
  subst hT
  obtain ⟨Y, hY⟩ : ∃ Y : World, w.alloc (.cells (tuL t).toArray 28) = Y := ⟨_, rfl⟩
  have HQ := Lib.hid (show Blk Y 28 w.heap.size (tuL t) by rw [← hY]; exact Blk_10.new w _ _)
  have HB := Lib.hid (show Below w.heap.size w Y by rw [← hY]; exact (Below.refl w.heap.size w).alloc (Nat.le_refl _) _)
  have d0 := tu_six HQ.out
  obtain ⟨n0, _, _⟩ := tu_num HQ.out h
  have HP := Lib.hid (fun W => put_yes_8 (f := four4 t n) ⟨h.s, h.d⟩ hr W)
  have HO := Lib.hid h
  rw [hs] at d0
  unfold tuC
  obtain ⟨C, hC⟩ : ∃ C, (tuL t).toArray = C := ⟨_, rfl⟩
  rw [hC] at hY ⊢
  have HY := Lib.hid hY
  rw [← HY.out] at d0 n0
  obtain ⟨NN, hNN⟩ : ∃ N, 20 + n = N := ⟨_, rfl⟩
  have HV := Lib.hid (show four4 t n = ⟨20, (NN : Int), 0, 0, false, true, 64, t.pr, t.s, t.d⟩ by rw [← hNN]; rfl)
  rw [HV.out] at HP ⊢
  rw [hNN]
  clear hY h hs hr hC hNN
  go_enter Try.func32, Try.ntmps32
  go_wp2_with (first
    | ((with_reducible show wpList _ _ _ (⟨some 26, _, _, _, _, _⟩ :: _) _ _); rw [HY.out]; refine wpList_loadAd (op := ⟨some 26, _, _, _, _, _⟩) _ rfl (by rfl) w.heap.size 0 (by rfl) t.s HO.out.s (tu_src HQ.out) ?_)
    | ((with_reducible show wpList _ _ _ (⟨some 28, _, _, _, _, _⟩ :: _) _ _); refine wpList_loadAd (op := ⟨some 28, _, _, _, _, _⟩) _ rfl (by rfl) w.heap.size 17 (by rfl) t.d HO.out.d (tu_dst HQ.out HO.out) ?_)
    | ((with_reducible show wpList _ _ _ (⟨some 29, _, _, _, _, _⟩ :: _) _ _); refine wpList_buildw (op := ⟨some 29, _, _, _, _, _⟩) 60 _ rfl (by rfl) _ (by kernel_rfl) (frL_8 ⟨20, (NN : Int), 0, 0, false, true, 64, t.pr, t.s, t.d⟩).toArray (built_4 _ _ _ _ HO.out.s HO.out.d) ?_))
  refine (HP.out _).mono ?_
  rintro e w3 ⟨v, rfl, ho3, hb3⟩
  go_wp2_with fail
  go_ret
  exact ⟨v, rfl, ho3.base_le HB.out.size, HB.out.trans (hb3.mono HB.out.size)⟩
set_option maxHeartbeats 2000000 in
theorem nethead_6 {t : Tu} (h : t.Ok) (hs : t.s.six = true) {n : Nat} (hr : rightB_9 (six6 t n) = true) (T : Int) (hT : T = ((40 + n : Nat) : Int)) (w : World) :
    Calls Try.prog 32 #[tuC t, .int .i64 T] w fun e w' => ∃ v, e = .returned v ∧ Own8 w' w.heap.size v (putF_9 (six6 t n)) ∧ Below w.heap.size w w' := by
  subst hT
  obtain ⟨Y, hY⟩ : ∃ Y : World, w.alloc (.cells (tuL t).toArray 28) = Y := ⟨_, rfl⟩
  have HQ := Lib.hid (show Blk Y 28 w.heap.size (tuL t) by rw [← hY]; exact Blk_10.new w _ _)
  have HB := Lib.hid (show Below w.heap.size w Y by rw [← hY]; exact (Below.refl w.heap.size w).alloc (Nat.le_refl _) _)
  have d0 := tu_six HQ.out
  obtain ⟨n0, _, _⟩ := tu_num HQ.out h
  have HP := Lib.hid (fun W => put_yes_9 (f := six6 t n) ⟨h.s, h.d⟩ hr W)
  have HO := Lib.hid h
  rw [hs] at d0
  unfold tuC
  obtain ⟨C, hC⟩ : ∃ C, (tuL t).toArray = C := ⟨_, rfl⟩
  rw [hC] at hY ⊢
  have HY := Lib.hid hY
  rw [← HY.out] at d0 n0
  obtain ⟨NN, hNN⟩ : ∃ N, 40 + n = N := ⟨_, rfl⟩
  have HV := Lib.hid (show six6 t n = ⟨40, (NN : Int), 64, false, 0, t.pr, t.s, t.d⟩ by rw [← hNN]; rfl)
  rw [HV.out] at HP ⊢
  rw [hNN]
  clear hY h hs hr hC hNN
  go_enter Try.func32, Try.ntmps32
  go_wp2_with (first
    | ((with_reducible show wpList _ _ _ (⟨some 14, _, _, _, _, _⟩ :: _) _ _); rw [HY.out]; refine wpList_loadAd (op := ⟨some 14, _, _, _, _, _⟩) _ rfl (by rfl) w.heap.size 0 (by rfl) t.s HO.out.s (tu_src HQ.out) ?_)
    | ((with_reducible show wpList _ _ _ (⟨some 16, _, _, _, _, _⟩ :: _) _ _); refine wpList_loadAd (op := ⟨some 16, _, _, _, _, _⟩) _ rfl (by rfl) w.heap.size 17 (by rfl) t.d HO.out.d (tu_dst HQ.out HO.out) ?_)
    | ((with_reducible show wpList _ _ _ (⟨some 17, _, _, _, _, _⟩ :: _) _ _); refine wpList_buildw (op := ⟨some 17, _, _, _, _, _⟩) 64 _ rfl (by rfl) _ (by kernel_rfl) (frL_9 ⟨40, (NN : Int), 64, false, 0, t.pr, t.s, t.d⟩).toArray (built_at_9 _ _ _ _ _ _ HO.out.s HO.out.d) ?_))
  refine (HP.out _).mono ?_
  rintro e w3 ⟨v, rfl, ho3, hb3⟩
  go_wp2_with fail
  go_ret
  exact ⟨v, rfl, ho3.base_le HB.out.size, HB.out.trans (hb3.mono HB.out.size)⟩
/-- packet.netHeader, of what may be made. -/
theorem nethead_any {L : Lk} {t : Tu} {f : Int} (h : t.Ok) (hm : MakeOk L t f) {n : Nat} (hn : ihN t + n ≤ 65535) (T : Int) (hT : T = ((ihN t + n : Nat) : Int)) (w : World) :
    Calls Try.prog 32 #[tuC t, .int .i64 T] w fun e w' => ∃ v, e = .returned v ∧ Own8 w' w.heap.size v (headK t n) ∧ Below w.heap.size w w' := by
  cases hs : t.s.six
  · have hi : ihN t = 20 := by unfold ihN; rw [hs]; rfl
    have hk : headK t n = putF (four4 t n) := by unfold headK; rw [hs]; rfl
    rw [hi] at hn hT
    rw [hk]
    exact nethead_4 h hs (four_right hm hs (by omega)) T hT w
  · have hi : ihN t = 40 := by unfold ihN; rw [hs]; rfl
    have hk : headK t n = putF_9 (six6 t n) := by unfold headK; rw [hs]; rfl
    rw [hi] at hn hT
    rw [hk]
    exact nethead_6 h hs (six_right hm hs (by omega)) T hT w
end Go.Proofs.Ytdkaaffghendiaa
