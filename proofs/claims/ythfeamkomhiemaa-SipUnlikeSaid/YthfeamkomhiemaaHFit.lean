/-
  The document's Fit and Bytes.
-/
import Derived.Test.YthfeamkomhiemaaHROf
import Derived.Test.YthfeamkomhiemaaKRef1
namespace Go.Proofs.Ythfeamkomhiemaa
set_option maxRecDepth 100000
open Go.RowKit Go.Lib

def fitT (t : Tu) : Bool := t.s.six == t.d.six && decide (0 ≤ t.pr) && decide (t.pr ≤ 255) && decide (0 ≤ t.sp) && decide (t.sp ≤ 65535) && decide (0 ≤ t.dp) && decide (t.dp ≤ 65535)
theorem fitT_yes {t : Tu} (h : fitT t = true) : t.Fit := by
  unfold fitT at h
  simp only [Bool.and_eq_true, beq_iff_eq, decide_eq_true_eq] at h
  obtain ⟨⟨⟨⟨⟨⟨h0, h1⟩, h2⟩, h3⟩, h4⟩, h5⟩, h6⟩ := h
  exact ⟨h0, ⟨h1, h2⟩, ⟨h3, h4⟩, ⟨h5, h6⟩⟩
/-- A tuple in its box. -/
theorem box_tu1 (w : World) (t : Tu) : ∃ Y : World, w.alloc (.cells (tuL t).toArray 34) = Y ∧ Blk Y 34 w.heap.size (tuL t) ∧ Below w.heap.size w Y ∧ Y.heap.size = w.heap.size + 1 :=
  ⟨_, rfl, Blk_10.new w 34 (tuL t), (Below.refl w.heap.size w).alloc (Nat.le_refl _) _, World.size_alloc _ _⟩
theorem tu_dix {T : TypeId} {w : World} {g : Nat} {t : Tu} (h : Blk w T g (tuL t)) (ho : t.Ok) : w.cell? ⟨g, 17, none⟩ = some (.bool t.d.six) := by
  have := tu_dst h ho 0 (.bool t.d.six) rfl
  exact this
set_option maxHeartbeats 8000000 in
theorem rfit_any {t : Tu} (ho : t.Ok) (w : World) : Calls Try.prog 11 #[tuC t] w fun e w' => e = .returned (.bool (fitT t)) ∧ Below w.heap.size w w' := by
  obtain ⟨Y, hY, hb, hbel, _⟩ := box_tu1 w t
  have d0 := tu_six hb
  have d1 := tu_dix hb ho
  obtain ⟨d2, d3, d4⟩ := tu_num hb ho
  obtain ⟨C, hC⟩ : ∃ C, (tuL t).toArray = C := ⟨_, rfl⟩
  unfold tuC
  rw [hC] at hY ⊢
  rw [← hY] at d0 d1 d2 d3 d4 hbel
  have HB := Lib.hid hbel
  obtain ⟨r, hr⟩ : ∃ r, fitT t = r := ⟨_, rfl⟩
  rw [hr]
  unfold fitT at hr
  obtain ⟨a, ha⟩ : ∃ a, t.s.six = a := ⟨_, rfl⟩
  obtain ⟨b, hb2⟩ : ∃ b, t.d.six = b := ⟨_, rfl⟩
  obtain ⟨p, hp⟩ : ∃ p, t.pr = p := ⟨_, rfl⟩
  obtain ⟨s, hs⟩ : ∃ s, t.sp = s := ⟨_, rfl⟩
  obtain ⟨d, hd⟩ : ∃ d, t.dp = d := ⟨_, rfl⟩
  rw [ha] at d0 hr
  rw [hb2] at d1 hr
  rw [hp] at d2 hr
  rw [hs] at d3 hr
  rw [hd] at d4 hr
  clear hY hbel hb ha hb2 hp hs hd hC ho
  by_cases h0 : (a == b) = true
  · by_cases h1 : 0 ≤ p
    · by_cases h2 : p ≤ 255
      · by_cases h3 : 0 ≤ s
        · by_cases h4 : s ≤ 65535
          · by_cases h5 : 0 ≤ d
            · by_cases h6 : d ≤ 65535
              · have hv : r = true := by rw [← hr, h0, decide_eq_true h1, decide_eq_true h2, decide_eq_true h3, decide_eq_true h4, decide_eq_true h5, decide_eq_true h6]; rfl
                subst hv
                clear hr
                have e0 := h0
                clear h0
                go_enter Try.func11, Try.ntmps11
                go_wp2_with fail
                go_ret
                exact ⟨rfl, HB.out⟩
              · have hv : r = false := by rw [← hr, h0, decide_eq_true h1, decide_eq_true h2, decide_eq_true h3, decide_eq_true h4, decide_eq_true h5, decide_eq_false h6]; rfl
                subst hv
                clear hr
                have e0 := h0
                clear h0
                go_enter Try.func11, Try.ntmps11
                go_wp2_with fail
                go_ret
                exact ⟨rfl, HB.out⟩
            · have hv : r = false := by rw [← hr, h0, decide_eq_true h1, decide_eq_true h2, decide_eq_true h3, decide_eq_true h4, decide_eq_false h5]; rfl
              subst hv
              clear hr
              have e0 := h0
              clear h0
              go_enter Try.func11, Try.ntmps11
              go_wp2_with fail
              go_ret
              exact ⟨rfl, HB.out⟩
          · have hv : r = false := by rw [← hr, h0, decide_eq_true h1, decide_eq_true h2, decide_eq_true h3, decide_eq_false h4]; rfl
            subst hv
            clear hr
            have e0 := h0
            clear h0
            go_enter Try.func11, Try.ntmps11
            go_wp2_with fail
            go_ret
            exact ⟨rfl, HB.out⟩
        · have hv : r = false := by rw [← hr, h0, decide_eq_true h1, decide_eq_true h2, decide_eq_false h3]; rfl
          subst hv
          clear hr
          have e0 := h0
          clear h0
          go_enter Try.func11, Try.ntmps11
          go_wp2_with fail
          go_ret
          exact ⟨rfl, HB.out⟩
      · have hv : r = false := by rw [← hr, h0, decide_eq_true h1, decide_eq_false h2]; rfl
        subst hv
        clear hr
        have e0 := h0
        clear h0
        go_enter Try.func11, Try.ntmps11
        go_wp2_with fail
        go_ret
        exact ⟨rfl, HB.out⟩
    · have hv : r = false := by rw [← hr, h0, decide_eq_false h1]; rfl
      subst hv
      clear hr
      have e0 := h0
      clear h0
      go_enter Try.func11, Try.ntmps11
      go_wp2_with fail
      go_ret
      exact ⟨rfl, HB.out⟩
  · have hv : r = false := by rw [← hr, Bool.eq_false_iff.2 h0]; rfl
    subst hv
    clear hr
    have e0 : (a == b) = false := Bool.eq_false_iff.2 h0
    clear h0
    go_enter Try.func11, Try.ntmps11
    go_wp2_with fail
    go_ret
    exact ⟨rfl, HB.out⟩
end Go.Proofs.Ythfeamkomhiemaa
