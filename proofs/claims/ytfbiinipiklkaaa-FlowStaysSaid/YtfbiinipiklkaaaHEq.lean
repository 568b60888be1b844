/-
  Two tuples compared, whatever they are.
-/
import Derived.Test.YtfbiinipiklkaaaHROf
import Derived.Test.YtfbiinipiklkaaaKRef1
namespace Go.Proofs.Ytfbiinipiklkaaa
set_option maxRecDepth 100000
open Go.RowKit Go.Lib
def tuG (t u : Tu) (i : Nat) : Bool := if i = 0 then adB t.s u.s else if i = 1 then adB t.d u.d else if i = 2 then t.pr == u.pr else if i = 3 then t.sp == u.sp else t.dp == u.dp
def tuQ (t u : Tu) : Bool := adB t.s u.s && (adB t.d u.d && (t.pr == u.pr && (t.sp == u.sp && (t.dp == u.dp && true))))
theorem tuQ_self (t : Tu) : tuQ t t = true := by simp [tuQ, adB_refl]
theorem tuQ_ne {t u : Tu} (h : t ≠ u) : tuQ t u = false := by
  apply Bool.eq_false_iff.2
  intro e
  apply h
  unfold tuQ at e
  simp only [Bool.and_eq_true, beq_iff_eq, adB_eq, and_true] at e
  obtain ⟨h1, h2, h3, h4, h5⟩ := e
  obtain ⟨s, d, p, sp, dp⟩ := t
  obtain ⟨s', d', p', sp', dp'⟩ := u
  simp only at h1 h2 h3 h4 h5
  subst h1 h2 h3 h4 h5
  rfl
theorem eq_ints (w : World) (d : Nat) (m n : Int) : (Op.equalIn (d + 1) 3 (.int .i64 m) (.int .i64 n)).run Try.prog w = .ok (m == n) w := by
  rw [run_equalIn_int w d 3 .i64 _ _ _ Try.underlying3]
theorem run_eqs_tu (w : World) (d : Nat) {t u : Tu} (h : t.Ok) (k : u.Ok) : (Op.equalIn (d + 4) 26 (tuC t) (tuC u)).run Try.prog w = .ok (tuQ t u) w := by
  unfold tuC
  rw [run_equalIn_agg w (d + 3) _ _ _ under_tu held_tu]
  obtain ⟨o, hf⟩ := fields_tu
  have es := run_eq_ad w d h.s k.s
  have ed := run_eq_ad w d h.d k.d
  have ps := part_ad w (tuL_src h)
  have pd := part_ad w (tuL_dst h)
  have qs := part_ad w (tuL_src k)
  have qd := part_ad w (tuL_dst k)
  rw [hf, run_fields w (d + 3) _ _ (tuG t u) _ 0 ?_]
  · simp [List.range', tuG, tuQ]
  · intro j f hj
    match j, hj with
    | 0, hj => cases hj; exact ⟨show ("Src" : String) ≠ "_" by decide, _, _, ps, qs, es⟩
    | 1, hj => cases hj; exact ⟨show ("Dst" : String) ≠ "_" by decide, _, _, pd, qd, ed⟩
    | 2, hj => cases hj; exact ⟨show ("Proto" : String) ≠ "_" by decide, _, _, part_int w (tuL_num h 0), part_int w (tuL_num k 0), eq_ints w (d + 2) _ _⟩
    | 3, hj => cases hj; exact ⟨show ("Sport" : String) ≠ "_" by decide, _, _, part_int w (tuL_num h 1), part_int w (tuL_num k 1), eq_ints w (d + 2) _ _⟩
    | 4, hj => cases hj; exact ⟨show ("Dport" : String) ≠ "_" by decide, _, _, part_int w (tuL_num h 2), part_int w (tuL_num k 2), eq_ints w (d + 2) _ _⟩
theorem run_eqls_tu (w : World) {t u : Tu} (h : t.Ok) (k : u.Ok) : (binOp .eql 26 (tuC t) (tuC u)).run Try.prog w = .ok (.bool (tuQ t u)) w := by
  have := run_eqs_tu w 9996 h k
  unfold tuC at this ⊢
  rw [run_eql_struct, this, Result.andThen_ok]
end Go.Proofs.Ytfbiinipiklkaaa
