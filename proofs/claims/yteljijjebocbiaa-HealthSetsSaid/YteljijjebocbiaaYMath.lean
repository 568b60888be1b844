/-
  Plain mathematics of stage 19: healths, steps, runs. No program is walked here.
-/
import Derived.Test.YteljijjebocbiaaLess
namespace Go.Proofs.Yteljijjebocbiaa
open Go.RowKit Go.Lib

/-- A health. -/
structure Hl where
  nm : List UInt8
  dn : Bool
  run : Int
def brZ (n : Int) : Int := if n < 1 then 1 else if 100 < n then 100 else n
theorem brZ_low (n : Int) : 1 ≤ brZ n ∧ brZ n ≤ 100 := by unfold brZ; split <;> (try split) <;> omega
def rnZ (n : Int) : Int := if n < 0 then 0 else n
theorem rnZ_low (n : Int) : 0 ≤ rnZ n := by unfold rnZ; split <;> omega
/-- A step: the health behind it, and whether it turned. -/
def stepH (rise fall : Int) (h : Hl) (well : Bool) : Hl × Bool :=
  if well = h.dn then
    if brZ (if h.dn = true then rise else fall) ≤ rnZ h.run + 1 then (⟨h.nm, !h.dn, 0⟩, true) else (⟨h.nm, h.dn, rnZ h.run + 1⟩, false)
  else (⟨h.nm, h.dn, 0⟩, false)
theorem step_nm (rise fall : Int) (h : Hl) (b : Bool) : (stepH rise fall h b).1.nm = h.nm := by
  unfold stepH
  by_cases h1 : b = h.dn
  · rw [if_pos h1]
    by_cases h2 : brZ (if h.dn = true then rise else fall) ≤ rnZ h.run + 1
    · rw [if_pos h2]
    · rw [if_neg h2]
  · rw [if_neg h1]
def cntZ (b : Bool) : Int := if b = true then 1 else 0
theorem cntZ_low (b : Bool) : 0 ≤ cntZ b ∧ cntZ b ≤ 1 := by cases b <;> decide
def goH (rise fall : Int) (s : Hl × Int) (b : Bool) : Hl × Int := ((stepH rise fall s.1 b).1, s.2 + cntZ (stepH rise fall s.1 b).2)
/-- Results, one behind the other: the health, and how often it turned. -/
def runH (rise fall : Int) (h : Hl) (l : List Bool) : Hl × Int := l.foldl (goH rise fall) (h, 0)
theorem run_nil (rise fall : Int) (h : Hl) : runH rise fall h [] = (h, 0) := rfl
theorem run_snoc (rise fall : Int) (h : Hl) (l : List Bool) (b : Bool) : runH rise fall h (l ++ [b]) = goH rise fall (runH rise fall h l) b := by
  unfold runH
  rw [List.foldl_append]
  rfl
theorem run_from (rise fall : Int) : ∀ (l : List Bool) (h : Hl) (n : Int), l.foldl (goH rise fall) (h, n) = ((runH rise fall h l).1, n + (runH rise fall h l).2)
  | [], h, n => by simp [runH]
  | b :: l, h, n => by
    have e1 : (b :: l).foldl (goH rise fall) (h, n) = l.foldl (goH rise fall) ((stepH rise fall h b).1, n + cntZ (stepH rise fall h b).2) := rfl
    have e2 : runH rise fall h (b :: l) = l.foldl (goH rise fall) ((stepH rise fall h b).1, 0 + cntZ (stepH rise fall h b).2) := rfl
    rw [e1, e2, run_from rise fall l, run_from rise fall l]
    refine Prod.ext rfl ?_
    show n + _ + _ = n + (0 + _ + _)
    omega
theorem run_cons (rise fall : Int) (h : Hl) (b : Bool) (l : List Bool) : runH rise fall h (b :: l) = ((runH rise fall (stepH rise fall h b).1 l).1, cntZ (stepH rise fall h b).2 + (runH rise fall (stepH rise fall h b).1 l).2) := by
  have e2 : runH rise fall h (b :: l) = l.foldl (goH rise fall) ((stepH rise fall h b).1, 0 + cntZ (stepH rise fall h b).2) := rfl
  rw [e2, run_from, Int.zero_add]
theorem run_append (rise fall : Int) (h : Hl) (l m : List Bool) : runH rise fall h (l ++ m) = ((runH rise fall (runH rise fall h l).1 m).1, (runH rise fall h l).2 + (runH rise fall (runH rise fall h l).1 m).2) := by
  have e : runH rise fall h (l ++ m) = m.foldl (goH rise fall) (runH rise fall h l) := by unfold runH; rw [List.foldl_append]
  rw [e]
  obtain ⟨g, n⟩ := runH rise fall h l
  exact run_from rise fall m g n
theorem run_nm (rise fall : Int) : ∀ (l : List Bool) (h : Hl), (runH rise fall h l).1.nm = h.nm
  | [], _ => rfl
  | b :: l, h => by
    rw [run_cons]
    show (runH rise fall _ l).1.nm = _
    rw [run_nm rise fall l, step_nm]
theorem run_count (rise fall : Int) : ∀ (l : List Bool) (h : Hl), 0 ≤ (runH rise fall h l).2 ∧ (runH rise fall h l).2 ≤ (l.length : Int)
  | [], _ => ⟨Int.le_refl _, Int.le_refl _⟩
  | b :: l, h => by
    rw [run_cons]
    have h1 := run_count rise fall l (stepH rise fall h b).1
    have h2 := cntZ_low (stepH rise fall h b).2
    rw [List.length_cons]
    show 0 ≤ _ + _ ∧ _ + _ ≤ _
    omega
/-- The stretches of the law: the last result, how many of it stand at the end, whether it is down, how often that turned. -/
structure Str where
  last : Option Bool
  n : Int
  down : Bool
  long : Int
def strF (rise fall : Int) (s : Str) (b : Bool) : Str :=
  let n := if s.last = some b then s.n + 1 else 1
  let hit : Bool := decide (n = if b = true then rise else fall)
  ⟨some b, n, if hit = true then !b else s.down, s.long + if hit = true ∧ s.down = b then 1 else 0⟩
def strL (rise fall : Int) (l : List Bool) : Str := l.foldl (strF rise fall) ⟨none, 0, false, 0⟩
theorem str_snoc (rise fall : Int) (l : List Bool) (b : Bool) : strL rise fall (l ++ [b]) = strF rise fall (strL rise fall l) b := by
  unfold strL
  rw [List.foldl_append]
  rfl
/-- What both ways of telling it come to. -/
structure Tell (rise fall : Int) (s : Str) (r : Hl × Int) : Prop where
  down : r.1.dn = s.down
  long : r.2 = s.long
  eq : ∀ b, s.last = some b → b = s.down → r.1.run = s.n ∧ 1 ≤ s.n ∧ s.n < (if b = true then rise else fall)
  ne : ∀ b, s.last = some b → b ≠ s.down → r.1.run = 0
  none_ : s.last = none → r.1.run = 0
theorem brZ_id {n : Int} (h1 : 1 ≤ n) (h2 : n ≤ 100) : brZ n = n := by
  unfold brZ
  rw [if_neg (by omega), if_neg (by omega)]
theorem step_no {rise fall : Int} {h : Hl} {b : Bool} (hb : b ≠ h.dn) : stepH rise fall h b = (⟨h.nm, h.dn, 0⟩, false) := if_neg hb
theorem step_turn {rise fall : Int} {h : Hl} {b : Bool} (hb : b = h.dn) (ht : brZ (if h.dn = true then rise else fall) ≤ rnZ h.run + 1) : stepH rise fall h b = (⟨h.nm, !h.dn, 0⟩, true) := by
  unfold stepH
  rw [if_pos hb, if_pos ht]
theorem step_more {rise fall : Int} {h : Hl} {b : Bool} (hb : b = h.dn) (ht : ¬ brZ (if h.dn = true then rise else fall) ≤ rnZ h.run + 1) : stepH rise fall h b = (⟨h.nm, h.dn, rnZ h.run + 1⟩, false) := by
  unfold stepH
  rw [if_pos hb, if_neg ht]
theorem tell_step {rise fall : Int} (h1 : 1 ≤ rise) (h2 : rise ≤ 100) (h3 : 1 ≤ fall) (h4 : fall ≤ 100) {s : Str} {r : Hl × Int} (h : Tell rise fall s r) (b : Bool) : Tell rise fall (strF rise fall s b) (goH rise fall r b) := by
  obtain ⟨g, m⟩ := r
  obtain ⟨e1, e2, e3, e4, e5⟩ := h
  simp only at e1 e2 e3 e4 e5
  -- how many stand at the end now, and what the step is
  obtain ⟨n, hn⟩ : ∃ n, (if s.last = some b then s.n + 1 else 1) = n := ⟨_, rfl⟩
  obtain ⟨t, ht⟩ : ∃ t, (if b = true then rise else fall) = t := ⟨_, rfl⟩
  have ht1 : 1 ≤ t ∧ t ≤ 100 := by rw [← ht]; split <;> omega
  have hF : strF rise fall s b = ⟨some b, n, if decide (n = t) = true then !b else s.down, s.long + if decide (n = t) = true ∧ s.down = b then 1 else 0⟩ := by
    unfold strF
    simp only [hn, ht]
  rw [hF]
  unfold goH
  simp only
  by_cases hb : b = g.dn
  · have hbr : brZ (if g.dn = true then rise else fall) = t := by rw [← hb, ht]; exact brZ_id ht1.1 ht1.2
    -- the run so far
    have hrun : rnZ g.run + 1 = n ∧ n ≤ t := by
      by_cases hl : s.last = some b
      · obtain ⟨k1, k2, k3⟩ := e3 b hl (by rw [← e1]; exact hb)
        rw [if_pos hl] at hn
        rw [ht] at k3
        unfold rnZ
        rw [k1, if_neg (by omega)]
        omega
      · rw [if_neg hl] at hn
        have k0 : g.run = 0 := by
          cases hq : s.last with
          | none => exact e5 hq
          | some c => exact e4 c hq (fun e => hl (by rw [hq, e, ← e1, hb]))
        unfold rnZ
        rw [k0, if_neg (by omega)]
        omega
    by_cases hnt : n = t
    · have hst : stepH rise fall g b = (⟨g.nm, !g.dn, 0⟩, true) := step_turn hb (by rw [hbr]; omega)
      rw [hst, decide_eq_true hnt, if_pos rfl, if_pos ⟨rfl, by rw [← e1]; exact hb.symm⟩]
      refine ⟨by show (!g.dn) = !b; rw [hb], by show m + 1 = s.long + 1; rw [e2], fun c hc hd => ?_, fun c _ _ => rfl, fun hc => by cases hc⟩
      cases hc
      exact absurd hd (show ¬ b = !b by cases b <;> decide)
    · have hst : stepH rise fall g b = (⟨g.nm, g.dn, rnZ g.run + 1⟩, false) := step_more hb (by rw [hbr]; omega)
      rw [hst, decide_eq_false hnt, if_neg (by decide), if_neg (by rintro ⟨h, _⟩; cases h)]
      refine ⟨e1, by show m + 0 = s.long + 0; rw [e2], fun c hc _ => ?_, fun c hc hne => ?_, fun hc => by cases hc⟩
      · cases hc
        rw [ht]
        refine ⟨hrun.1, ?_, by show n < t; omega⟩
        show 1 ≤ n
        have := rnZ_low g.run
        omega
      · cases hc
        exact absurd (by rw [← e1]; exact hb) hne
  · have hst : stepH rise fall g b = (⟨g.nm, g.dn, 0⟩, false) := step_no hb
    have hdn : g.dn = !b := by cases b <;> cases hg : g.dn <;> simp_all
    rw [hst, if_neg (show ¬ (decide (n = t) = true ∧ s.down = b) from fun h => hb (by rw [e1]; exact h.2.symm))]
    have hd : (if decide (n = t) = true then !b else s.down) = g.dn := by
      split
      · exact hdn.symm
      · exact e1.symm
    rw [hd]
    refine ⟨rfl, by show m + 0 = s.long + 0; rw [e2], fun c hc he => ?_, fun _ _ _ => rfl, fun hc => by cases hc⟩
    cases hc
    exact absurd he hb
theorem tell_all {rise fall : Int} (h1 : 1 ≤ rise) (h2 : rise ≤ 100) (h3 : 1 ≤ fall) (h4 : fall ≤ 100) (nm : List UInt8) (l : List Bool) : ∀ k, k ≤ l.length → Tell rise fall (strL rise fall (l.take k)) (runH rise fall ⟨nm, false, 0⟩ (l.take k))
  | 0, _ => by
    rw [List.take_zero]
    exact ⟨rfl, rfl, fun _ h => (by cases h), fun _ h => (by cases h), fun _ => rfl⟩
  | k + 1, hk => by
    obtain ⟨b, hb⟩ : ∃ b, l[k]? = some b := ⟨_, List.getElem?_eq_getElem (by omega)⟩
    have e : l.take (k + 1) = l.take k ++ [b] := by rw [List.take_add_one, hb]; rfl
    rw [e, str_snoc, run_snoc]
    exact tell_step h1 h2 h3 h4 (tell_all h1 h2 h3 h4 nm l k (by omega)) b
end Go.Proofs.Yteljijjebocbiaa
