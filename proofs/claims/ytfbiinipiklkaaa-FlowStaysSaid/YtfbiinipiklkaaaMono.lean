/-
  No step takes back what has been drawn from the tape: what a call that returns has drawn is no less behind it. No program is walked here.
-/
import Derived.Test.YtfbiinipiklkaaaQB
namespace Go.Proofs.Ytfbiinipiklkaaa
set_option maxRecDepth 100000
open Go.RowKit Go.Lib

def Result.ge {α : Type} (d : Nat) : Result α → Prop
  | .ok _ w => d ≤ w.drawn
  | .halt _ w => d ≤ w.drawn
theorem ask_ge {α : Type} : ∀ (x : Ask α) (w : World), w.drawn ≤ (w.ask x).2.drawn
  | .done a, w => Nat.le_refl _
  | .ask what range k, w => by
    unfold World.ask
    dsimp only
    split
    · exact ask_ge _ w
    · exact Nat.le_trans (Nat.le_succ _) (ask_ge _ { w with drawn := w.drawn + 1 })
theorem sys_ge (w : World) (c : Sys) : w.drawn ≤ (w.sys c).2.drawn := by
  unfold World.sys
  have h := ask_ge (Kernel.perform c w.os) w
  split
  · exact Nat.le_refl _
  · rename_i heq
    rw [heq] at h
    exact h
theorem farStore_ge {p : Program} {w w' : World} {a : Addr} {v : Value} {b : Bool} {l : List Addr} (h : w.farStore p a v b = .ok (w', l)) : w.drawn ≤ w'.drawn := by
  unfold World.farStore at h
  split at h
  · split at h
    · rename_i r heq
      cases h
      unfold World.viewStore at heq
      simp only [bind, Except.bind, pure, Except.pure] at heq
      repeat' split at heq
      all_goals first
        | (cases heq; done)
        | (cases heq; exact Nat.le_refl _)
    · cases h
  · cases h
theorem freeze_drawn (w : World) (a : Addr) (n : Nat) : (w.freeze a n).drawn = w.drawn := by
  unfold World.freeze
  split <;> rfl
theorem run_ge {α : Type} (p : Program) (s : Sem α) : ∀ w : World, Result.ge w.drawn (s.run p w) := by
  induction s with
  | pure a => exact fun w => Nat.le_refl _
  | load m a k ih =>
    intro w
    simp only [Sem.run]
    repeat' split
    all_goals first
      | exact ih _ w
      | exact Nat.le_refl _
  | store m a v k ih =>
    intro w
    have h1 : ∀ u : Value, Result.ge w.drawn (match w.cell? a with
      | some _ => if w.frozen? a then .halt (.unsupported (.unsafePointer "a write to bytes that a string shares")) w else k.run p (w.setCell a u)
      | none => match w.farStore p a u (m == .atomic) with
        | .ok (w, _) => k.run p w
        | .error h => .halt h w) := by
      intro u
      split
      · split
        · exact Nat.le_refl _
        · exact ih (w.setCell a u)
      · split
        · rename_i w2 _ heq
          have h2 := farStore_ge heq
          have h3 := ih w2
          generalize k.run p w2 = q at h3 ⊢
          cases q <;> exact Nat.le_trans h2 h3
        · exact Nat.le_refl _
    cases v <;> first
      | exact Nat.le_refl _
      | exact h1 _
  | new o k ih => exact fun w => ih w.heap.size { w with heap := w.heap.push o }
  | shape r k ih => exact fun w => ih _ w
  | freeze a n k ih =>
    intro w
    have h := ih (w.freeze a n)
    rw [freeze_drawn] at h
    exact h
  | frozen a k ih => exact fun w => ih _ w
  | getObj r k ih =>
    intro w
    simp only [Sem.run]
    repeat' split
    all_goals first
      | exact ih _ w
      | exact Nat.le_refl _
  | setObj r o k ih =>
    intro w
    simp only [Sem.run]
    split
    · exact Nat.le_refl _
    · exact ih { w with heap := w.heap.setIfInBounds r o }
    · exact Nat.le_refl _
  | choose q k ih =>
    intro w
    simp only [Sem.run]
    split
    · exact ih 0 w
    · have h := ih (q.cut (w.tape w.drawn q)) { w with drawn := w.drawn + 1 }
      generalize Sem.run p (k (q.cut (w.tape w.drawn q))) { w with drawn := w.drawn + 1 } = r at h ⊢
      cases r <;> exact Nat.le_trans (Nat.le_succ _) h
  | sys c k ih =>
    intro w
    simp only [Sem.run]
    have h1 := sys_ge w c
    have h := ih (w.sys c).1 (w.sys c).2
    generalize Sem.run p (k (w.sys c).1) (w.sys c).2 = r at h ⊢
    cases r <;> exact Nat.le_trans h1 h
  | program k ih => exact fun w => ih p w
  | mark m k ih => exact fun w => ih w
  | halt h => exact fun w => Nat.le_refl _
theorem ok_ge {α : Type} {p : Program} {s : Sem α} {w w' : World} {v : α} (h : s.run p w = .ok v w') : w.drawn ≤ w'.drawn := by
  have := run_ge p s w
  rw [h] at this
  exact this
theorem halt_ge {α : Type} {p : Program} {s : Sem α} {w w' : World} {v : Halt} (h : s.run p w = .halt v w') : w.drawn ≤ w'.drawn := by
  have := run_ge p s w
  rw [h] at this
  exact this
def GStep.ge (d : Nat) : GStep → Prop
  | .go _ w _ => d ≤ w.drawn
  | .comm _ _ _ _ w _ => d ≤ w.drawn
  | .spawn _ _ w _ => d ≤ w.drawn
  | .count _ w _ => d ≤ w.drawn
  | .timer _ _ w _ => d ≤ w.drawn
  | .alone _ _ w _ => d ≤ w.drawn
  | .newcoro _ _ _ w _ => d ≤ w.drawn
  | .coroswitch _ _ _ w _ => d ≤ w.drawn
  | .collect _ w _ => d ≤ w.drawn
  | .watch _ w _ => d ≤ w.drawn
  | .ended _ _ _ => True
def Stepped.ge (d : Nat) : Stepped → Prop
  | .next m => d ≤ m.world.drawn
  | .ended _ _ => True
theorem after_ge {d : Nat} {es : Array Event} {s : GStep} (h : GStep.ge d s) : GStep.ge d (GStep.after es s) := by
  cases s <;> exact h
section
variable {p : Program} {d : Nat} {w : World}
theorem ite_ge {c : Prop} [Decidable c] {a b : GStep} (ha : GStep.ge d a) (hb : GStep.ge d b) : GStep.ge d (if c then a else b) := by
  split
  · exact ha
  · exact hb
theorem elim_ge {β : Type} {o : Option β} {b : GStep} {f : β → GStep} (hb : GStep.ge d b) (hf : ∀ x, GStep.ge d (f x)) : GStep.ge d (o.elim b f) := by
  cases o
  · exact hb
  · exact hf _
theorem endWith_ge (fd : Nat) (text : ByteArray) (o : Outcome) : GStep.ge d (endWith w fd text o) := by
  unfold endWith
  dsimp only
  repeat' split
  all_goals exact True.intro
theorem endPrinting_ge (h : d ≤ w.drawn) (fr : Frame) (v : Value) : GStep.ge d (endPrinting p fr v w) := by
  unfold endPrinting
  dsimp only
  split
  · exact h
  · exact True.intro
theorem endFatal_ge (h : d ≤ w.drawn) (fr : Frame) (cs : List Frame) (dy : Option Dying) (m : String) : GStep.ge d (endFatal p fr cs dy m w) := by
  unfold endFatal
  dsimp only
  split
  all_goals first
    | exact True.intro
    | exact h
    | exact Nat.le_trans h (ok_ge (by assumption))
    | exact Nat.le_trans h (halt_ge (by assumption))
theorem writeOn_ge (h : d ≤ w.drawn) (fr : Frame) (dy : Dying) (f : Fatal) : GStep.ge d (writeOn p fr dy f w) := by
  unfold writeOn
  dsimp only
  split
  · exact True.intro
  · simp only [Sem.runT_eq]
    split
    · rename_i heq
      exact Nat.le_trans h (ok_ge (congrArg Prod.fst heq))
    · rename_i heq
      exact Nat.le_trans h (halt_ge (congrArg Prod.fst heq))
    · exact True.intro
    · exact True.intro
theorem die_ge (h : d ≤ w.drawn) (fr : Frame) (dy : Dying) : GStep.ge d (die p fr dy w) := by
  unfold die
  split
  · exact writeOn_ge h _ _ _
  · split
    · split
      · exact h
      · exact endWith_ge _ _ _
    · dsimp only
      split
      · exact h
      · split
        all_goals first
          | exact True.intro
          | exact h
          | exact Nat.le_trans h (ok_ge (by assumption))
          | exact Nat.le_trans h (halt_ge (by assumption))
      · simp only [Sem.runT_eq]
        refine after_ge ?_
        split
        all_goals first
          | exact True.intro
          | exact Nat.le_trans h (ok_ge (by assumption))
          | exact endPrinting_ge (Nat.le_trans h (halt_ge (by assumption))) _ _
      · exact True.intro
theorem doReturn_ge (h : d ≤ w.drawn) (main : Bool) (fr : Frame) (cs : List Frame) (dy : Option Dying) (v : Value) : GStep.ge d (doReturn p main fr cs dy v w) := by
  unfold doReturn
  repeat' split
  all_goals first
    | exact True.intro
    | exact h
theorem callDeferred_ge (h : d ≤ w.drawn) (fr : Frame) (cs : List Frame) (dy : Option Dying) (x : Deferred) : GStep.ge d (callDeferred p fr cs dy x w) := by
  unfold callDeferred
  refine ite_ge True.intro ?_
  simp only [Sem.runT_eq]
  refine after_ge ?_
  repeat' split
  all_goals first
    | exact True.intro
    | exact Nat.le_trans h (ok_ge (by assumption))
    | exact Nat.le_trans h (halt_ge (by assumption))
    | exact endFatal_ge (Nat.le_trans h (halt_ge (by assumption))) _ _ _ _
theorem unwind_ge (h : d ≤ w.drawn) (main : Bool) (fr : Frame) (cs : List Frame) (dy : Option Dying) : GStep.ge d (unwind p main fr cs dy w) := by
  unfold unwind
  simp only [Sem.runT_eq]
  repeat' split
  all_goals first
    | exact True.intro
    | exact h
    | exact callDeferred_ge h _ _ _ _
    | exact doReturn_ge h _ _ _ _ _
    | exact endPrinting_ge h _ _
    | exact Nat.le_trans h (ok_ge (by assumption))
    | exact after_ge True.intro
    | exact after_ge (Nat.le_trans h (ok_ge (by assumption)))
    | exact after_ge (doReturn_ge (Nat.le_trans h (ok_ge (by assumption))) _ _ _ _ _)
theorem early_ge (h : d ≤ w.drawn) (fr : Frame) (cs : List Frame) (dy : Option Dying) (g : Nat) : GStep.ge d (early p fr cs dy g w) := by
  have hn : ∀ w2 : World, d ≤ w2.drawn → GStep.ge d (match w2.heap[g]? with
    | some (.pending c elem) => .go { frame := fr, callers := cs, status := .running, dying := dy } { w2 with heap := w2.heap.setIfInBounds g (.cells c elem) }
    | _ => .ended (.stuck "early: the variable does not wait" (fr.pos p)) w2) := by
    intro w2 h2
    split
    · exact h2
    · exact True.intro
  unfold early
  dsimp only
  split
  · exact hn w h
  · split
    · exact True.intro
    · split
      · exact hn w h
      · split
        · exact hn w h
        · split
          · exact True.intro
          · exact h
          · exact True.intro
          · exact hn w h
          · split
            · exact h
            · split
              · exact hn w h
              · split
                · exact hn _ (Nat.le_trans h (ok_ge (by assumption)))
                · exact Nat.le_trans h (ok_ge (by assumption))
                · exact True.intro
theorem apply_ge (h : d ≤ w.drawn) (listen : Bool) (fr : Frame) (cs : List Frame) (dy : Option Dying) (s : Sem Next) : GStep.ge d (stepG.apply p listen fr cs dy s w) := by
  unfold stepG.apply
  have hr : (if listen = true then s.runT p w #[] else (s.run p w, #[])) = (s.run p w, if listen = true then s.events p w #[] else #[]) := by
    cases listen <;> simp
  rw [hr]
  dsimp only
  refine after_ge ?_
  repeat' split
  all_goals first
    | exact True.intro
    | exact Nat.le_trans h (ok_ge (by assumption))
    | exact Nat.le_trans h (halt_ge (by assumption))
    | exact endFatal_ge (Nat.le_trans h (halt_ge (by assumption))) _ _ _ _
    | exact early_ge (Nat.le_trans h (halt_ge (by assumption))) _ _ _ _
theorem oper_ge (h : d ≤ w.drawn) (listen : Bool) (fr : Frame) (cs : List Frame) (dy : Option Dying) : GStep.ge d (stepG.oper p listen fr cs dy w) := by
  unfold stepG.oper
  split
  · exact True.intro
  · split
    all_goals exact apply_ge h _ _ _ _ _
set_option maxHeartbeats 4000000 in
theorem exec_ge (h : d ≤ w.drawn) (main listen : Bool) (fr : Frame) (cs : List Frame) (dy : Option Dying) : GStep.ge d (stepG.exec p main listen fr cs dy w) := by
  have hl : ∀ jump : Option Code, GStep.ge d (match fr.roundOf with
      | none => if jump matches none | some .ret then .go { frame := { fr with mode := .returning }, callers := cs, status := .running, dying := dy } w else .ended (.stuck "exit, goto: no such block or label" (fr.pos p)) w
      | some l =>
        let (r, es) := (Instr.endRound l jump).runT p w #[]
        GStep.after (seen p fr.fn es) <| match r with
        | .ok v w => doReturn p main fr cs dy v w
        | .halt _ w => .ended (.stuck "range over a function: no such loop" (fr.pos p)) w) := by
    intro jump
    split
    · exact ite_ge h True.intro
    · simp only [Sem.runT_eq]
      refine after_ge ?_
      split
      · exact doReturn_ge (Nat.le_trans h (ok_ge (by assumption))) _ _ _ _ _
      · exact True.intro
  unfold stepG.exec
  dsimp only
  split
  all_goals first
    | exact True.intro
    | exact h
    | exact hl _
    | exact apply_ge h _ _ _ _ _
    | exact hl none
    | exact hl (some .ret)
    | exact elim_ge (hl (some (.exit _))) (fun _ => h)
    | exact elim_ge (hl (some (.goto _))) (fun _ => h)
    | exact elim_ge True.intro (fun _ => apply_ge h _ _ _ _ _)
    | exact ite_ge (oper_ge h _ _ _ _) h
    | (split
       · exact h
       · exact True.intro)
    | (refine ite_ge h ?_
       split
       · exact Nat.le_trans h (ok_ge (by assumption))
       · exact True.intro)
    | (simp only [Sem.runT_eq]
       refine after_ge ?_
       split
       all_goals first
         | exact True.intro
         | exact Nat.le_trans h (ok_ge (by assumption))
         | exact Nat.le_trans h (halt_ge (by assumption))
         | exact apply_ge (Nat.le_trans h (ok_ge (by assumption))) _ _ _ _ _)
theorem stepG_ge (h : d ≤ w.drawn) (main listen : Bool) (g : Goroutine) : GStep.ge d (stepG p main g w listen) := by
  unfold stepG
  split
  split
  · exact die_ge h _ _
  · exact exec_ge h _ _ _ _ _
  · exact unwind_ge h _ _ _ _
theorem comm_ge (h : d ≤ w.drawn) (rest : Rest) (gs : Array Goroutine) (i : Nat) (g : Goroutine) (cases : Array CommCase) (blocking : Bool) (shape : CommShape) : Stepped.ge d (communicate p rest gs i g cases blocking shape w).1 := by
  unfold communicate
  dsimp only
  split
  · exact True.intro
  · split
    · split
      · split
        · rename_i heq
          unfold waitingAt at heq
          split at heq
          · split at heq
            · cases heq
              exact h
            · cases heq
          · cases heq
            exact h
        · exact True.intro
      · exact h
    · split
      · exact True.intro
      · rename_i heq
        have h2 := Nat.le_trans h (ok_ge heq)
        repeat' split
        all_goals first
          | exact True.intro
          | exact h2
          | exact Nat.le_trans h2 (halt_ge (by assumption))
          | (dsimp only [Stepped.ge]
             exact Nat.le_trans h2 (ok_ge (by assumption)))
theorem iteS_ge {c : Prop} [Decidable c] {a b : Stepped} (ha : Stepped.ge d a) (hb : Stepped.ge d b) : Stepped.ge d (if c then a else b) := by
  split
  · exact ha
  · exact hb
theorem look_ge (h : d ≤ w.drawn) (gs : Array Goroutine) (rest : Rest) : Stepped.ge d (look p gs rest w) := by
  unfold look
  split
  · split
    dsimp only
    refine iteS_ge True.intro ?_
    split
    · exact True.intro
    · split
      · rename_i heq
        have h3 := Nat.le_trans h (ok_ge heq)
        exact h3
      · exact True.intro
      · exact True.intro
  · exact True.intro
theorem serve_ge {m : Machine} (h : d ≤ m.world.drawn) (k : Nat) : Stepped.ge d (serve p m k) := by
  unfold serve
  split
  · exact True.intro
  · exact h
  · dsimp only
    split
    · exact True.intro
    · exact h
theorem drain_ge (w : World) (c : Nat) : (drain w c).2.drawn = w.drawn := by
  unfold drain
  split <;> rfl
theorem retime_ge {m : Machine} (h : d ≤ m.world.drawn) (k : Nat) (t : Timer) (a b : Nat) : d ≤ (retime m k t a b).2.world.drawn := by
  unfold retime
  cases ht : t.chan with
  | none => exact h
  | some c =>
    show d ≤ (drain m.world c).2.drawn
    rw [drain_ge]
    exact h
theorem named_ge {m m' : Machine} {v : Value} (var : Addr) (f : Nat → Timer → Value × Machine) (hf : ∀ k t, d ≤ (f k t).2.world.drawn) (he : timerOp.named m var f = .ok (v, m')) : d ≤ m'.world.drawn := by
  unfold timerOp.named at he
  split at he
  · rename_i k _
    have := hf k (m.rest.timers.getD k default)
    injection he with he
    rw [he] at this
    exact this
  · cases he
theorem timer_ge {m m' : Machine} {v : Value} (h : d ≤ m.world.drawn) (op : TimerOp) (he : timerOp m op = .ok (v, m')) : d ≤ m'.world.drawn := by
  unfold timerOp at he
  split at he
  · split at he
    · cases he
      exact h
    · split at he
      · split at he
        · cases he
        · cases he
          exact h
      · cases he
  · exact named_ge _ _ (fun k t => retime_ge h _ _ _ _) he
  · split at he
    · rename_i m2 heq
      have h2 : d ≤ m2.world.drawn := by
        unfold timerOp.opened at heq
        split at heq
        · split at heq
          · cases heq
            exact h
          · cases heq
        · cases heq
          exact h
      exact named_ge _ _ (fun k t => retime_ge h2 _ _ _ _) he
    · cases he
  · cases he
    exact h
theorem runT_ge {m : Machine} (h : d ≤ m.world.drawn) (i : Nat) (listen : Bool) : Stepped.ge d (runT p m i listen).1 := by
  have hs := stepG_ge (p := p) h (i == 0) listen (m.gs.swapAt! i { (default : Goroutine) with status := .finished }).1
  unfold runT
  dsimp only
  revert hs
  generalize stepG p (i == 0) (m.gs.swapAt! i { (default : Goroutine) with status := .finished }).1 m.world listen = s
  intro hs
  cases s with
  | ended o w es => exact True.intro
  | comm g cases blocking shape w es => exact comm_ge (d := d) hs _ _ _ _ _ _ _
  | go g w es => exact hs
  | spawn g child w es => exact hs
  | count g w es =>
    dsimp only
    split
    · exact True.intro
    · exact hs
  | alone g on w es => exact hs
  | collect g w es => exact look_ge (d := d) hs _ _
  | watch g w es => exact hs
  | newcoro g c dd w es => exact hs
  | coroswitch g c exit w es =>
    dsimp only
    repeat' split
    all_goals first
      | exact True.intro
      | exact hs
      | (rename_i heq
         cases heq
         exact hs)
  | timer g op w es =>
    dsimp only
    repeat' split
    all_goals first
      | exact True.intro
      | exact hs
      | (dsimp only [Stepped.ge]
         exact timer_ge (m := { world := w, gs := _, rest := _ }) hs op (by assumption))
      | (rename_i heq
         cases heq
         exact hs)
/-- A move's world has drawn no less. -/
def Move.ge (d : Nat) : Move → Prop
  | .goroutine m _ => d ≤ m.world.drawn
  | .machine s _ => Stepped.ge d s
theorem pick_ge {m : Machine} (h : d ≤ m.world.drawn) (rs : List Nat) : Move.ge d (match (choose (.sched rs.length)).run p m.world with
      | .halt _ w => .machine (.ended (.stuck "sched" "") w)
      | .ok k world =>
        if rs.length ≤ 1 then .goroutine { m with world } (rs.getD k 0) else
        match (choose (.extern "sched.slice" 65536)).run p world with
        | .halt _ w => .machine (.ended (.stuck "sched.slice" "") w)
        | .ok n world => .goroutine { m with world, rest := { m.rest with slice := if n = 0 then none else some (rs.getD k 0, n) } } (rs.getD k 0)) := by
  split
  · exact True.intro
  · rename_i heq
    have h2 := Nat.le_trans h (ok_ge heq)
    split
    · exact h2
    · split
      · exact True.intro
      · rename_i heq2
        exact Nat.le_trans h2 (ok_ge heq2)
theorem askOn_ge {m : Machine} (h : d ≤ m.world.drawn) : Move.ge d (askOn p m) := by
  unfold askOn
  dsimp only
  split
  · exact True.intro
  · rename_i k w1 heq
    have h2 : d ≤ w1.drawn := Nat.le_trans h (ok_ge heq)
    split
    · exact serve_ge (m := { m with world := w1 }) h2 _
    · split
      · split
        · exact h2
        · split
          · exact h2
          · split
            · exact True.intro
            · exact True.intro
      · split
        · exact pick_ge (m := { m with world := w1 }) h2 _
        · split
          · exact True.intro
          · rename_i heq3
            exact pick_ge (m := { m with world := _ }) (Nat.le_trans h2 (ok_ge heq3)) _
          · rename_i heq3
            have h3 := Nat.le_trans h2 (ok_ge heq3)
            exact h3
          · rename_i w3 heq3
            have h3 := Nat.le_trans h2 (ok_ge heq3)
            exact pick_ge (m := Machine.advanceTo { m with world := w3 } _) h3 _
theorem askM_ge {m : Machine} (h : d ≤ m.world.drawn) : Move.ge d (ask p m) := by
  unfold ask
  split
  · split
    · exact True.intro
    · rename_i heq
      have h2 := Nat.le_trans h (ok_ge heq)
      have h3 := look_ge (p := p) h2 m.gs m.rest
      split
      · rename_i hl
        rw [hl] at h3
        exact askOn_ge h3
      · exact h3
    · rename_i heq
      exact askOn_ge (m := { m with world := _ }) (Nat.le_trans h (ok_ge heq))
  · exact askOn_ge h
theorem move_ge {m : Machine} (h : d ≤ m.world.drawn) : Move.ge d (move p m) := by
  unfold move
  split
  · split
    · exact h
    · exact True.intro
  · split
    · split
      · exact h
      · exact askM_ge (m := { m with rest := _ }) h
    · exact askM_ge h
theorem step_ge {m m' : Machine} (h : step p m = .next m') : m.world.drawn ≤ m'.world.drawn := by
  have h1 := move_ge (p := p) (Nat.le_refl m.world.drawn)
  unfold step stepT at h
  cases hm : move p m with
  | goroutine m2 i =>
    rw [hm] at h h1
    have h2 := runT_ge (p := p) h1 i true
    rw [show (runT p m2 i true).1 = Stepped.next m' from h] at h2
    exact h2
  | machine s ops =>
    rw [hm] at h h1
    have h1 : Stepped.ge m.world.drawn s := h1
    rw [show s = Stepped.next m' from h] at h1
    exact h1
theorem steps_ge {m m' : Machine} (h : Steps p m m') : m.world.drawn ≤ m'.world.drawn := by
  obtain ⟨n, hn⟩ := h
  induction n generalizing m with
  | zero =>
    simp only [runN] at hn
    cases hn
    exact Nat.le_refl _
  | succ n ih =>
    simp only [runN] at hn
    cases hs : step p m with
    | next m2 =>
      rw [hs] at hn
      exact Nat.le_trans (step_ge hs) (ih hn)
    | ended o w2 =>
      rw [hs] at hn
      cases hn
/-- **What a call that returns has drawn.** -/
theorem _root_.Go.Calls.drawn {f : FuncId} {args : Array Value} {R : Ending → World → Prop} (h : Calls p f args w R) (hr : ∀ e w', R e w' → ∃ v, e = .returned v) : Calls p f args w fun e w' => R e w' ∧ w.drawn ≤ w'.drawn := fun cs => by
  obtain ⟨e, w', fr, hR, hc, rest⟩ := h cs
  obtain ⟨v, rfl⟩ := hr e w' hR
  exact ⟨_, w', fr, ⟨hR, steps_ge hc⟩, hc, rest⟩
end
end Go.Proofs.Ytfbiinipiklkaaa
