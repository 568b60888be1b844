/-
  A region inside a fence that asks nothing, within a round of a loop over an iterator or not, walked as a plain one. No program function is named here.
-/
import Derived.Test.YtfbiinipiklkaaaQ10
import Derived.OrdersIn
import Derived.Deep.RegionHeld
import Derived.RangeFuncCalls
import Derived.OwnWalkIn
namespace Go.Proofs.Ytfbiinipiklkaaa
set_option maxRecDepth 100000
open Go.RowKit Go.Lib

/-- The fence that asks nothing, in whatever round. -/
def wideR (r : Option Nat) : Fence := { Fence.wide with round := r }
/-- It ends as it should. -/
def Only (K : Act → World → Prop) : Exit → Act → World → Prop
  | .normal, a, w => K a w
  | _, _, _ => False
def noDefer (ops : Array Oper) : Bool := ops.toList.all fun o => match o.op with | .defer _ => false | _ => true
theorem noDefer_at {ops : Array Oper} (h : noDefer ops = true) {i : Nat} {o : Oper} (ho : ops[i]? = some o) (c : Call) : o.op ≠ .defer c := by
  intro e
  have h1 := List.all_eq_true.1 h o (by rw [Array.mem_toList_iff]; exact Array.mem_of_getElem? ho)
  rw [e] at h1
  cases h1
section
variable {P : Program} {ops : Array Oper} {K : Act → World → Prop} {Q : Exit → Act → World → Prop} {r : Option Nat} {n : Nat}
theorem opsIn_of (hdef : noDefer ops = true) (hK : ∀ a w, K a w → Q .normal a w) : ∀ (l : List Nat) (a : Act) (w : World), wpOps P ops (Only K) l a w → wpOpsIn (wideR r) n P ops Q l a w
  | [], a, w, h => hK a w h
  | i :: rest, a, w, h => by
    have ih := opsIn_of hdef hK rest
    simp only [wpOps] at h
    simp only [wpOpsIn]
    cases ho : ops[i]? with
    | none =>
      simp only [ho] at h ⊢
      exact ih a w h
    | some o =>
      simp only [ho] at h ⊢
      by_cases hw : Region.wanted o (yielded ops a.tmps) = true
      · simp only [hw, if_true] at h ⊢
        rcases h with h | ⟨_, a0, w0, hq⟩
        · unfold Oper.wpIn
          refine ⟨fun _ _ => trivial, ?_⟩
          rw [Oper.semAt_plain (wideR r) _ _ (noDefer_at hdef ho)]
          unfold Oper.wp at h
          generalize (execOp a.eval o).run P w = q at h ⊢
          cases q with
          | ok x w' =>
            cases x <;> simp only [Oper.upon, Oper.uponIn] at h ⊢
            case value v => exact ih _ _ h
            case skip => exact ih _ _ h
            case defer d => exact ih _ _ h
            case enter f args =>
              refine ⟨fun hd => (by cases hd), ?_⟩
              have h2 : CallsIn Fence.wide (n - 1) P f args w' _ := callsIn_wide.2 h
              refine CallsIn.mono (F := wideR r) h2 ?_
              intro e w'' he
              cases e with
              | returned v => exact ih _ _ he
              | panicked c => exact he.elim
              | outgrown =>
                obtain ⟨_, _, he⟩ := he
                exact he.elim
            case row row args =>
              refine ⟨fun hd => (by cases hd), fun c cs _ => ?_⟩
              obtain ⟨v, w'', hR, hs⟩ := h c cs
              exact ⟨v, w'', ih _ _ hR, stepsIn_wide.2 hs⟩
          | halt x w' =>
            cases x <;> simp only [Oper.upon, Oper.uponIn] at h ⊢
            case panic v => exact h.elim
        · exact hq.elim
      · simp only [hw] at h ⊢
        exact ⟨fun _ _ => trivial, ih _ _ h⟩
theorem wpIn_of_list {id : Nat} {l : List Oper} {a : Act} {w : World} (hdef : noDefer l.toArray = true) (h : wpList P l.toArray (Only (fun a w => Q .normal a w)) l a w) : (Code.region id l.toArray false).wpIn (wideR r) n P Q a w := by
  refine wpIn_region (opsIn_of (K := fun a w => Q .normal a w) hdef (fun _ _ h => h) _ a w ?_)
  rw [List.range_eq_range', ← Array.length_toList, wpOps_eq_wpList l.toArray.toList 0 (by simp)]
  simpa using h
theorem wpIn_of_held {id : Nat} {ops : Array Oper} {S : World → Prop} {a : Act} {w : World} (hm : P.follows .mixedOrders = true) (hdef : noDefer ops = true) (hS : S w.drew)
    (h : S w.drew → wpAnyH P .any ops (Only (fun a w => Q .normal a w)) S ops.size (Array.replicate ops.size false) a w.drew) : (Code.region id ops true).wpIn (wideR r) n P Q a w :=
  wpIn_region_draw fun t => by
    simp only [Region.schedule, hm, Bool.true_or, if_true]
    exact opsIn_of (K := fun a w => Q .normal a w) hdef (fun _ _ h => h) _ a _ (wpAny_sound ops.size t _ a _ (wpAny_of_held _ _ _ _ (h hS)))
theorem wpIn_of_any {id : Nat} {ops : Array Oper} {a : Act} {w : World} (hm : P.follows .mixedOrders = true) (hdef : noDefer ops = true)
    (h : wpAny P .any ops (Only (fun a w => Q .normal a w)) ops.size (Array.replicate ops.size false) a w.drew) : (Code.region id ops true).wpIn (wideR r) n P Q a w :=
  wpIn_region_draw fun t => by
    simp only [Region.schedule, hm, Bool.true_or, if_true]
    exact opsIn_of (K := fun a w => Q .normal a w) hdef (fun _ _ h => h) _ a _ (wpAny_sound ops.size t _ a _ h)
end
end Go.Proofs.Ytfbiinipiklkaaa
