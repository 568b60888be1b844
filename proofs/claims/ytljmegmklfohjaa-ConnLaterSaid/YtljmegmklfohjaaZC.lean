/-
  What is asked of the program (a premise, until it has landed): conn's Begin, Next, Run, Stale.
-/
import Derived.Test.YtljmegmklfohjaaZRef
import Derived.Test.YtljmegmklfohjaaZRef2
namespace Go.Proofs.Ytljmegmklfohjaa
set_option maxRecDepth 100000
open Go.RowKit Go.Lib

structure ConnC : Prop where
  begin_ : ∀ (p z : Int) (W : World), In64 p → In64 z → Calls Try.prog 11 #[.int .i64 p, .int .i64 z] W fun e w' => e = .returned (.int .i64 (stB p z)) ∧ Below W.heap.size W w'
  next : ∀ (s z : Int) (W : World), In64 s → In64 z → Calls Try.prog 13 #[.int .i64 s, .int .i64 z] W fun e w' => e = .returned (.int .i64 (stN s z)) ∧ Below W.heap.size W w'
  run : ∀ (s : Int) (A : Option Addr) (n c : Nat) (l : List Int) (W : World) (B : Nat), In64 s → n ≤ 2000 → n ≤ c → c ≤ maxLen → (∀ z, z ∈ l → In64 z) → B ≤ W.heap.size → RdG eZ W B A n l →
    Calls Try.prog 15 #[.int .i64 s, .slice A n c] W fun e w' => e = .returned (.int .i64 (stR s l)) ∧ Below W.heap.size W w'
  stale : ∀ (s seen now : Int) (l : List Int) (W : World), In64 s → In64 seen → In64 now → l.length = 6 → (∀ z, z ∈ l → In64 z) →
    Calls Try.prog 16 #[.int .i64 s, .int .i64 seen, .int .i64 now, zC l] W fun e w' => e = .returned (.bool (staleB s seen now l)) ∧ Below W.heap.size W w'
theorem in64_stN {s z : Int} (h : In64 s) : In64 (stN s z) := by
  obtain ⟨h1, h2⟩ := h
  unfold stN In64
  repeat' split
  all_goals omega
theorem in64_stB (p z : Int) : In64 (stB p z) := by
  unfold stB In64
  repeat' split
  all_goals omega
theorem in64_stR {s : Int} (h : In64 s) : ∀ l : List Int, In64 (stR s l)
  | [] => h
  | _ :: l => in64_stR (in64_stN h) l
theorem in64_lit (z : Int) (h1 : -1000 ≤ z) (h2 : z ≤ 1000) : In64 z := ⟨by omega, by omega⟩
-- the answers of the examples
theorem exB1 : stB 6 2 = 1 := by decide
theorem exB2 : stB 17 0 = 5 := by decide
theorem exB3 : stB 1 0 = 0 := by decide
theorem exN1 : stN 1 18 = 1 := by decide
theorem exN2 : stN 1 16 = 2 := by decide
theorem exN3 : stN 2 1 = 3 := by decide
theorem exN4 : stN 3 16 = 3 := by decide
theorem exR : stR 1 [16, 1, 16, 4] = 4 := by decide
theorem exS1 : staleB 2 1 7 [0, 5, 5, 5, 5, 5] = true := by decide
theorem exS2 : staleB 2 1 6 [0, 5, 5, 5, 5, 5] = false := by decide
end Go.Proofs.Ytljmegmklfohjaa
