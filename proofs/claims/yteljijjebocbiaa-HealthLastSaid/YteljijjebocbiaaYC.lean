/-
  What is asked of the program (a premise, until it has landed): its Step, Run, Sync, Set and Down.
-/
import Derived.Test.YteljijjebocbiaaYRSync
namespace Go.Proofs.Yteljijjebocbiaa
set_option maxRecDepth 100000
open Go.RowKit Go.Lib

structure HealthC : Prop where
  step : ∀ (h : Hl) (b : Bool) (rise fall : Int) (W : World), InR h → h.nm.length ≤ 200 → -9223372036854775808 ≤ rise → rise ≤ 9223372036854775807 → -9223372036854775808 ≤ fall → fall ≤ 9223372036854775807 →
    Calls Try.prog 11 #[hlC h, .bool b, .int .i64 rise, .int .i64 fall] W (StepGave W rise fall h b)
  run : ∀ (h : Hl) (A : Option Addr) (n c : Nat) (l : List Bool) (rise fall : Int) (W : World), InR h → h.nm.length ≤ 200 → n ≤ 1000 → n ≤ c → c ≤ maxLen → -9223372036854775808 ≤ rise → rise ≤ 9223372036854775807 → -9223372036854775808 ≤ fall → fall ≤ 9223372036854775807 → RdG eT W W.heap.size A n l →
    Calls Try.prog 13 #[hlC h, .slice A n c, .int .i64 rise, .int .i64 fall] W (RunGave W rise fall h l)
  sync : ∀ (A A2 : Option Addr) (n n2 c c2 : Nat) (l : List Hl) (ns : List (List UInt8)) (W : World), n ≤ 50 → n2 ≤ 50 → n ≤ c → c ≤ maxLen → n2 ≤ c2 → c2 ≤ maxLen → (∀ x, x ∈ l → InR x ∧ x.nm.length ≤ 60) → (∀ s, s ∈ ns → s.length ≤ 60) → RdG eH W W.heap.size A n l → RdG eN W W.heap.size A2 n2 ns →
    Calls Try.prog 17 #[.slice A n c, .slice A2 n2 c2] W (SyncGave W l ns)
  set : ∀ (A : Option Addr) (n c : Nat) (l : List Hl) (s : List UInt8) (b : Bool) (rise fall : Int) (W : World), n ≤ 50 → n ≤ c → c ≤ maxLen → (∀ x, x ∈ l → InR x ∧ x.nm.length ≤ 60) → s.length ≤ 60 → -9223372036854775808 ≤ rise → rise ≤ 9223372036854775807 → -9223372036854775808 ≤ fall → fall ≤ 9223372036854775807 → RdG eH W W.heap.size A n l →
    Calls Try.prog 23 #[.slice A n c, .string ⟨s.toArray⟩, .bool b, .int .i64 rise, .int .i64 fall] W (SetGave W rise fall b s l)
  down : ∀ (A : Option Addr) (n c : Nat) (l : List Hl) (W : World), n ≤ 50 → n ≤ c → c ≤ maxLen → (∀ x, x ∈ l → InR x ∧ x.nm.length ≤ 60) → RdG eH W W.heap.size A n l →
    Calls Try.prog 21 #[.slice A n c] W (fun e w' => ∃ r, e = .returned r ∧ OwnG eN w' W.heap.size r (downL l) ∧ Below W.heap.size W w')
theorem bel2 {w w1 w2 : World} (h : Below w.heap.size w w1) (h1 : Below w1.heap.size w1 w2) : Below w.heap.size w w2 := h.trans (h1.mono h.size)
theorem wpList_eqlHt {w : World} {ops : Array Oper} {rest : List Oper} {op : Oper} {a : Act} {Q : Exit → Act → World → Prop} (k : TypeId) (x y : Operand) (ho : op.op = .binOp .eql 23 x y k) (hw : Region.wanted op (yielded ops a.tmps) = true)
    (p q : Hl) (hx : a.eval x = hlC p) (hy : a.eval y = hlC q) (r : Bool) (hr : hlB p q = r)
    (hk : wpList Try.prog ops Q rest (a.put op.dst (.bool r)) w) : wpList Try.prog ops Q (op :: rest) a w := by
  subst hr
  exact wpList_eqlH k x y ho hw p q hx hy hk
-- the answers of the examples
theorem exRun : runH 2 3 ⟨[97], false, 0⟩ [false, false, true, false, false] = (⟨[97], false, 2⟩, 0) := by rfl
theorem exG : stepH 2 3 ⟨[97], false, 2⟩ false = (⟨[97], true, 0⟩, true) := by rfl
theorem exF : stepH 2 3 ⟨[97], true, 0⟩ true = (⟨[97], true, 1⟩, false) := by rfl
theorem exE : stepH 2 3 ⟨[97], true, 1⟩ true = (⟨[97], false, 0⟩, true) := by rfl
theorem exL : syncL [⟨[97], true, 0⟩] [[98], [97], [98]] = [⟨[97], true, 0⟩, ⟨[98], false, 0⟩] := by rfl
theorem exP : placeH (nmsH [⟨[97], true, 0⟩, ⟨[98], false, 0⟩]) [98] = 1 := by rfl
theorem exM : setL (fun h => (stepH 1 1 h false).1) 1 [⟨[97], true, 0⟩, ⟨[98], false, 0⟩] = [⟨[97], true, 0⟩, ⟨[98], true, 0⟩] := by rfl
theorem exN : placeH (nmsH [⟨[97], true, 0⟩, ⟨[98], false, 0⟩]) [99] = -1 := by rfl
theorem exD : downL [⟨[97], true, 0⟩, ⟨[98], true, 0⟩] = [[97], [98]] := by rfl
theorem in0 (s : List UInt8) (d : Bool) (z : Int) (h1 : 0 ≤ z) (h2 : z ≤ 1000) : InR ⟨s, d, z⟩ := ⟨by show -9223372036854775808 ≤ z; omega, by show z ≤ 9223372036854775807; omega⟩
end Go.Proofs.Yteljijjebocbiaa
