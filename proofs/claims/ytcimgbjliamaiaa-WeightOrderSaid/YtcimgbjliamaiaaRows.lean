/-
  No cell of these rows narrows 'for every input' (looked for: loops, veiled, ifaces, maps, wideKeys, modest, calm, conditions, laid).
  DERIVED. THE GIVEN ROWS OF THIS SEAT. 6 by the template 'for every input the law returns true; each argument reads behind the call as it read before'; 0 by the template 'total and deterministic' (their statements: YtcimgbjliamaiaaTotals.lean).
  GIVEN WITH THE SEED: the statements are not yours to turn. If you find one false, say at which input.
  Laid BY PROGRAM, IN A SANDBOX (cutbox-rows.mjs): the forced cells as the released guide's own fill.sh prints them over the translation c286fa51114f103c… (all of the seat's roots in one cut). By AI agents, Wed Nov 11 2026. No macro, syntax, notation, axiom, sorry.
-/
import Derived.Test.YtcimgbjliamaiaaChecked
import GoSem.Claim
import GoSem.ClaimJoined
import GoSem.ClaimMapViews
import Derived.JoinedTies
import Derived.KernelRfl
namespace Go.Proofs.Ytcimgbjliamaiaa
/- THE CELL 'sum', in the pinned program and in every row, IS THE sha256 OF THE DUMP (.gsa) THAT YtcimgbjliamaiaaProg.lean LOADS. Nothing in Lean hashes anything: it is a label: what it is worth is what the hold of that sum in a sandbox is worth. -/
noncomputable def Try.pinned : Pinned := { name := "ytcimgbjliamaiaa", sum := "c286fa51114f103c1f03971c595458d455fc6870421a8b19dba0901375e15445", checked := Try.checked }
namespace Rows
def none {H : Type} : Left H := { results := [], args := [] }

/-- 'wayleavelaw14.WeightQuanta': WHATEVER THE INPUT: true; the input reads as it did. -/
def weightQuantaSpec : ChangeSpec := { name := "weightQuanta", fn := fun _ => fun
  | [d] => { results := [.lit (.bool true)], args := [d] }
  | _ => none }
def weightQuantaRow : OpenClaim := { program := "ytcimgbjliamaiaa", sum := "c286fa51114f103c1f03971c595458d455fc6870421a8b19dba0901375e15445", func := "wayleave/wayleavelaw14.WeightQuanta", spec := "weightQuanta", inPlace := ["math.Float64bits", "math.Float64frombits"], unfollowed := true, recurses := true, apart := false }
def WeightQuantaSaid : Prop := weightQuantaRow.holds Try.pinned (OpenSpec.ofChange weightQuantaSpec)

/-- ITS FALSE NEIGHBOUR: 'it returns false'. Refute it at one input. -/
def weightQuantaWrong : ChangeSpec := { name := "weightQuanta", fn := fun _ => fun
  | [d] => { results := [.lit (.bool false)], args := [d] }
  | _ => none }
def WeightQuantaWrongFalsely : Prop := weightQuantaRow.holds Try.pinned (OpenSpec.ofChange weightQuantaWrong)

/-- 'wayleavelaw14.WeightBack': WHATEVER THE INPUT: true; the input reads as it did. -/
def weightBackSpec : ChangeSpec := { name := "weightBack", fn := fun _ => fun
  | [d] => { results := [.lit (.bool true)], args := [d] }
  | _ => none }
def weightBackRow : OpenClaim := { program := "ytcimgbjliamaiaa", sum := "c286fa51114f103c1f03971c595458d455fc6870421a8b19dba0901375e15445", func := "wayleave/wayleavelaw14.WeightBack", spec := "weightBack", inPlace := ["math.Float64bits", "math.Float64frombits"], unfollowed := true, recurses := true, apart := false }
def WeightBackSaid : Prop := weightBackRow.holds Try.pinned (OpenSpec.ofChange weightBackSpec)

/-- ITS FALSE NEIGHBOUR: 'it returns false'. Refute it at one input. -/
def weightBackWrong : ChangeSpec := { name := "weightBack", fn := fun _ => fun
  | [d] => { results := [.lit (.bool false)], args := [d] }
  | _ => none }
def WeightBackWrongFalsely : Prop := weightBackRow.holds Try.pinned (OpenSpec.ofChange weightBackWrong)

/-- 'wayleavelaw14.WeightOrder': WHATEVER THE INPUT: true; the input reads as it did. -/
def weightOrderSpec : ChangeSpec := { name := "weightOrder", fn := fun _ => fun
  | [d1, d2, d3] => { results := [.lit (.bool true)], args := [d1, d2, d3] }
  | _ => none }
def weightOrderRow : OpenClaim := { program := "ytcimgbjliamaiaa", sum := "c286fa51114f103c1f03971c595458d455fc6870421a8b19dba0901375e15445", func := "wayleave/wayleavelaw14.WeightOrder", spec := "weightOrder", inPlace := ["math.Float64bits", "math.Float64frombits"], unfollowed := true, recurses := true, apart := false }
def WeightOrderSaid : Prop := weightOrderRow.holds Try.pinned (OpenSpec.ofChange weightOrderSpec)

/-- ITS FALSE NEIGHBOUR: 'it returns false'. Refute it at one input. -/
def weightOrderWrong : ChangeSpec := { name := "weightOrder", fn := fun _ => fun
  | [d1, d2, d3] => { results := [.lit (.bool false)], args := [d1, d2, d3] }
  | _ => none }
def WeightOrderWrongFalsely : Prop := weightOrderRow.holds Try.pinned (OpenSpec.ofChange weightOrderWrong)

/-- 'wayleavelaw14.WeightTotals': WHATEVER THE INPUT: true; the input reads as it did. -/
def weightTotalsSpec : ChangeSpec := { name := "weightTotals", fn := fun _ => fun
  | [d1, d2] => { results := [.lit (.bool true)], args := [d1, d2] }
  | _ => none }
def weightTotalsRow : OpenClaim := { program := "ytcimgbjliamaiaa", sum := "c286fa51114f103c1f03971c595458d455fc6870421a8b19dba0901375e15445", func := "wayleave/wayleavelaw14.WeightTotals", spec := "weightTotals", inPlace := ["math.Float64bits", "math.Float64frombits"], unfollowed := true, recurses := true, apart := false }
def WeightTotalsSaid : Prop := weightTotalsRow.holds Try.pinned (OpenSpec.ofChange weightTotalsSpec)

/-- ITS FALSE NEIGHBOUR: 'it returns false'. Refute it at one input. -/
def weightTotalsWrong : ChangeSpec := { name := "weightTotals", fn := fun _ => fun
  | [d1, d2] => { results := [.lit (.bool false)], args := [d1, d2] }
  | _ => none }
def WeightTotalsWrongFalsely : Prop := weightTotalsRow.holds Try.pinned (OpenSpec.ofChange weightTotalsWrong)

/-- 'wayleavelaw14.WeightBits': WHATEVER THE INPUT: true; the input reads as it did. -/
def weightBitsSpec : ChangeSpec := { name := "weightBits", fn := fun _ => fun
  | [d1, d2, d3] => { results := [.lit (.bool true)], args := [d1, d2, d3] }
  | _ => none }
def weightBitsRow : OpenClaim := { program := "ytcimgbjliamaiaa", sum := "c286fa51114f103c1f03971c595458d455fc6870421a8b19dba0901375e15445", func := "wayleave/wayleavelaw14.WeightBits", spec := "weightBits", inPlace := ["math.Float64bits", "math.Float64frombits"], unfollowed := true, recurses := true, apart := false }
def WeightBitsSaid : Prop := weightBitsRow.holds Try.pinned (OpenSpec.ofChange weightBitsSpec)

/-- ITS FALSE NEIGHBOUR: 'it returns false'. Refute it at one input. -/
def weightBitsWrong : ChangeSpec := { name := "weightBits", fn := fun _ => fun
  | [d1, d2, d3] => { results := [.lit (.bool false)], args := [d1, d2, d3] }
  | _ => none }
def WeightBitsWrongFalsely : Prop := weightBitsRow.holds Try.pinned (OpenSpec.ofChange weightBitsWrong)

/-- 'wayleavelaw14.WeightNans': WHATEVER THE INPUT: true; the input reads as it did. -/
def weightNansSpec : ChangeSpec := { name := "weightNans", fn := fun _ => fun
  | [d1, d2] => { results := [.lit (.bool true)], args := [d1, d2] }
  | _ => none }
def weightNansRow : OpenClaim := { program := "ytcimgbjliamaiaa", sum := "c286fa51114f103c1f03971c595458d455fc6870421a8b19dba0901375e15445", func := "wayleave/wayleavelaw14.WeightNans", spec := "weightNans", inPlace := ["math.Float64bits", "math.Float64frombits"], unfollowed := true, recurses := true, apart := false }
def WeightNansSaid : Prop := weightNansRow.holds Try.pinned (OpenSpec.ofChange weightNansSpec)

/-- ITS FALSE NEIGHBOUR: 'it returns false'. Refute it at one input. -/
def weightNansWrong : ChangeSpec := { name := "weightNans", fn := fun _ => fun
  | [d1, d2] => { results := [.lit (.bool false)], args := [d1, d2] }
  | _ => none }
def WeightNansWrongFalsely : Prop := weightNansRow.holds Try.pinned (OpenSpec.ofChange weightNansWrong)

/- THE SECOND FORM. 'bulk': how many values and letters a reading holds, each counted each time it is reached (what is shared counts as often as it is met; a slice's spare places count too). A statement '..UptoSaid' is the law's where the arguments, and the package variables that the reading takes, are together of bulk at most 1048576: NARROWER than '..Said'. Prove '..Said' where nothing that the law and all that it calls make is longer than what came in: it says more and counts as full. Else prove '..UptoSaid'. A law counts once. -/
mutual
def uptoBulk {H : Type} : DataW H → Nat
  | .lit (.string bytes) => bytes.length + 1
  | .lit _ => 1
  | .nil => 1
  | .ptr d => uptoBulk d + 1
  | .slice elems spare => uptoBulkAll elems + uptoBulkAll spare + 1
  | .agg parts => uptoBulkAll parts + 1
  | .iface _ d => uptoBulk d + 1
  | .map entries => uptoBulkEntries entries + 1
  | .held _ => 1
def uptoBulkAll {H : Type} : List (DataW H) → Nat
  | [] => 0
  | d :: r => uptoBulk d + uptoBulkAll r
def uptoBulkEntries {H : Type} : List (Lit × DataW H) → Nat
  | [] => 0
  | x :: r => uptoBulkEntry x + uptoBulkEntries r
def uptoBulkEntry {H : Type} : Lit × DataW H → Nat
  | (.string bytes, d) => bytes.length + uptoBulk d + 1
  | (_, d) => uptoBulk d + 1
 end
def uptoSmall : (H : Type) → List (DataW H) → Bool := fun _ ds => decide (uptoBulkAll ds ≤ 1048576)
def OpenSpec.upto (s : _root_.Go.ChangeSpec) : _root_.Go.OpenSpec := { _root_.Go.OpenSpec.ofChange s with cond := some uptoSmall }

/-- 'wayleavelaw14.WeightQuanta', WHERE WHAT IT READS IS OF BULK AT MOST 1048576: true; the input reads as it did. -/
def weightQuantaUptoRow : OpenClaim := { program := "ytcimgbjliamaiaa", sum := "c286fa51114f103c1f03971c595458d455fc6870421a8b19dba0901375e15445", func := "wayleave/wayleavelaw14.WeightQuanta", spec := "weightQuanta", inPlace := ["math.Float64bits", "math.Float64frombits"], unfollowed := true, recurses := true, apart := false, narrowed := true }
def WeightQuantaUptoSaid : Prop := weightQuantaUptoRow.holds Try.pinned (OpenSpec.upto weightQuantaSpec)

/-- 'wayleavelaw14.WeightBack', WHERE WHAT IT READS IS OF BULK AT MOST 1048576: true; the input reads as it did. -/
def weightBackUptoRow : OpenClaim := { program := "ytcimgbjliamaiaa", sum := "c286fa51114f103c1f03971c595458d455fc6870421a8b19dba0901375e15445", func := "wayleave/wayleavelaw14.WeightBack", spec := "weightBack", inPlace := ["math.Float64bits", "math.Float64frombits"], unfollowed := true, recurses := true, apart := false, narrowed := true }
def WeightBackUptoSaid : Prop := weightBackUptoRow.holds Try.pinned (OpenSpec.upto weightBackSpec)

/-- 'wayleavelaw14.WeightOrder', WHERE WHAT IT READS IS OF BULK AT MOST 1048576: true; the input reads as it did. -/
def weightOrderUptoRow : OpenClaim := { program := "ytcimgbjliamaiaa", sum := "c286fa51114f103c1f03971c595458d455fc6870421a8b19dba0901375e15445", func := "wayleave/wayleavelaw14.WeightOrder", spec := "weightOrder", inPlace := ["math.Float64bits", "math.Float64frombits"], unfollowed := true, recurses := true, apart := false, narrowed := true }
def WeightOrderUptoSaid : Prop := weightOrderUptoRow.holds Try.pinned (OpenSpec.upto weightOrderSpec)

/-- 'wayleavelaw14.WeightTotals', WHERE WHAT IT READS IS OF BULK AT MOST 1048576: true; the input reads as it did. -/
def weightTotalsUptoRow : OpenClaim := { program := "ytcimgbjliamaiaa", sum := "c286fa51114f103c1f03971c595458d455fc6870421a8b19dba0901375e15445", func := "wayleave/wayleavelaw14.WeightTotals", spec := "weightTotals", inPlace := ["math.Float64bits", "math.Float64frombits"], unfollowed := true, recurses := true, apart := false, narrowed := true }
def WeightTotalsUptoSaid : Prop := weightTotalsUptoRow.holds Try.pinned (OpenSpec.upto weightTotalsSpec)

/-- 'wayleavelaw14.WeightBits', WHERE WHAT IT READS IS OF BULK AT MOST 1048576: true; the input reads as it did. -/
def weightBitsUptoRow : OpenClaim := { program := "ytcimgbjliamaiaa", sum := "c286fa51114f103c1f03971c595458d455fc6870421a8b19dba0901375e15445", func := "wayleave/wayleavelaw14.WeightBits", spec := "weightBits", inPlace := ["math.Float64bits", "math.Float64frombits"], unfollowed := true, recurses := true, apart := false, narrowed := true }
def WeightBitsUptoSaid : Prop := weightBitsUptoRow.holds Try.pinned (OpenSpec.upto weightBitsSpec)

/-- 'wayleavelaw14.WeightNans', WHERE WHAT IT READS IS OF BULK AT MOST 1048576: true; the input reads as it did. -/
def weightNansUptoRow : OpenClaim := { program := "ytcimgbjliamaiaa", sum := "c286fa51114f103c1f03971c595458d455fc6870421a8b19dba0901375e15445", func := "wayleave/wayleavelaw14.WeightNans", spec := "weightNans", inPlace := ["math.Float64bits", "math.Float64frombits"], unfollowed := true, recurses := true, apart := false, narrowed := true }
def WeightNansUptoSaid : Prop := weightNansUptoRow.holds Try.pinned (OpenSpec.upto weightNansSpec)

end Rows
end Go.Proofs.Ytcimgbjliamaiaa
