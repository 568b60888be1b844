/-
  No cell of these rows narrows 'for every input' (looked for: loops, veiled, ifaces, maps, wideKeys, modest, calm, conditions, laid).
  DERIVED. THE GIVEN ROWS OF THIS SEAT. 7 by the template 'for every input the law returns true; each argument reads behind the call as it read before'; 0 by the template 'total and deterministic' (their statements: YtfbiinipiklkaaaTotals.lean).
  GIVEN WITH THE SEED: the statements are not yours to turn. If you find one false, say at which input.
  Laid BY PROGRAM, IN A SANDBOX (cutbox-rows.mjs): the forced cells as the released guide's own fill.sh prints them over the translation 8d464cee6896c526… (all of the seat's roots in one cut). By AI agents, Wed Nov 11 2026. No macro, syntax, notation, axiom, sorry.
-/
import Derived.Test.YtfbiinipiklkaaaChecked
import GoSem.Claim
import GoSem.ClaimJoined
import GoSem.ClaimMapViews
import Derived.JoinedTies
import Derived.KernelRfl
namespace Go.Proofs.Ytfbiinipiklkaaa
/- THE CELL 'sum', in the pinned program and in every row, IS THE sha256 OF THE DUMP (.gsa) THAT YtfbiinipiklkaaaProg.lean LOADS. Nothing in Lean hashes anything: it is a label: what it is worth is what the hold of that sum in a sandbox is worth. -/
noncomputable def Try.pinned : Pinned := { name := "ytfbiinipiklkaaa", sum := "8d464cee6896c5265d0f4dd65dc53391b4a49f07c881a7752938265e85904269", checked := Try.checked }
namespace Rows
def none {H : Type} : Left H := { results := [], args := [] }

/-- 'wayleavelaw21.FlowRights': WHATEVER THE INPUT: true; the input reads as it did. -/
def flowRightsSpec : ChangeSpec := { name := "flowRights", fn := fun _ => fun
  | [d1, d2, d3, d4] => { results := [.lit (.bool true)], args := [d1, d2, d3, d4] }
  | _ => none }
def flowRightsRow : OpenClaim := { program := "ytfbiinipiklkaaa", sum := "8d464cee6896c5265d0f4dd65dc53391b4a49f07c881a7752938265e85904269", func := "wayleave/wayleavelaw21.FlowRights", spec := "flowRights", inPlace := ["internal/bytealg.Compare"], unfollowed := true, recurses := true, apart := false }
def FlowRightsSaid : Prop := flowRightsRow.holds Try.pinned (OpenSpec.ofChange flowRightsSpec)

/-- ITS FALSE NEIGHBOUR: 'it returns false'. Refute it at one input. -/
def flowRightsWrong : ChangeSpec := { name := "flowRights", fn := fun _ => fun
  | [d1, d2, d3, d4] => { results := [.lit (.bool false)], args := [d1, d2, d3, d4] }
  | _ => none }
def FlowRightsWrongFalsely : Prop := flowRightsRow.holds Try.pinned (OpenSpec.ofChange flowRightsWrong)

/-- 'wayleavelaw21.FlowPlays': WHATEVER THE INPUT: true; the input reads as it did. -/
def flowPlaysSpec : ChangeSpec := { name := "flowPlays", fn := fun _ => fun
  | [d1, d2, d3] => { results := [.lit (.bool true)], args := [d1, d2, d3] }
  | _ => none }
def flowPlaysRow : OpenClaim := { program := "ytfbiinipiklkaaa", sum := "8d464cee6896c5265d0f4dd65dc53391b4a49f07c881a7752938265e85904269", func := "wayleave/wayleavelaw21.FlowPlays", spec := "flowPlays", inPlace := ["internal/bytealg.Compare"], unfollowed := true, recurses := true, apart := false }
def FlowPlaysSaid : Prop := flowPlaysRow.holds Try.pinned (OpenSpec.ofChange flowPlaysSpec)

/-- ITS FALSE NEIGHBOUR: 'it returns false'. Refute it at one input. -/
def flowPlaysWrong : ChangeSpec := { name := "flowPlays", fn := fun _ => fun
  | [d1, d2, d3] => { results := [.lit (.bool false)], args := [d1, d2, d3] }
  | _ => none }
def FlowPlaysWrongFalsely : Prop := flowPlaysRow.holds Try.pinned (OpenSpec.ofChange flowPlaysWrong)

/-- 'wayleavelaw21.FlowOldest': WHATEVER THE INPUT: true; the input reads as it did. -/
def flowOldestSpec : ChangeSpec := { name := "flowOldest", fn := fun _ => fun
  | [d1, d2, d3] => { results := [.lit (.bool true)], args := [d1, d2, d3] }
  | _ => none }
def flowOldestRow : OpenClaim := { program := "ytfbiinipiklkaaa", sum := "8d464cee6896c5265d0f4dd65dc53391b4a49f07c881a7752938265e85904269", func := "wayleave/wayleavelaw21.FlowOldest", spec := "flowOldest", inPlace := ["internal/bytealg.Compare"], unfollowed := true, recurses := true, apart := false }
def FlowOldestSaid : Prop := flowOldestRow.holds Try.pinned (OpenSpec.ofChange flowOldestSpec)

/-- ITS FALSE NEIGHBOUR: 'it returns false'. Refute it at one input. -/
def flowOldestWrong : ChangeSpec := { name := "flowOldest", fn := fun _ => fun
  | [d1, d2, d3] => { results := [.lit (.bool false)], args := [d1, d2, d3] }
  | _ => none }
def FlowOldestWrongFalsely : Prop := flowOldestRow.holds Try.pinned (OpenSpec.ofChange flowOldestWrong)

/-- 'wayleavelaw21.FlowStays': WHATEVER THE INPUT: true; the input reads as it did. -/
def flowStaysSpec : ChangeSpec := { name := "flowStays", fn := fun _ => fun
  | [d1, d2] => { results := [.lit (.bool true)], args := [d1, d2] }
  | _ => none }
def flowStaysRow : OpenClaim := { program := "ytfbiinipiklkaaa", sum := "8d464cee6896c5265d0f4dd65dc53391b4a49f07c881a7752938265e85904269", func := "wayleave/wayleavelaw21.FlowStays", spec := "flowStays", inPlace := ["internal/bytealg.Compare"], unfollowed := true, recurses := true, apart := false }
def FlowStaysSaid : Prop := flowStaysRow.holds Try.pinned (OpenSpec.ofChange flowStaysSpec)

/-- ITS FALSE NEIGHBOUR: 'it returns false'. Refute it at one input. -/
def flowStaysWrong : ChangeSpec := { name := "flowStays", fn := fun _ => fun
  | [d1, d2] => { results := [.lit (.bool false)], args := [d1, d2] }
  | _ => none }
def FlowStaysWrongFalsely : Prop := flowStaysRow.holds Try.pinned (OpenSpec.ofChange flowStaysWrong)

/-- 'wayleavelaw21.FlowSweeps': WHATEVER THE INPUT: true; the input reads as it did. -/
def flowSweepsSpec : ChangeSpec := { name := "flowSweeps", fn := fun _ => fun
  | [d1, d2, d3, d4, d5] => { results := [.lit (.bool true)], args := [d1, d2, d3, d4, d5] }
  | _ => none }
def flowSweepsRow : OpenClaim := { program := "ytfbiinipiklkaaa", sum := "8d464cee6896c5265d0f4dd65dc53391b4a49f07c881a7752938265e85904269", func := "wayleave/wayleavelaw21.FlowSweeps", spec := "flowSweeps", inPlace := ["internal/bytealg.Compare"], unfollowed := true, recurses := true, apart := false }
def FlowSweepsSaid : Prop := flowSweepsRow.holds Try.pinned (OpenSpec.ofChange flowSweepsSpec)

/-- ITS FALSE NEIGHBOUR: 'it returns false'. Refute it at one input. -/
def flowSweepsWrong : ChangeSpec := { name := "flowSweeps", fn := fun _ => fun
  | [d1, d2, d3, d4, d5] => { results := [.lit (.bool false)], args := [d1, d2, d3, d4, d5] }
  | _ => none }
def FlowSweepsWrongFalsely : Prop := flowSweepsRow.holds Try.pinned (OpenSpec.ofChange flowSweepsWrong)

/-- 'wayleavelaw21.FlowOrders': WHATEVER THE INPUT: true; the input reads as it did. -/
def flowOrdersSpec : ChangeSpec := { name := "flowOrders", fn := fun _ => fun
  | [d1, d2, d3, d4] => { results := [.lit (.bool true)], args := [d1, d2, d3, d4] }
  | _ => none }
def flowOrdersRow : OpenClaim := { program := "ytfbiinipiklkaaa", sum := "8d464cee6896c5265d0f4dd65dc53391b4a49f07c881a7752938265e85904269", func := "wayleave/wayleavelaw21.FlowOrders", spec := "flowOrders", inPlace := ["internal/bytealg.Compare"], unfollowed := true, recurses := true, apart := false }
def FlowOrdersSaid : Prop := flowOrdersRow.holds Try.pinned (OpenSpec.ofChange flowOrdersSpec)

/-- ITS FALSE NEIGHBOUR: 'it returns false'. Refute it at one input. -/
def flowOrdersWrong : ChangeSpec := { name := "flowOrders", fn := fun _ => fun
  | [d1, d2, d3, d4] => { results := [.lit (.bool false)], args := [d1, d2, d3, d4] }
  | _ => none }
def FlowOrdersWrongFalsely : Prop := flowOrdersRow.holds Try.pinned (OpenSpec.ofChange flowOrdersWrong)

/-- 'wayleavelaw21.FlowKeeps': WHATEVER THE INPUT: true; the input reads as it did. -/
def flowKeepsSpec : ChangeSpec := { name := "flowKeeps", fn := fun _ => fun
  | [d1, d2] => { results := [.lit (.bool true)], args := [d1, d2] }
  | _ => none }
def flowKeepsRow : OpenClaim := { program := "ytfbiinipiklkaaa", sum := "8d464cee6896c5265d0f4dd65dc53391b4a49f07c881a7752938265e85904269", func := "wayleave/wayleavelaw21.FlowKeeps", spec := "flowKeeps", inPlace := ["internal/bytealg.Compare"], unfollowed := true, recurses := true, apart := false }
def FlowKeepsSaid : Prop := flowKeepsRow.holds Try.pinned (OpenSpec.ofChange flowKeepsSpec)

/-- ITS FALSE NEIGHBOUR: 'it returns false'. Refute it at one input. -/
def flowKeepsWrong : ChangeSpec := { name := "flowKeeps", fn := fun _ => fun
  | [d1, d2] => { results := [.lit (.bool false)], args := [d1, d2] }
  | _ => none }
def FlowKeepsWrongFalsely : Prop := flowKeepsRow.holds Try.pinned (OpenSpec.ofChange flowKeepsWrong)

/- THE SECOND FORM. 'bulk': how many values and letters a reading holds, each counted each time it is reached (what is shared counts as often as it is met; a slice's spare places count too). A statement '..UptoSaid' is the law's where the arguments, and the package variables that the reading takes, are together of bulk at most 1048576: NARROWER than '..Said'. Prove '..Said' where nothing that the law and all that it calls make is longer than what came in: it says more and counts as full. Else prove '..UptoSaid'. A law counts once. -/
mutual
def uptoBulk {H : Type} : DataW H → Nat
  | .lit (.string bytes) => bytes.length + 1
  | .lit _ => 1
  | .nil => 1
  | .ptr d => uptoBulk d + 1
  | .slice elems spare => uptoBulkAll elems + uptoBulkAll spare + 1
  | .agg parts => uptoBulkAll parts + 1
  | .iface _ d => uptoBulk d + 1
  | .map entries => uptoBulkEntries entries + 1
  | .held _ => 1
def uptoBulkAll {H : Type} : List (DataW H) → Nat
  | [] => 0
  | d :: r => uptoBulk d + uptoBulkAll r
def uptoBulkEntries {H : Type} : List (Lit × DataW H) → Nat
  | [] => 0
  | x :: r => uptoBulkEntry x + uptoBulkEntries r
def uptoBulkEntry {H : Type} : Lit × DataW H → Nat
  | (.string bytes, d) => bytes.length + uptoBulk d + 1
  | (_, d) => uptoBulk d + 1
 end
def uptoSmall : (H : Type) → List (DataW H) → Bool := fun _ ds => decide (uptoBulkAll ds ≤ 1048576)
def OpenSpec.upto (s : _root_.Go.ChangeSpec) : _root_.Go.OpenSpec := { _root_.Go.OpenSpec.ofChange s with cond := some uptoSmall }

/-- 'wayleavelaw21.FlowRights', WHERE WHAT IT READS IS OF BULK AT MOST 1048576: true; the input reads as it did. -/
def flowRightsUptoRow : OpenClaim := { program := "ytfbiinipiklkaaa", sum := "8d464cee6896c5265d0f4dd65dc53391b4a49f07c881a7752938265e85904269", func := "wayleave/wayleavelaw21.FlowRights", spec := "flowRights", inPlace := ["internal/bytealg.Compare"], unfollowed := true, recurses := true, apart := false, narrowed := true }
def FlowRightsUptoSaid : Prop := flowRightsUptoRow.holds Try.pinned (OpenSpec.upto flowRightsSpec)

/-- 'wayleavelaw21.FlowPlays', WHERE WHAT IT READS IS OF BULK AT MOST 1048576: true; the input reads as it did. -/
def flowPlaysUptoRow : OpenClaim := { program := "ytfbiinipiklkaaa", sum := "8d464cee6896c5265d0f4dd65dc53391b4a49f07c881a7752938265e85904269", func := "wayleave/wayleavelaw21.FlowPlays", spec := "flowPlays", inPlace := ["internal/bytealg.Compare"], unfollowed := true, recurses := true, apart := false, narrowed := true }
def FlowPlaysUptoSaid : Prop := flowPlaysUptoRow.holds Try.pinned (OpenSpec.upto flowPlaysSpec)

/-- 'wayleavelaw21.FlowOldest', WHERE WHAT IT READS IS OF BULK AT MOST 1048576: true; the input reads as it did. -/
def flowOldestUptoRow : OpenClaim := { program := "ytfbiinipiklkaaa", sum := "8d464cee6896c5265d0f4dd65dc53391b4a49f07c881a7752938265e85904269", func := "wayleave/wayleavelaw21.FlowOldest", spec := "flowOldest", inPlace := ["internal/bytealg.Compare"], unfollowed := true, recurses := true, apart := false, narrowed := true }
def FlowOldestUptoSaid : Prop := flowOldestUptoRow.holds Try.pinned (OpenSpec.upto flowOldestSpec)

/-- 'wayleavelaw21.FlowStays', WHERE WHAT IT READS IS OF BULK AT MOST 1048576: true; the input reads as it did. -/
def flowStaysUptoRow : OpenClaim := { program := "ytfbiinipiklkaaa", sum := "8d464cee6896c5265d0f4dd65dc53391b4a49f07c881a7752938265e85904269", func := "wayleave/wayleavelaw21.FlowStays", spec := "flowStays", inPlace := ["internal/bytealg.Compare"], unfollowed := true, recurses := true, apart := false, narrowed := true }
def FlowStaysUptoSaid : Prop := flowStaysUptoRow.holds Try.pinned (OpenSpec.upto flowStaysSpec)

/-- 'wayleavelaw21.FlowSweeps', WHERE WHAT IT READS IS OF BULK AT MOST 1048576: true; the input reads as it did. -/
def flowSweepsUptoRow : OpenClaim := { program := "ytfbiinipiklkaaa", sum := "8d464cee6896c5265d0f4dd65dc53391b4a49f07c881a7752938265e85904269", func := "wayleave/wayleavelaw21.FlowSweeps", spec := "flowSweeps", inPlace := ["internal/bytealg.Compare"], unfollowed := true, recurses := true, apart := false, narrowed := true }
def FlowSweepsUptoSaid : Prop := flowSweepsUptoRow.holds Try.pinned (OpenSpec.upto flowSweepsSpec)

/-- 'wayleavelaw21.FlowOrders', WHERE WHAT IT READS IS OF BULK AT MOST 1048576: true; the input reads as it did. -/
def flowOrdersUptoRow : OpenClaim := { program := "ytfbiinipiklkaaa", sum := "8d464cee6896c5265d0f4dd65dc53391b4a49f07c881a7752938265e85904269", func := "wayleave/wayleavelaw21.FlowOrders", spec := "flowOrders", inPlace := ["internal/bytealg.Compare"], unfollowed := true, recurses := true, apart := false, narrowed := true }
def FlowOrdersUptoSaid : Prop := flowOrdersUptoRow.holds Try.pinned (OpenSpec.upto flowOrdersSpec)

/-- 'wayleavelaw21.FlowKeeps', WHERE WHAT IT READS IS OF BULK AT MOST 1048576: true; the input reads as it did. -/
def flowKeepsUptoRow : OpenClaim := { program := "ytfbiinipiklkaaa", sum := "8d464cee6896c5265d0f4dd65dc53391b4a49f07c881a7752938265e85904269", func := "wayleave/wayleavelaw21.FlowKeeps", spec := "flowKeeps", inPlace := ["internal/bytealg.Compare"], unfollowed := true, recurses := true, apart := false, narrowed := true }
def FlowKeepsUptoSaid : Prop := flowKeepsUptoRow.holds Try.pinned (OpenSpec.upto flowKeepsSpec)

end Rows
end Go.Proofs.Ytfbiinipiklkaaa
