/-
  No cell of these rows narrows 'for every input' (looked for: loops, veiled, ifaces, maps, wideKeys, modest, calm, conditions, laid).
  DERIVED. THE GIVEN ROWS OF THIS SEAT. 6 by the template 'for every input the law returns true; each argument reads behind the call as it read before'; 0 by the template 'total and deterministic' (their statements: YtgjjepcjdekihaaTotals.lean).
  GIVEN WITH THE SEED: the statements are not yours to turn. If you find one false, say at which input.
  Laid BY PROGRAM, IN A SANDBOX (cutbox-rows.mjs): the forced cells as the released guide's own fill.sh prints them over the translation 07da62ff9926eec7… (all of the seat's roots in one cut). By AI agents, Wed Nov 11 2026. No macro, syntax, notation, axiom, sorry.
-/
import Derived.Test.YtgjjepcjdekihaaChecked
import GoSem.Claim
import GoSem.ClaimJoined
import GoSem.ClaimMapViews
import Derived.JoinedTies
import Derived.KernelRfl
namespace Go.Proofs.Ytgjjepcjdekihaa
/- THE CELL 'sum', in the pinned program and in every row, IS THE sha256 OF THE DUMP (.gsa) THAT YtgjjepcjdekihaaProg.lean LOADS. Nothing in Lean hashes anything: it is a label: what it is worth is what the hold of that sum in a sandbox is worth. -/
noncomputable def Try.pinned : Pinned := { name := "ytgjjepcjdekihaa", sum := "07da62ff9926eec747771ba9f4badcbbacec1adae631fc0550b5dc9bb6eb8913", checked := Try.checked }
namespace Rows
def none {H : Type} : Left H := { results := [], args := [] }

/-- 'wayleavelaw10.PortReads': WHATEVER THE INPUT: true; the input reads as it did. -/
def portReadsSpec : ChangeSpec := { name := "portReads", fn := fun _ => fun
  | [d1, d2] => { results := [.lit (.bool true)], args := [d1, d2] }
  | _ => none }
def portReadsRow : OpenClaim := { program := "ytgjjepcjdekihaa", sum := "07da62ff9926eec747771ba9f4badcbbacec1adae631fc0550b5dc9bb6eb8913", func := "wayleave/wayleavelaw10.PortReads", spec := "portReads", unfollowed := true, recurses := true, apart := false }
def PortReadsSaid : Prop := portReadsRow.holds Try.pinned (OpenSpec.ofChange portReadsSpec)

/-- ITS FALSE NEIGHBOUR: 'it returns false'. Refute it at one input. -/
def portReadsWrong : ChangeSpec := { name := "portReads", fn := fun _ => fun
  | [d1, d2] => { results := [.lit (.bool false)], args := [d1, d2] }
  | _ => none }
def PortReadsWrongFalsely : Prop := portReadsRow.holds Try.pinned (OpenSpec.ofChange portReadsWrong)

/-- 'wayleavelaw10.PortSums': WHATEVER THE INPUT: true; the input reads as it did. -/
def portSumsSpec : ChangeSpec := { name := "portSums", fn := fun _ => fun
  | [d1, d2, d3, d4] => { results := [.lit (.bool true)], args := [d1, d2, d3, d4] }
  | _ => none }
def portSumsRow : OpenClaim := { program := "ytgjjepcjdekihaa", sum := "07da62ff9926eec747771ba9f4badcbbacec1adae631fc0550b5dc9bb6eb8913", func := "wayleave/wayleavelaw10.PortSums", spec := "portSums", unfollowed := true, recurses := true, apart := false }
def PortSumsSaid : Prop := portSumsRow.holds Try.pinned (OpenSpec.ofChange portSumsSpec)

/-- ITS FALSE NEIGHBOUR: 'it returns false'. Refute it at one input. -/
def portSumsWrong : ChangeSpec := { name := "portSums", fn := fun _ => fun
  | [d1, d2, d3, d4] => { results := [.lit (.bool false)], args := [d1, d2, d3, d4] }
  | _ => none }
def PortSumsWrongFalsely : Prop := portSumsRow.holds Try.pinned (OpenSpec.ofChange portSumsWrong)

/-- 'wayleavelaw10.PortFill': WHATEVER THE INPUT: true; the input reads as it did. -/
def portFillSpec : ChangeSpec := { name := "portFill", fn := fun _ => fun
  | [d1, d2, d3, d4] => { results := [.lit (.bool true)], args := [d1, d2, d3, d4] }
  | _ => none }
def portFillRow : OpenClaim := { program := "ytgjjepcjdekihaa", sum := "07da62ff9926eec747771ba9f4badcbbacec1adae631fc0550b5dc9bb6eb8913", func := "wayleave/wayleavelaw10.PortFill", spec := "portFill", unfollowed := true, recurses := true, apart := false }
def PortFillSaid : Prop := portFillRow.holds Try.pinned (OpenSpec.ofChange portFillSpec)

/-- ITS FALSE NEIGHBOUR: 'it returns false'. Refute it at one input. -/
def portFillWrong : ChangeSpec := { name := "portFill", fn := fun _ => fun
  | [d1, d2, d3, d4] => { results := [.lit (.bool false)], args := [d1, d2, d3, d4] }
  | _ => none }
def PortFillWrongFalsely : Prop := portFillRow.holds Try.pinned (OpenSpec.ofChange portFillWrong)

/-- 'wayleavelaw10.PortSpoilt': WHATEVER THE INPUT: true; the input reads as it did. -/
def portSpoiltSpec : ChangeSpec := { name := "portSpoilt", fn := fun _ => fun
  | [d1, d2, d3, d4, d5, d6] => { results := [.lit (.bool true)], args := [d1, d2, d3, d4, d5, d6] }
  | _ => none }
def portSpoiltRow : OpenClaim := { program := "ytgjjepcjdekihaa", sum := "07da62ff9926eec747771ba9f4badcbbacec1adae631fc0550b5dc9bb6eb8913", func := "wayleave/wayleavelaw10.PortSpoilt", spec := "portSpoilt", unfollowed := true, recurses := true, apart := false }
def PortSpoiltSaid : Prop := portSpoiltRow.holds Try.pinned (OpenSpec.ofChange portSpoiltSpec)

/-- ITS FALSE NEIGHBOUR: 'it returns false'. Refute it at one input. -/
def portSpoiltWrong : ChangeSpec := { name := "portSpoilt", fn := fun _ => fun
  | [d1, d2, d3, d4, d5, d6] => { results := [.lit (.bool false)], args := [d1, d2, d3, d4, d5, d6] }
  | _ => none }
def PortSpoiltWrongFalsely : Prop := portSpoiltRow.holds Try.pinned (OpenSpec.ofChange portSpoiltWrong)

/-- 'wayleavelaw10.PortFlags': WHATEVER THE INPUT: true; the input reads as it did. -/
def portFlagsSpec : ChangeSpec := { name := "portFlags", fn := fun _ => fun
  | [d1, d2, d3] => { results := [.lit (.bool true)], args := [d1, d2, d3] }
  | _ => none }
def portFlagsRow : OpenClaim := { program := "ytgjjepcjdekihaa", sum := "07da62ff9926eec747771ba9f4badcbbacec1adae631fc0550b5dc9bb6eb8913", func := "wayleave/wayleavelaw10.PortFlags", spec := "portFlags", unfollowed := true, recurses := true, apart := false }
def PortFlagsSaid : Prop := portFlagsRow.holds Try.pinned (OpenSpec.ofChange portFlagsSpec)

/-- ITS FALSE NEIGHBOUR: 'it returns false'. Refute it at one input. -/
def portFlagsWrong : ChangeSpec := { name := "portFlags", fn := fun _ => fun
  | [d1, d2, d3] => { results := [.lit (.bool false)], args := [d1, d2, d3] }
  | _ => none }
def PortFlagsWrongFalsely : Prop := portFlagsRow.holds Try.pinned (OpenSpec.ofChange portFlagsWrong)

/-- 'wayleavelaw10.PortKeeps': WHATEVER THE INPUT: true; the input reads as it did. -/
def portKeepsSpec : ChangeSpec := { name := "portKeeps", fn := fun _ => fun
  | [d1, d2, d3, d4] => { results := [.lit (.bool true)], args := [d1, d2, d3, d4] }
  | _ => none }
def portKeepsRow : OpenClaim := { program := "ytgjjepcjdekihaa", sum := "07da62ff9926eec747771ba9f4badcbbacec1adae631fc0550b5dc9bb6eb8913", func := "wayleave/wayleavelaw10.PortKeeps", spec := "portKeeps", unfollowed := true, recurses := true, apart := false }
def PortKeepsSaid : Prop := portKeepsRow.holds Try.pinned (OpenSpec.ofChange portKeepsSpec)

/-- ITS FALSE NEIGHBOUR: 'it returns false'. Refute it at one input. -/
def portKeepsWrong : ChangeSpec := { name := "portKeeps", fn := fun _ => fun
  | [d1, d2, d3, d4] => { results := [.lit (.bool false)], args := [d1, d2, d3, d4] }
  | _ => none }
def PortKeepsWrongFalsely : Prop := portKeepsRow.holds Try.pinned (OpenSpec.ofChange portKeepsWrong)

/- THE SECOND FORM. 'bulk': how many values and letters a reading holds, each counted each time it is reached (what is shared counts as often as it is met; a slice's spare places count too). A statement '..UptoSaid' is the law's where the arguments, and the package variables that the reading takes, are together of bulk at most 1048576: NARROWER than '..Said'. Prove '..Said' where nothing that the law and all that it calls make is longer than what came in: it says more and counts as full. Else prove '..UptoSaid'. A law counts once. -/
mutual
def uptoBulk {H : Type} : DataW H → Nat
  | .lit (.string bytes) => bytes.length + 1
  | .lit _ => 1
  | .nil => 1
  | .ptr d => uptoBulk d + 1
  | .slice elems spare => uptoBulkAll elems + uptoBulkAll spare + 1
  | .agg parts => uptoBulkAll parts + 1
  | .iface _ d => uptoBulk d + 1
  | .map entries => uptoBulkEntries entries + 1
  | .held _ => 1
def uptoBulkAll {H : Type} : List (DataW H) → Nat
  | [] => 0
  | d :: r => uptoBulk d + uptoBulkAll r
def uptoBulkEntries {H : Type} : List (Lit × DataW H) → Nat
  | [] => 0
  | x :: r => uptoBulkEntry x + uptoBulkEntries r
def uptoBulkEntry {H : Type} : Lit × DataW H → Nat
  | (.string bytes, d) => bytes.length + uptoBulk d + 1
  | (_, d) => uptoBulk d + 1
 end
def uptoSmall : (H : Type) → List (DataW H) → Bool := fun _ ds => decide (uptoBulkAll ds ≤ 1048576)
def OpenSpec.upto (s : _root_.Go.ChangeSpec) : _root_.Go.OpenSpec := { _root_.Go.OpenSpec.ofChange s with cond := some uptoSmall }

/-- 'wayleavelaw10.PortReads', WHERE WHAT IT READS IS OF BULK AT MOST 1048576: true; the input reads as it did. -/
def portReadsUptoRow : OpenClaim := { program := "ytgjjepcjdekihaa", sum := "07da62ff9926eec747771ba9f4badcbbacec1adae631fc0550b5dc9bb6eb8913", func := "wayleave/wayleavelaw10.PortReads", spec := "portReads", unfollowed := true, recurses := true, apart := false, narrowed := true }
def PortReadsUptoSaid : Prop := portReadsUptoRow.holds Try.pinned (OpenSpec.upto portReadsSpec)

/-- 'wayleavelaw10.PortSums', WHERE WHAT IT READS IS OF BULK AT MOST 1048576: true; the input reads as it did. -/
def portSumsUptoRow : OpenClaim := { program := "ytgjjepcjdekihaa", sum := "07da62ff9926eec747771ba9f4badcbbacec1adae631fc0550b5dc9bb6eb8913", func := "wayleave/wayleavelaw10.PortSums", spec := "portSums", unfollowed := true, recurses := true, apart := false, narrowed := true }
def PortSumsUptoSaid : Prop := portSumsUptoRow.holds Try.pinned (OpenSpec.upto portSumsSpec)

/-- 'wayleavelaw10.PortFill', WHERE WHAT IT READS IS OF BULK AT MOST 1048576: true; the input reads as it did. -/
def portFillUptoRow : OpenClaim := { program := "ytgjjepcjdekihaa", sum := "07da62ff9926eec747771ba9f4badcbbacec1adae631fc0550b5dc9bb6eb8913", func := "wayleave/wayleavelaw10.PortFill", spec := "portFill", unfollowed := true, recurses := true, apart := false, narrowed := true }
def PortFillUptoSaid : Prop := portFillUptoRow.holds Try.pinned (OpenSpec.upto portFillSpec)

/-- 'wayleavelaw10.PortSpoilt', WHERE WHAT IT READS IS OF BULK AT MOST 1048576: true; the input reads as it did. -/
def portSpoiltUptoRow : OpenClaim := { program := "ytgjjepcjdekihaa", sum := "07da62ff9926eec747771ba9f4badcbbacec1adae631fc0550b5dc9bb6eb8913", func := "wayleave/wayleavelaw10.PortSpoilt", spec := "portSpoilt", unfollowed := true, recurses := true, apart := false, narrowed := true }
def PortSpoiltUptoSaid : Prop := portSpoiltUptoRow.holds Try.pinned (OpenSpec.upto portSpoiltSpec)

/-- 'wayleavelaw10.PortFlags', WHERE WHAT IT READS IS OF BULK AT MOST 1048576: true; the input reads as it did. -/
def portFlagsUptoRow : OpenClaim := { program := "ytgjjepcjdekihaa", sum := "07da62ff9926eec747771ba9f4badcbbacec1adae631fc0550b5dc9bb6eb8913", func := "wayleave/wayleavelaw10.PortFlags", spec := "portFlags", unfollowed := true, recurses := true, apart := false, narrowed := true }
def PortFlagsUptoSaid : Prop := portFlagsUptoRow.holds Try.pinned (OpenSpec.upto portFlagsSpec)

/-- 'wayleavelaw10.PortKeeps', WHERE WHAT IT READS IS OF BULK AT MOST 1048576: true; the input reads as it did. -/
def portKeepsUptoRow : OpenClaim := { program := "ytgjjepcjdekihaa", sum := "07da62ff9926eec747771ba9f4badcbbacec1adae631fc0550b5dc9bb6eb8913", func := "wayleave/wayleavelaw10.PortKeeps", spec := "portKeeps", unfollowed := true, recurses := true, apart := false, narrowed := true }
def PortKeepsUptoSaid : Prop := portKeepsUptoRow.holds Try.pinned (OpenSpec.upto portKeepsSpec)

end Rows
end Go.Proofs.Ytgjjepcjdekihaa
