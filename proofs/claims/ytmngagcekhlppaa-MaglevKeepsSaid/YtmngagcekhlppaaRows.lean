/-
  No cell of these rows narrows 'for every input' (looked for: loops, veiled, ifaces, maps, wideKeys, modest, calm, conditions, laid).
  DERIVED. THE GIVEN ROWS OF THIS SEAT. 7 by the template 'for every input the law returns true; each argument reads behind the call as it read before'; 0 by the template 'total and deterministic' (their statements: YtmngagcekhlppaaTotals.lean).
  GIVEN WITH THE SEED: the statements are not yours to turn. If you find one false, say at which input.
  Laid BY PROGRAM, IN A SANDBOX (cutbox-rows.mjs): the forced cells as the released guide's own fill.sh prints them over the translation 4ea33b4e24c7af7c… (all of the seat's roots in one cut). By AI agents, Wed Nov 11 2026. No macro, syntax, notation, axiom, sorry.
-/
import Derived.Test.YtmngagcekhlppaaChecked
import GoSem.Claim
import GoSem.ClaimJoined
import GoSem.ClaimMapViews
import Derived.JoinedTies
import Derived.KernelRfl
namespace Go.Proofs.Ytmngagcekhlppaa
/- THE CELL 'sum', in the pinned program and in every row, IS THE sha256 OF THE DUMP (.gsa) THAT YtmngagcekhlppaaProg.lean LOADS. Nothing in Lean hashes anything: it is a label: what it is worth is what the hold of that sum in a sandbox is worth. -/
noncomputable def Try.pinned : Pinned := { name := "ytmngagcekhlppaa", sum := "4ea33b4e24c7af7c16792aaa2d0b3615bee55140e97127213850db8b64f345ec", checked := Try.checked }
namespace Rows
def none {H : Type} : Left H := { results := [], args := [] }

/-- 'wayleavelaw17.MaglevBuilds': WHATEVER THE INPUT: true; the input reads as it did. -/
def maglevBuildsSpec : ChangeSpec := { name := "maglevBuilds", fn := fun _ => fun
  | [d1, d2, d3, d4] => { results := [.lit (.bool true)], args := [d1, d2, d3, d4] }
  | _ => none }
def maglevBuildsRow : OpenClaim := { program := "ytmngagcekhlppaa", sum := "4ea33b4e24c7af7c16792aaa2d0b3615bee55140e97127213850db8b64f345ec", func := "wayleave/wayleavelaw17.MaglevBuilds", spec := "maglevBuilds", inPlace := ["internal/bytealg.abigen_runtime_cmpstring"], unfollowed := true, recurses := true, apart := false }
def MaglevBuildsSaid : Prop := maglevBuildsRow.holds Try.pinned (OpenSpec.ofChange maglevBuildsSpec)

/-- ITS FALSE NEIGHBOUR: 'it returns false'. Refute it at one input. -/
def maglevBuildsWrong : ChangeSpec := { name := "maglevBuilds", fn := fun _ => fun
  | [d1, d2, d3, d4] => { results := [.lit (.bool false)], args := [d1, d2, d3, d4] }
  | _ => none }
def MaglevBuildsWrongFalsely : Prop := maglevBuildsRow.holds Try.pinned (OpenSpec.ofChange maglevBuildsWrong)

/-- 'wayleavelaw17.MaglevLarge': WHATEVER THE INPUT: true; the input reads as it did. -/
def maglevLargeSpec : ChangeSpec := { name := "maglevLarge", fn := fun _ => fun
  | [d] => { results := [.lit (.bool true)], args := [d] }
  | _ => none }
def maglevLargeRow : OpenClaim := { program := "ytmngagcekhlppaa", sum := "4ea33b4e24c7af7c16792aaa2d0b3615bee55140e97127213850db8b64f345ec", func := "wayleave/wayleavelaw17.MaglevLarge", spec := "maglevLarge", inPlace := ["internal/bytealg.abigen_runtime_cmpstring"], unfollowed := true, recurses := true, apart := false }
def MaglevLargeSaid : Prop := maglevLargeRow.holds Try.pinned (OpenSpec.ofChange maglevLargeSpec)

/-- ITS FALSE NEIGHBOUR: 'it returns false'. Refute it at one input. -/
def maglevLargeWrong : ChangeSpec := { name := "maglevLarge", fn := fun _ => fun
  | [d] => { results := [.lit (.bool false)], args := [d] }
  | _ => none }
def MaglevLargeWrongFalsely : Prop := maglevLargeRow.holds Try.pinned (OpenSpec.ofChange maglevLargeWrong)

/-- 'wayleavelaw17.MaglevShares': WHATEVER THE INPUT: true; the input reads as it did. -/
def maglevSharesSpec : ChangeSpec := { name := "maglevShares", fn := fun _ => fun
  | [d1, d2, d3] => { results := [.lit (.bool true)], args := [d1, d2, d3] }
  | _ => none }
def maglevSharesRow : OpenClaim := { program := "ytmngagcekhlppaa", sum := "4ea33b4e24c7af7c16792aaa2d0b3615bee55140e97127213850db8b64f345ec", func := "wayleave/wayleavelaw17.MaglevShares", spec := "maglevShares", inPlace := ["internal/bytealg.abigen_runtime_cmpstring"], unfollowed := true, recurses := true, apart := false }
def MaglevSharesSaid : Prop := maglevSharesRow.holds Try.pinned (OpenSpec.ofChange maglevSharesSpec)

/-- ITS FALSE NEIGHBOUR: 'it returns false'. Refute it at one input. -/
def maglevSharesWrong : ChangeSpec := { name := "maglevShares", fn := fun _ => fun
  | [d1, d2, d3] => { results := [.lit (.bool false)], args := [d1, d2, d3] }
  | _ => none }
def MaglevSharesWrongFalsely : Prop := maglevSharesRow.holds Try.pinned (OpenSpec.ofChange maglevSharesWrong)

/-- 'wayleavelaw17.MaglevTurned': WHATEVER THE INPUT: true; the input reads as it did. -/
def maglevTurnedSpec : ChangeSpec := { name := "maglevTurned", fn := fun _ => fun
  | [d1, d2, d3, d4] => { results := [.lit (.bool true)], args := [d1, d2, d3, d4] }
  | _ => none }
def maglevTurnedRow : OpenClaim := { program := "ytmngagcekhlppaa", sum := "4ea33b4e24c7af7c16792aaa2d0b3615bee55140e97127213850db8b64f345ec", func := "wayleave/wayleavelaw17.MaglevTurned", spec := "maglevTurned", inPlace := ["internal/bytealg.abigen_runtime_cmpstring"], unfollowed := true, recurses := true, apart := false }
def MaglevTurnedSaid : Prop := maglevTurnedRow.holds Try.pinned (OpenSpec.ofChange maglevTurnedSpec)

/-- ITS FALSE NEIGHBOUR: 'it returns false'. Refute it at one input. -/
def maglevTurnedWrong : ChangeSpec := { name := "maglevTurned", fn := fun _ => fun
  | [d1, d2, d3, d4] => { results := [.lit (.bool false)], args := [d1, d2, d3, d4] }
  | _ => none }
def MaglevTurnedWrongFalsely : Prop := maglevTurnedRow.holds Try.pinned (OpenSpec.ofChange maglevTurnedWrong)

/-- 'wayleavelaw17.MaglevTwice': WHATEVER THE INPUT: true; the input reads as it did. -/
def maglevTwiceSpec : ChangeSpec := { name := "maglevTwice", fn := fun _ => fun
  | [d1, d2, d3, d4] => { results := [.lit (.bool true)], args := [d1, d2, d3, d4] }
  | _ => none }
def maglevTwiceRow : OpenClaim := { program := "ytmngagcekhlppaa", sum := "4ea33b4e24c7af7c16792aaa2d0b3615bee55140e97127213850db8b64f345ec", func := "wayleave/wayleavelaw17.MaglevTwice", spec := "maglevTwice", inPlace := ["internal/bytealg.abigen_runtime_cmpstring"], unfollowed := true, recurses := true, apart := false }
def MaglevTwiceSaid : Prop := maglevTwiceRow.holds Try.pinned (OpenSpec.ofChange maglevTwiceSpec)

/-- ITS FALSE NEIGHBOUR: 'it returns false'. Refute it at one input. -/
def maglevTwiceWrong : ChangeSpec := { name := "maglevTwice", fn := fun _ => fun
  | [d1, d2, d3, d4] => { results := [.lit (.bool false)], args := [d1, d2, d3, d4] }
  | _ => none }
def MaglevTwiceWrongFalsely : Prop := maglevTwiceRow.holds Try.pinned (OpenSpec.ofChange maglevTwiceWrong)

/-- 'wayleavelaw17.MaglevFirst': WHATEVER THE INPUT: true; the input reads as it did. -/
def maglevFirstSpec : ChangeSpec := { name := "maglevFirst", fn := fun _ => fun
  | [d1, d2, d3] => { results := [.lit (.bool true)], args := [d1, d2, d3] }
  | _ => none }
def maglevFirstRow : OpenClaim := { program := "ytmngagcekhlppaa", sum := "4ea33b4e24c7af7c16792aaa2d0b3615bee55140e97127213850db8b64f345ec", func := "wayleave/wayleavelaw17.MaglevFirst", spec := "maglevFirst", inPlace := ["internal/bytealg.abigen_runtime_cmpstring"], unfollowed := true, recurses := true, apart := false }
def MaglevFirstSaid : Prop := maglevFirstRow.holds Try.pinned (OpenSpec.ofChange maglevFirstSpec)

/-- ITS FALSE NEIGHBOUR: 'it returns false'. Refute it at one input. -/
def maglevFirstWrong : ChangeSpec := { name := "maglevFirst", fn := fun _ => fun
  | [d1, d2, d3] => { results := [.lit (.bool false)], args := [d1, d2, d3] }
  | _ => none }
def MaglevFirstWrongFalsely : Prop := maglevFirstRow.holds Try.pinned (OpenSpec.ofChange maglevFirstWrong)

/-- 'wayleavelaw17.MaglevKeeps': WHATEVER THE INPUT: true; the input reads as it did. -/
def maglevKeepsSpec : ChangeSpec := { name := "maglevKeeps", fn := fun _ => fun
  | [d1, d2, d3] => { results := [.lit (.bool true)], args := [d1, d2, d3] }
  | _ => none }
def maglevKeepsRow : OpenClaim := { program := "ytmngagcekhlppaa", sum := "4ea33b4e24c7af7c16792aaa2d0b3615bee55140e97127213850db8b64f345ec", func := "wayleave/wayleavelaw17.MaglevKeeps", spec := "maglevKeeps", inPlace := ["internal/bytealg.abigen_runtime_cmpstring"], unfollowed := true, recurses := true, apart := false }
def MaglevKeepsSaid : Prop := maglevKeepsRow.holds Try.pinned (OpenSpec.ofChange maglevKeepsSpec)

/-- ITS FALSE NEIGHBOUR: 'it returns false'. Refute it at one input. -/
def maglevKeepsWrong : ChangeSpec := { name := "maglevKeeps", fn := fun _ => fun
  | [d1, d2, d3] => { results := [.lit (.bool false)], args := [d1, d2, d3] }
  | _ => none }
def MaglevKeepsWrongFalsely : Prop := maglevKeepsRow.holds Try.pinned (OpenSpec.ofChange maglevKeepsWrong)

/- THE SECOND FORM. 'bulk': how many values and letters a reading holds, each counted each time it is reached (what is shared counts as often as it is met; a slice's spare places count too). A statement '..UptoSaid' is the law's where the arguments, and the package variables that the reading takes, are together of bulk at most 1048576: NARROWER than '..Said'. Prove '..Said' where nothing that the law and all that it calls make is longer than what came in: it says more and counts as full. Else prove '..UptoSaid'. A law counts once. -/
mutual
def uptoBulk {H : Type} : DataW H → Nat
  | .lit (.string bytes) => bytes.length + 1
  | .lit _ => 1
  | .nil => 1
  | .ptr d => uptoBulk d + 1
  | .slice elems spare => uptoBulkAll elems + uptoBulkAll spare + 1
  | .agg parts => uptoBulkAll parts + 1
  | .iface _ d => uptoBulk d + 1
  | .map entries => uptoBulkEntries entries + 1
  | .held _ => 1
def uptoBulkAll {H : Type} : List (DataW H) → Nat
  | [] => 0
  | d :: r => uptoBulk d + uptoBulkAll r
def uptoBulkEntries {H : Type} : List (Lit × DataW H) → Nat
  | [] => 0
  | x :: r => uptoBulkEntry x + uptoBulkEntries r
def uptoBulkEntry {H : Type} : Lit × DataW H → Nat
  | (.string bytes, d) => bytes.length + uptoBulk d + 1
  | (_, d) => uptoBulk d + 1
 end
def uptoSmall : (H : Type) → List (DataW H) → Bool := fun _ ds => decide (uptoBulkAll ds ≤ 1048576)
def OpenSpec.upto (s : _root_.Go.ChangeSpec) : _root_.Go.OpenSpec := { _root_.Go.OpenSpec.ofChange s with cond := some uptoSmall }

/-- 'wayleavelaw17.MaglevBuilds', WHERE WHAT IT READS IS OF BULK AT MOST 1048576: true; the input reads as it did. -/
def maglevBuildsUptoRow : OpenClaim := { program := "ytmngagcekhlppaa", sum := "4ea33b4e24c7af7c16792aaa2d0b3615bee55140e97127213850db8b64f345ec", func := "wayleave/wayleavelaw17.MaglevBuilds", spec := "maglevBuilds", inPlace := ["internal/bytealg.abigen_runtime_cmpstring"], unfollowed := true, recurses := true, apart := false, narrowed := true }
def MaglevBuildsUptoSaid : Prop := maglevBuildsUptoRow.holds Try.pinned (OpenSpec.upto maglevBuildsSpec)

/-- 'wayleavelaw17.MaglevLarge', WHERE WHAT IT READS IS OF BULK AT MOST 1048576: true; the input reads as it did. -/
def maglevLargeUptoRow : OpenClaim := { program := "ytmngagcekhlppaa", sum := "4ea33b4e24c7af7c16792aaa2d0b3615bee55140e97127213850db8b64f345ec", func := "wayleave/wayleavelaw17.MaglevLarge", spec := "maglevLarge", inPlace := ["internal/bytealg.abigen_runtime_cmpstring"], unfollowed := true, recurses := true, apart := false, narrowed := true }
def MaglevLargeUptoSaid : Prop := maglevLargeUptoRow.holds Try.pinned (OpenSpec.upto maglevLargeSpec)

/-- 'wayleavelaw17.MaglevShares', WHERE WHAT IT READS IS OF BULK AT MOST 1048576: true; the input reads as it did. -/
def maglevSharesUptoRow : OpenClaim := { program := "ytmngagcekhlppaa", sum := "4ea33b4e24c7af7c16792aaa2d0b3615bee55140e97127213850db8b64f345ec", func := "wayleave/wayleavelaw17.MaglevShares", spec := "maglevShares", inPlace := ["internal/bytealg.abigen_runtime_cmpstring"], unfollowed := true, recurses := true, apart := false, narrowed := true }
def MaglevSharesUptoSaid : Prop := maglevSharesUptoRow.holds Try.pinned (OpenSpec.upto maglevSharesSpec)

/-- 'wayleavelaw17.MaglevTurned', WHERE WHAT IT READS IS OF BULK AT MOST 1048576: true; the input reads as it did. -/
def maglevTurnedUptoRow : OpenClaim := { program := "ytmngagcekhlppaa", sum := "4ea33b4e24c7af7c16792aaa2d0b3615bee55140e97127213850db8b64f345ec", func := "wayleave/wayleavelaw17.MaglevTurned", spec := "maglevTurned", inPlace := ["internal/bytealg.abigen_runtime_cmpstring"], unfollowed := true, recurses := true, apart := false, narrowed := true }
def MaglevTurnedUptoSaid : Prop := maglevTurnedUptoRow.holds Try.pinned (OpenSpec.upto maglevTurnedSpec)

/-- 'wayleavelaw17.MaglevTwice', WHERE WHAT IT READS IS OF BULK AT MOST 1048576: true; the input reads as it did. -/
def maglevTwiceUptoRow : OpenClaim := { program := "ytmngagcekhlppaa", sum := "4ea33b4e24c7af7c16792aaa2d0b3615bee55140e97127213850db8b64f345ec", func := "wayleave/wayleavelaw17.MaglevTwice", spec := "maglevTwice", inPlace := ["internal/bytealg.abigen_runtime_cmpstring"], unfollowed := true, recurses := true, apart := false, narrowed := true }
def MaglevTwiceUptoSaid : Prop := maglevTwiceUptoRow.holds Try.pinned (OpenSpec.upto maglevTwiceSpec)

/-- 'wayleavelaw17.MaglevFirst', WHERE WHAT IT READS IS OF BULK AT MOST 1048576: true; the input reads as it did. -/
def maglevFirstUptoRow : OpenClaim := { program := "ytmngagcekhlppaa", sum := "4ea33b4e24c7af7c16792aaa2d0b3615bee55140e97127213850db8b64f345ec", func := "wayleave/wayleavelaw17.MaglevFirst", spec := "maglevFirst", inPlace := ["internal/bytealg.abigen_runtime_cmpstring"], unfollowed := true, recurses := true, apart := false, narrowed := true }
def MaglevFirstUptoSaid : Prop := maglevFirstUptoRow.holds Try.pinned (OpenSpec.upto maglevFirstSpec)

/-- 'wayleavelaw17.MaglevKeeps', WHERE WHAT IT READS IS OF BULK AT MOST 1048576: true; the input reads as it did. -/
def maglevKeepsUptoRow : OpenClaim := { program := "ytmngagcekhlppaa", sum := "4ea33b4e24c7af7c16792aaa2d0b3615bee55140e97127213850db8b64f345ec", func := "wayleave/wayleavelaw17.MaglevKeeps", spec := "maglevKeeps", inPlace := ["internal/bytealg.abigen_runtime_cmpstring"], unfollowed := true, recurses := true, apart := false, narrowed := true }
def MaglevKeepsUptoSaid : Prop := maglevKeepsUptoRow.holds Try.pinned (OpenSpec.upto maglevKeepsSpec)

end Rows
end Go.Proofs.Ytmngagcekhlppaa
