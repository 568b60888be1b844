/-
  No cell of these rows narrows 'for every input' (looked for: loops, veiled, ifaces, maps, wideKeys, modest, calm, conditions, laid).
  DERIVED. THE GIVEN ROWS OF THIS SEAT. 6 by the template 'for every input the law returns true; each argument reads behind the call as it read before'; 0 by the template 'total and deterministic' (their statements: YthicbdjambmnpaaTotals.lean).
  GIVEN WITH THE SEED: the statements are not yours to turn. If you find one false, say at which input.
  Laid BY PROGRAM, IN A SANDBOX (cutbox-rows.mjs): the forced cells as the released guide's own fill.sh prints them over the translation a0276eea04936f3d… (all of the seat's roots in one cut). By AI agents, Wed Nov 11 2026. No macro, syntax, notation, axiom, sorry.
-/
import Derived.Test.YthicbdjambmnpaaChecked
import GoSem.Claim
import GoSem.ClaimJoined
import GoSem.ClaimMapViews
import Derived.JoinedTies
import Derived.KernelRfl
namespace Go.Proofs.Ythicbdjambmnpaa
/- THE CELL 'sum', in the pinned program and in every row, IS THE sha256 OF THE DUMP (.gsa) THAT YthicbdjambmnpaaProg.lean LOADS. Nothing in Lean hashes anything: it is a label: what it is worth is what the hold of that sum in a sandbox is worth. -/
noncomputable def Try.pinned : Pinned := { name := "ythicbdjambmnpaa", sum := "a0276eea04936f3d1cedca2fbea7125c31a845b3c16ee74dd56f44504e8387fd", checked := Try.checked }
namespace Rows
def none {H : Type} : Left H := { results := [], args := [] }

/-- 'wayleavelaw09.SixReads': WHATEVER THE INPUT: true; the input reads as it did. -/
def sixReadsSpec : ChangeSpec := { name := "sixReads", fn := fun _ => fun
  | [d] => { results := [.lit (.bool true)], args := [d] }
  | _ => none }
def sixReadsRow : OpenClaim := { program := "ythicbdjambmnpaa", sum := "a0276eea04936f3d1cedca2fbea7125c31a845b3c16ee74dd56f44504e8387fd", func := "wayleave/wayleavelaw09.SixReads", spec := "sixReads", unfollowed := true, recurses := true, apart := false }
def SixReadsSaid : Prop := sixReadsRow.holds Try.pinned (OpenSpec.ofChange sixReadsSpec)

/-- ITS FALSE NEIGHBOUR: 'it returns false'. Refute it at one input. -/
def sixReadsWrong : ChangeSpec := { name := "sixReads", fn := fun _ => fun
  | [d] => { results := [.lit (.bool false)], args := [d] }
  | _ => none }
def SixReadsWrongFalsely : Prop := sixReadsRow.holds Try.pinned (OpenSpec.ofChange sixReadsWrong)

/-- 'wayleavelaw09.SixPuts': WHATEVER THE INPUT: true; the input reads as it did. -/
def sixPutsSpec : ChangeSpec := { name := "sixPuts", fn := fun _ => fun
  | [d] => { results := [.lit (.bool true)], args := [d] }
  | _ => none }
def sixPutsRow : OpenClaim := { program := "ythicbdjambmnpaa", sum := "a0276eea04936f3d1cedca2fbea7125c31a845b3c16ee74dd56f44504e8387fd", func := "wayleave/wayleavelaw09.SixPuts", spec := "sixPuts", unfollowed := true, recurses := true, apart := false }
def SixPutsSaid : Prop := sixPutsRow.holds Try.pinned (OpenSpec.ofChange sixPutsSpec)

/-- ITS FALSE NEIGHBOUR: 'it returns false'. Refute it at one input. -/
def sixPutsWrong : ChangeSpec := { name := "sixPuts", fn := fun _ => fun
  | [d] => { results := [.lit (.bool false)], args := [d] }
  | _ => none }
def SixPutsWrongFalsely : Prop := sixPutsRow.holds Try.pinned (OpenSpec.ofChange sixPutsWrong)

/-- 'wayleavelaw09.SixBack': WHATEVER THE INPUT: true; the input reads as it did. -/
def sixBackSpec : ChangeSpec := { name := "sixBack", fn := fun _ => fun
  | [d1, d2, d3, d4] => { results := [.lit (.bool true)], args := [d1, d2, d3, d4] }
  | _ => none }
def sixBackRow : OpenClaim := { program := "ythicbdjambmnpaa", sum := "a0276eea04936f3d1cedca2fbea7125c31a845b3c16ee74dd56f44504e8387fd", func := "wayleave/wayleavelaw09.SixBack", spec := "sixBack", unfollowed := true, recurses := true, apart := false }
def SixBackSaid : Prop := sixBackRow.holds Try.pinned (OpenSpec.ofChange sixBackSpec)

/-- ITS FALSE NEIGHBOUR: 'it returns false'. Refute it at one input. -/
def sixBackWrong : ChangeSpec := { name := "sixBack", fn := fun _ => fun
  | [d1, d2, d3, d4] => { results := [.lit (.bool false)], args := [d1, d2, d3, d4] }
  | _ => none }
def SixBackWrongFalsely : Prop := sixBackRow.holds Try.pinned (OpenSpec.ofChange sixBackWrong)

/-- 'wayleavelaw09.SixFragments': WHATEVER THE INPUT: true; the input reads as it did. -/
def sixFragmentsSpec : ChangeSpec := { name := "sixFragments", fn := fun _ => fun
  | [d1, d2, d3, d4, d5] => { results := [.lit (.bool true)], args := [d1, d2, d3, d4, d5] }
  | _ => none }
def sixFragmentsRow : OpenClaim := { program := "ythicbdjambmnpaa", sum := "a0276eea04936f3d1cedca2fbea7125c31a845b3c16ee74dd56f44504e8387fd", func := "wayleave/wayleavelaw09.SixFragments", spec := "sixFragments", unfollowed := true, recurses := true, apart := false }
def SixFragmentsSaid : Prop := sixFragmentsRow.holds Try.pinned (OpenSpec.ofChange sixFragmentsSpec)

/-- ITS FALSE NEIGHBOUR: 'it returns false'. Refute it at one input. -/
def sixFragmentsWrong : ChangeSpec := { name := "sixFragments", fn := fun _ => fun
  | [d1, d2, d3, d4, d5] => { results := [.lit (.bool false)], args := [d1, d2, d3, d4, d5] }
  | _ => none }
def SixFragmentsWrongFalsely : Prop := sixFragmentsRow.holds Try.pinned (OpenSpec.ofChange sixFragmentsWrong)

/-- 'wayleavelaw09.SixMany': WHATEVER THE INPUT: true; the input reads as it did. -/
def sixManySpec : ChangeSpec := { name := "sixMany", fn := fun _ => fun
  | [d1, d2, d3, d4] => { results := [.lit (.bool true)], args := [d1, d2, d3, d4] }
  | _ => none }
def sixManyRow : OpenClaim := { program := "ythicbdjambmnpaa", sum := "a0276eea04936f3d1cedca2fbea7125c31a845b3c16ee74dd56f44504e8387fd", func := "wayleave/wayleavelaw09.SixMany", spec := "sixMany", unfollowed := true, recurses := true, apart := false }
def SixManySaid : Prop := sixManyRow.holds Try.pinned (OpenSpec.ofChange sixManySpec)

/-- ITS FALSE NEIGHBOUR: 'it returns false'. Refute it at one input. -/
def sixManyWrong : ChangeSpec := { name := "sixMany", fn := fun _ => fun
  | [d1, d2, d3, d4] => { results := [.lit (.bool false)], args := [d1, d2, d3, d4] }
  | _ => none }
def SixManyWrongFalsely : Prop := sixManyRow.holds Try.pinned (OpenSpec.ofChange sixManyWrong)

/-- 'wayleavelaw09.SixKeeps': WHATEVER THE INPUT: true; the input reads as it did. -/
def sixKeepsSpec : ChangeSpec := { name := "sixKeeps", fn := fun _ => fun
  | [d] => { results := [.lit (.bool true)], args := [d] }
  | _ => none }
def sixKeepsRow : OpenClaim := { program := "ythicbdjambmnpaa", sum := "a0276eea04936f3d1cedca2fbea7125c31a845b3c16ee74dd56f44504e8387fd", func := "wayleave/wayleavelaw09.SixKeeps", spec := "sixKeeps", unfollowed := true, recurses := true, apart := false }
def SixKeepsSaid : Prop := sixKeepsRow.holds Try.pinned (OpenSpec.ofChange sixKeepsSpec)

/-- ITS FALSE NEIGHBOUR: 'it returns false'. Refute it at one input. -/
def sixKeepsWrong : ChangeSpec := { name := "sixKeeps", fn := fun _ => fun
  | [d] => { results := [.lit (.bool false)], args := [d] }
  | _ => none }
def SixKeepsWrongFalsely : Prop := sixKeepsRow.holds Try.pinned (OpenSpec.ofChange sixKeepsWrong)

/- THE SECOND FORM. 'bulk': how many values and letters a reading holds, each counted each time it is reached (what is shared counts as often as it is met; a slice's spare places count too). A statement '..UptoSaid' is the law's where the arguments, and the package variables that the reading takes, are together of bulk at most 1048576: NARROWER than '..Said'. Prove '..Said' where nothing that the law and all that it calls make is longer than what came in: it says more and counts as full. Else prove '..UptoSaid'. A law counts once. -/
mutual
def uptoBulk {H : Type} : DataW H → Nat
  | .lit (.string bytes) => bytes.length + 1
  | .lit _ => 1
  | .nil => 1
  | .ptr d => uptoBulk d + 1
  | .slice elems spare => uptoBulkAll elems + uptoBulkAll spare + 1
  | .agg parts => uptoBulkAll parts + 1
  | .iface _ d => uptoBulk d + 1
  | .map entries => uptoBulkEntries entries + 1
  | .held _ => 1
def uptoBulkAll {H : Type} : List (DataW H) → Nat
  | [] => 0
  | d :: r => uptoBulk d + uptoBulkAll r
def uptoBulkEntries {H : Type} : List (Lit × DataW H) → Nat
  | [] => 0
  | x :: r => uptoBulkEntry x + uptoBulkEntries r
def uptoBulkEntry {H : Type} : Lit × DataW H → Nat
  | (.string bytes, d) => bytes.length + uptoBulk d + 1
  | (_, d) => uptoBulk d + 1
 end
def uptoSmall : (H : Type) → List (DataW H) → Bool := fun _ ds => decide (uptoBulkAll ds ≤ 1048576)
def OpenSpec.upto (s : _root_.Go.ChangeSpec) : _root_.Go.OpenSpec := { _root_.Go.OpenSpec.ofChange s with cond := some uptoSmall }

/-- 'wayleavelaw09.SixReads', WHERE WHAT IT READS IS OF BULK AT MOST 1048576: true; the input reads as it did. -/
def sixReadsUptoRow : OpenClaim := { program := "ythicbdjambmnpaa", sum := "a0276eea04936f3d1cedca2fbea7125c31a845b3c16ee74dd56f44504e8387fd", func := "wayleave/wayleavelaw09.SixReads", spec := "sixReads", unfollowed := true, recurses := true, apart := false, narrowed := true }
def SixReadsUptoSaid : Prop := sixReadsUptoRow.holds Try.pinned (OpenSpec.upto sixReadsSpec)

/-- 'wayleavelaw09.SixPuts', WHERE WHAT IT READS IS OF BULK AT MOST 1048576: true; the input reads as it did. -/
def sixPutsUptoRow : OpenClaim := { program := "ythicbdjambmnpaa", sum := "a0276eea04936f3d1cedca2fbea7125c31a845b3c16ee74dd56f44504e8387fd", func := "wayleave/wayleavelaw09.SixPuts", spec := "sixPuts", unfollowed := true, recurses := true, apart := false, narrowed := true }
def SixPutsUptoSaid : Prop := sixPutsUptoRow.holds Try.pinned (OpenSpec.upto sixPutsSpec)

/-- 'wayleavelaw09.SixBack', WHERE WHAT IT READS IS OF BULK AT MOST 1048576: true; the input reads as it did. -/
def sixBackUptoRow : OpenClaim := { program := "ythicbdjambmnpaa", sum := "a0276eea04936f3d1cedca2fbea7125c31a845b3c16ee74dd56f44504e8387fd", func := "wayleave/wayleavelaw09.SixBack", spec := "sixBack", unfollowed := true, recurses := true, apart := false, narrowed := true }
def SixBackUptoSaid : Prop := sixBackUptoRow.holds Try.pinned (OpenSpec.upto sixBackSpec)

/-- 'wayleavelaw09.SixFragments', WHERE WHAT IT READS IS OF BULK AT MOST 1048576: true; the input reads as it did. -/
def sixFragmentsUptoRow : OpenClaim := { program := "ythicbdjambmnpaa", sum := "a0276eea04936f3d1cedca2fbea7125c31a845b3c16ee74dd56f44504e8387fd", func := "wayleave/wayleavelaw09.SixFragments", spec := "sixFragments", unfollowed := true, recurses := true, apart := false, narrowed := true }
def SixFragmentsUptoSaid : Prop := sixFragmentsUptoRow.holds Try.pinned (OpenSpec.upto sixFragmentsSpec)

/-- 'wayleavelaw09.SixMany', WHERE WHAT IT READS IS OF BULK AT MOST 1048576: true; the input reads as it did. -/
def sixManyUptoRow : OpenClaim := { program := "ythicbdjambmnpaa", sum := "a0276eea04936f3d1cedca2fbea7125c31a845b3c16ee74dd56f44504e8387fd", func := "wayleave/wayleavelaw09.SixMany", spec := "sixMany", unfollowed := true, recurses := true, apart := false, narrowed := true }
def SixManyUptoSaid : Prop := sixManyUptoRow.holds Try.pinned (OpenSpec.upto sixManySpec)

/-- 'wayleavelaw09.SixKeeps', WHERE WHAT IT READS IS OF BULK AT MOST 1048576: true; the input reads as it did. -/
def sixKeepsUptoRow : OpenClaim := { program := "ythicbdjambmnpaa", sum := "a0276eea04936f3d1cedca2fbea7125c31a845b3c16ee74dd56f44504e8387fd", func := "wayleave/wayleavelaw09.SixKeeps", spec := "sixKeeps", unfollowed := true, recurses := true, apart := false, narrowed := true }
def SixKeepsUptoSaid : Prop := sixKeepsUptoRow.holds Try.pinned (OpenSpec.upto sixKeepsSpec)

end Rows
end Go.Proofs.Ythicbdjambmnpaa
