/-
  No cell of these rows narrows 'for every input' (looked for: loops, veiled, ifaces, maps, wideKeys, modest, calm, conditions, laid).
  DERIVED. THE GIVEN ROWS OF THIS SEAT. 6 by the template 'for every input the law returns true; each argument reads behind the call as it read before'; 0 by the template 'total and deterministic' (their statements: YtkdliadigalgaaaTotals.lean).
  GIVEN WITH THE SEED: the statements are not yours to turn. If you find one false, say at which input.
  Laid BY PROGRAM, IN A SANDBOX (cutbox-rows.mjs): the forced cells as the released guide's own fill.sh prints them over the translation 2dc36a2dbb16316d… (all of the seat's roots in one cut). By AI agents, Wed Nov 11 2026. No macro, syntax, notation, axiom, sorry.
-/
import Derived.Test.YtkdliadigalgaaaChecked
import GoSem.Claim
import GoSem.ClaimJoined
import GoSem.ClaimMapViews
import Derived.JoinedTies
import Derived.KernelRfl
namespace Go.Proofs.Ytkdliadigalgaaa
/- THE CELL 'sum', in the pinned program and in every row, IS THE sha256 OF THE DUMP (.gsa) THAT YtkdliadigalgaaaProg.lean LOADS. Nothing in Lean hashes anything: it is a label: what it is worth is what the hold of that sum in a sandbox is worth. -/
noncomputable def Try.pinned : Pinned := { name := "ytkdliadigalgaaa", sum := "2dc36a2dbb16316d3f4b52dd91afaa3843c250d0df1433d81a8c640acb07d685", checked := Try.checked }
namespace Rows
def none {H : Type} : Left H := { results := [], args := [] }

/-- 'wayleavelaw08.FourReads': WHATEVER THE INPUT: true; the input reads as it did. -/
def fourReadsSpec : ChangeSpec := { name := "fourReads", fn := fun _ => fun
  | [d] => { results := [.lit (.bool true)], args := [d] }
  | _ => none }
def fourReadsRow : OpenClaim := { program := "ytkdliadigalgaaa", sum := "2dc36a2dbb16316d3f4b52dd91afaa3843c250d0df1433d81a8c640acb07d685", func := "wayleave/wayleavelaw08.FourReads", spec := "fourReads", unfollowed := true, recurses := true, apart := false }
def FourReadsSaid : Prop := fourReadsRow.holds Try.pinned (OpenSpec.ofChange fourReadsSpec)

/-- ITS FALSE NEIGHBOUR: 'it returns false'. Refute it at one input. -/
def fourReadsWrong : ChangeSpec := { name := "fourReads", fn := fun _ => fun
  | [d] => { results := [.lit (.bool false)], args := [d] }
  | _ => none }
def FourReadsWrongFalsely : Prop := fourReadsRow.holds Try.pinned (OpenSpec.ofChange fourReadsWrong)

/-- 'wayleavelaw08.FourPuts': WHATEVER THE INPUT: true; the input reads as it did. -/
def fourPutsSpec : ChangeSpec := { name := "fourPuts", fn := fun _ => fun
  | [d] => { results := [.lit (.bool true)], args := [d] }
  | _ => none }
def fourPutsRow : OpenClaim := { program := "ytkdliadigalgaaa", sum := "2dc36a2dbb16316d3f4b52dd91afaa3843c250d0df1433d81a8c640acb07d685", func := "wayleave/wayleavelaw08.FourPuts", spec := "fourPuts", unfollowed := true, recurses := true, apart := false }
def FourPutsSaid : Prop := fourPutsRow.holds Try.pinned (OpenSpec.ofChange fourPutsSpec)

/-- ITS FALSE NEIGHBOUR: 'it returns false'. Refute it at one input. -/
def fourPutsWrong : ChangeSpec := { name := "fourPuts", fn := fun _ => fun
  | [d] => { results := [.lit (.bool false)], args := [d] }
  | _ => none }
def FourPutsWrongFalsely : Prop := fourPutsRow.holds Try.pinned (OpenSpec.ofChange fourPutsWrong)

/-- 'wayleavelaw08.FourBack': WHATEVER THE INPUT: true; the input reads as it did. -/
def fourBackSpec : ChangeSpec := { name := "fourBack", fn := fun _ => fun
  | [d1, d2, d3, d4] => { results := [.lit (.bool true)], args := [d1, d2, d3, d4] }
  | _ => none }
def fourBackRow : OpenClaim := { program := "ytkdliadigalgaaa", sum := "2dc36a2dbb16316d3f4b52dd91afaa3843c250d0df1433d81a8c640acb07d685", func := "wayleave/wayleavelaw08.FourBack", spec := "fourBack", unfollowed := true, recurses := true, apart := false }
def FourBackSaid : Prop := fourBackRow.holds Try.pinned (OpenSpec.ofChange fourBackSpec)

/-- ITS FALSE NEIGHBOUR: 'it returns false'. Refute it at one input. -/
def fourBackWrong : ChangeSpec := { name := "fourBack", fn := fun _ => fun
  | [d1, d2, d3, d4] => { results := [.lit (.bool false)], args := [d1, d2, d3, d4] }
  | _ => none }
def FourBackWrongFalsely : Prop := fourBackRow.holds Try.pinned (OpenSpec.ofChange fourBackWrong)

/-- 'wayleavelaw08.FourSpoilt': WHATEVER THE INPUT: true; the input reads as it did. -/
def fourSpoiltSpec : ChangeSpec := { name := "fourSpoilt", fn := fun _ => fun
  | [d1, d2, d3] => { results := [.lit (.bool true)], args := [d1, d2, d3] }
  | _ => none }
def fourSpoiltRow : OpenClaim := { program := "ytkdliadigalgaaa", sum := "2dc36a2dbb16316d3f4b52dd91afaa3843c250d0df1433d81a8c640acb07d685", func := "wayleave/wayleavelaw08.FourSpoilt", spec := "fourSpoilt", unfollowed := true, recurses := true, apart := false }
def FourSpoiltSaid : Prop := fourSpoiltRow.holds Try.pinned (OpenSpec.ofChange fourSpoiltSpec)

/-- ITS FALSE NEIGHBOUR: 'it returns false'. Refute it at one input. -/
def fourSpoiltWrong : ChangeSpec := { name := "fourSpoilt", fn := fun _ => fun
  | [d1, d2, d3] => { results := [.lit (.bool false)], args := [d1, d2, d3] }
  | _ => none }
def FourSpoiltWrongFalsely : Prop := fourSpoiltRow.holds Try.pinned (OpenSpec.ofChange fourSpoiltWrong)

/-- 'wayleavelaw08.FourFlags': WHATEVER THE INPUT: true; the input reads as it did. -/
def fourFlagsSpec : ChangeSpec := { name := "fourFlags", fn := fun _ => fun
  | [d1, d2] => { results := [.lit (.bool true)], args := [d1, d2] }
  | _ => none }
def fourFlagsRow : OpenClaim := { program := "ytkdliadigalgaaa", sum := "2dc36a2dbb16316d3f4b52dd91afaa3843c250d0df1433d81a8c640acb07d685", func := "wayleave/wayleavelaw08.FourFlags", spec := "fourFlags", unfollowed := true, recurses := true, apart := false }
def FourFlagsSaid : Prop := fourFlagsRow.holds Try.pinned (OpenSpec.ofChange fourFlagsSpec)

/-- ITS FALSE NEIGHBOUR: 'it returns false'. Refute it at one input. -/
def fourFlagsWrong : ChangeSpec := { name := "fourFlags", fn := fun _ => fun
  | [d1, d2] => { results := [.lit (.bool false)], args := [d1, d2] }
  | _ => none }
def FourFlagsWrongFalsely : Prop := fourFlagsRow.holds Try.pinned (OpenSpec.ofChange fourFlagsWrong)

/-- 'wayleavelaw08.FourKeeps': WHATEVER THE INPUT: true; the input reads as it did. -/
def fourKeepsSpec : ChangeSpec := { name := "fourKeeps", fn := fun _ => fun
  | [d] => { results := [.lit (.bool true)], args := [d] }
  | _ => none }
def fourKeepsRow : OpenClaim := { program := "ytkdliadigalgaaa", sum := "2dc36a2dbb16316d3f4b52dd91afaa3843c250d0df1433d81a8c640acb07d685", func := "wayleave/wayleavelaw08.FourKeeps", spec := "fourKeeps", unfollowed := true, recurses := true, apart := false }
def FourKeepsSaid : Prop := fourKeepsRow.holds Try.pinned (OpenSpec.ofChange fourKeepsSpec)

/-- ITS FALSE NEIGHBOUR: 'it returns false'. Refute it at one input. -/
def fourKeepsWrong : ChangeSpec := { name := "fourKeeps", fn := fun _ => fun
  | [d] => { results := [.lit (.bool false)], args := [d] }
  | _ => none }
def FourKeepsWrongFalsely : Prop := fourKeepsRow.holds Try.pinned (OpenSpec.ofChange fourKeepsWrong)

/- THE SECOND FORM. 'bulk': how many values and letters a reading holds, each counted each time it is reached (what is shared counts as often as it is met; a slice's spare places count too). A statement '..UptoSaid' is the law's where the arguments, and the package variables that the reading takes, are together of bulk at most 1048576: NARROWER than '..Said'. Prove '..Said' where nothing that the law and all that it calls make is longer than what came in: it says more and counts as full. Else prove '..UptoSaid'. A law counts once. -/
mutual
def uptoBulk {H : Type} : DataW H → Nat
  | .lit (.string bytes) => bytes.length + 1
  | .lit _ => 1
  | .nil => 1
  | .ptr d => uptoBulk d + 1
  | .slice elems spare => uptoBulkAll elems + uptoBulkAll spare + 1
  | .agg parts => uptoBulkAll parts + 1
  | .iface _ d => uptoBulk d + 1
  | .map entries => uptoBulkEntries entries + 1
  | .held _ => 1
def uptoBulkAll {H : Type} : List (DataW H) → Nat
  | [] => 0
  | d :: r => uptoBulk d + uptoBulkAll r
def uptoBulkEntries {H : Type} : List (Lit × DataW H) → Nat
  | [] => 0
  | x :: r => uptoBulkEntry x + uptoBulkEntries r
def uptoBulkEntry {H : Type} : Lit × DataW H → Nat
  | (.string bytes, d) => bytes.length + uptoBulk d + 1
  | (_, d) => uptoBulk d + 1
 end
def uptoSmall : (H : Type) → List (DataW H) → Bool := fun _ ds => decide (uptoBulkAll ds ≤ 1048576)
def OpenSpec.upto (s : _root_.Go.ChangeSpec) : _root_.Go.OpenSpec := { _root_.Go.OpenSpec.ofChange s with cond := some uptoSmall }

/-- 'wayleavelaw08.FourReads', WHERE WHAT IT READS IS OF BULK AT MOST 1048576: true; the input reads as it did. -/
def fourReadsUptoRow : OpenClaim := { program := "ytkdliadigalgaaa", sum := "2dc36a2dbb16316d3f4b52dd91afaa3843c250d0df1433d81a8c640acb07d685", func := "wayleave/wayleavelaw08.FourReads", spec := "fourReads", unfollowed := true, recurses := true, apart := false, narrowed := true }
def FourReadsUptoSaid : Prop := fourReadsUptoRow.holds Try.pinned (OpenSpec.upto fourReadsSpec)

/-- 'wayleavelaw08.FourPuts', WHERE WHAT IT READS IS OF BULK AT MOST 1048576: true; the input reads as it did. -/
def fourPutsUptoRow : OpenClaim := { program := "ytkdliadigalgaaa", sum := "2dc36a2dbb16316d3f4b52dd91afaa3843c250d0df1433d81a8c640acb07d685", func := "wayleave/wayleavelaw08.FourPuts", spec := "fourPuts", unfollowed := true, recurses := true, apart := false, narrowed := true }
def FourPutsUptoSaid : Prop := fourPutsUptoRow.holds Try.pinned (OpenSpec.upto fourPutsSpec)

/-- 'wayleavelaw08.FourBack', WHERE WHAT IT READS IS OF BULK AT MOST 1048576: true; the input reads as it did. -/
def fourBackUptoRow : OpenClaim := { program := "ytkdliadigalgaaa", sum := "2dc36a2dbb16316d3f4b52dd91afaa3843c250d0df1433d81a8c640acb07d685", func := "wayleave/wayleavelaw08.FourBack", spec := "fourBack", unfollowed := true, recurses := true, apart := false, narrowed := true }
def FourBackUptoSaid : Prop := fourBackUptoRow.holds Try.pinned (OpenSpec.upto fourBackSpec)

/-- 'wayleavelaw08.FourSpoilt', WHERE WHAT IT READS IS OF BULK AT MOST 1048576: true; the input reads as it did. -/
def fourSpoiltUptoRow : OpenClaim := { program := "ytkdliadigalgaaa", sum := "2dc36a2dbb16316d3f4b52dd91afaa3843c250d0df1433d81a8c640acb07d685", func := "wayleave/wayleavelaw08.FourSpoilt", spec := "fourSpoilt", unfollowed := true, recurses := true, apart := false, narrowed := true }
def FourSpoiltUptoSaid : Prop := fourSpoiltUptoRow.holds Try.pinned (OpenSpec.upto fourSpoiltSpec)

/-- 'wayleavelaw08.FourFlags', WHERE WHAT IT READS IS OF BULK AT MOST 1048576: true; the input reads as it did. -/
def fourFlagsUptoRow : OpenClaim := { program := "ytkdliadigalgaaa", sum := "2dc36a2dbb16316d3f4b52dd91afaa3843c250d0df1433d81a8c640acb07d685", func := "wayleave/wayleavelaw08.FourFlags", spec := "fourFlags", unfollowed := true, recurses := true, apart := false, narrowed := true }
def FourFlagsUptoSaid : Prop := fourFlagsUptoRow.holds Try.pinned (OpenSpec.upto fourFlagsSpec)

/-- 'wayleavelaw08.FourKeeps', WHERE WHAT IT READS IS OF BULK AT MOST 1048576: true; the input reads as it did. -/
def fourKeepsUptoRow : OpenClaim := { program := "ytkdliadigalgaaa", sum := "2dc36a2dbb16316d3f4b52dd91afaa3843c250d0df1433d81a8c640acb07d685", func := "wayleave/wayleavelaw08.FourKeeps", spec := "fourKeeps", unfollowed := true, recurses := true, apart := false, narrowed := true }
def FourKeepsUptoSaid : Prop := fourKeepsUptoRow.holds Try.pinned (OpenSpec.upto fourKeepsSpec)

end Rows
end Go.Proofs.Ytkdliadigalgaaa
