/-
  No cell of these rows narrows 'for every input' (looked for: loops, veiled, ifaces, maps, wideKeys, modest, calm, conditions, laid).
  DERIVED. THE GIVEN ROWS OF THIS SEAT. 6 by the template 'for every input the law returns true; each argument reads behind the call as it read before'; 0 by the template 'total and deterministic' (their statements: YtbahlhafckkapaaTotals.lean).
  GIVEN WITH THE SEED: the statements are not yours to turn. If you find one false, say at which input.
  Laid BY PROGRAM, IN A SANDBOX (cutbox-rows.mjs): the forced cells as the released guide's own fill.sh prints them over the translation 5ca0e1e53a614a3a… (all of the seat's roots in one cut). By AI agents, Wed Nov 11 2026. No macro, syntax, notation, axiom, sorry.
-/
import Derived.Test.YtbahlhafckkapaaChecked
import GoSem.Claim
import GoSem.ClaimJoined
import GoSem.ClaimMapViews
import Derived.JoinedTies
import Derived.KernelRfl
namespace Go.Proofs.Ytbahlhafckkapaa
/- THE CELL 'sum', in the pinned program and in every row, IS THE sha256 OF THE DUMP (.gsa) THAT YtbahlhafckkapaaProg.lean LOADS. Nothing in Lean hashes anything: it is a label: what it is worth is what the hold of that sum in a sandbox is worth. -/
noncomputable def Try.pinned : Pinned := { name := "ytbahlhafckkapaa", sum := "5ca0e1e53a614a3ae36aabb8d30b7f41ba4ef4022f9e254a56a0401eea00f96c", checked := Try.checked }
namespace Rows
def none {H : Type} : Left H := { results := [], args := [] }

/-- 'wayleavelaw07.LinkReads': WHATEVER THE INPUT: true; the input reads as it did. -/
def linkReadsSpec : ChangeSpec := { name := "linkReads", fn := fun _ => fun
  | [d] => { results := [.lit (.bool true)], args := [d] }
  | _ => none }
def linkReadsRow : OpenClaim := { program := "ytbahlhafckkapaa", sum := "5ca0e1e53a614a3ae36aabb8d30b7f41ba4ef4022f9e254a56a0401eea00f96c", func := "wayleave/wayleavelaw07.LinkReads", spec := "linkReads", unfollowed := true, recurses := true, apart := false }
def LinkReadsSaid : Prop := linkReadsRow.holds Try.pinned (OpenSpec.ofChange linkReadsSpec)

/-- ITS FALSE NEIGHBOUR: 'it returns false'. Refute it at one input. -/
def linkReadsWrong : ChangeSpec := { name := "linkReads", fn := fun _ => fun
  | [d] => { results := [.lit (.bool false)], args := [d] }
  | _ => none }
def LinkReadsWrongFalsely : Prop := linkReadsRow.holds Try.pinned (OpenSpec.ofChange linkReadsWrong)

/-- 'wayleavelaw07.LinkPuts': WHATEVER THE INPUT: true; the input reads as it did. -/
def linkPutsSpec : ChangeSpec := { name := "linkPuts", fn := fun _ => fun
  | [d] => { results := [.lit (.bool true)], args := [d] }
  | _ => none }
def linkPutsRow : OpenClaim := { program := "ytbahlhafckkapaa", sum := "5ca0e1e53a614a3ae36aabb8d30b7f41ba4ef4022f9e254a56a0401eea00f96c", func := "wayleave/wayleavelaw07.LinkPuts", spec := "linkPuts", unfollowed := true, recurses := true, apart := false }
def LinkPutsSaid : Prop := linkPutsRow.holds Try.pinned (OpenSpec.ofChange linkPutsSpec)

/-- ITS FALSE NEIGHBOUR: 'it returns false'. Refute it at one input. -/
def linkPutsWrong : ChangeSpec := { name := "linkPuts", fn := fun _ => fun
  | [d] => { results := [.lit (.bool false)], args := [d] }
  | _ => none }
def LinkPutsWrongFalsely : Prop := linkPutsRow.holds Try.pinned (OpenSpec.ofChange linkPutsWrong)

/-- 'wayleavelaw07.LinkBack': WHATEVER THE INPUT: true; the input reads as it did. -/
def linkBackSpec : ChangeSpec := { name := "linkBack", fn := fun _ => fun
  | [d1, d2, d3] => { results := [.lit (.bool true)], args := [d1, d2, d3] }
  | _ => none }
def linkBackRow : OpenClaim := { program := "ytbahlhafckkapaa", sum := "5ca0e1e53a614a3ae36aabb8d30b7f41ba4ef4022f9e254a56a0401eea00f96c", func := "wayleave/wayleavelaw07.LinkBack", spec := "linkBack", unfollowed := true, recurses := true, apart := false }
def LinkBackSaid : Prop := linkBackRow.holds Try.pinned (OpenSpec.ofChange linkBackSpec)

/-- ITS FALSE NEIGHBOUR: 'it returns false'. Refute it at one input. -/
def linkBackWrong : ChangeSpec := { name := "linkBack", fn := fun _ => fun
  | [d1, d2, d3] => { results := [.lit (.bool false)], args := [d1, d2, d3] }
  | _ => none }
def LinkBackWrongFalsely : Prop := linkBackRow.holds Try.pinned (OpenSpec.ofChange linkBackWrong)

/-- 'wayleavelaw07.LinkOnly': WHATEVER THE INPUT: true; the input reads as it did. -/
def linkOnlySpec : ChangeSpec := { name := "linkOnly", fn := fun _ => fun
  | [d] => { results := [.lit (.bool true)], args := [d] }
  | _ => none }
def linkOnlyRow : OpenClaim := { program := "ytbahlhafckkapaa", sum := "5ca0e1e53a614a3ae36aabb8d30b7f41ba4ef4022f9e254a56a0401eea00f96c", func := "wayleave/wayleavelaw07.LinkOnly", spec := "linkOnly", unfollowed := true, recurses := true, apart := false }
def LinkOnlySaid : Prop := linkOnlyRow.holds Try.pinned (OpenSpec.ofChange linkOnlySpec)

/-- ITS FALSE NEIGHBOUR: 'it returns false'. Refute it at one input. -/
def linkOnlyWrong : ChangeSpec := { name := "linkOnly", fn := fun _ => fun
  | [d] => { results := [.lit (.bool false)], args := [d] }
  | _ => none }
def LinkOnlyWrongFalsely : Prop := linkOnlyRow.holds Try.pinned (OpenSpec.ofChange linkOnlyWrong)

/-- 'wayleavelaw07.LinkTurns': WHATEVER THE INPUT: true; the input reads as it did. -/
def linkTurnsSpec : ChangeSpec := { name := "linkTurns", fn := fun _ => fun
  | [d1, d2, d3] => { results := [.lit (.bool true)], args := [d1, d2, d3] }
  | _ => none }
def linkTurnsRow : OpenClaim := { program := "ytbahlhafckkapaa", sum := "5ca0e1e53a614a3ae36aabb8d30b7f41ba4ef4022f9e254a56a0401eea00f96c", func := "wayleave/wayleavelaw07.LinkTurns", spec := "linkTurns", unfollowed := true, recurses := true, apart := false }
def LinkTurnsSaid : Prop := linkTurnsRow.holds Try.pinned (OpenSpec.ofChange linkTurnsSpec)

/-- ITS FALSE NEIGHBOUR: 'it returns false'. Refute it at one input. -/
def linkTurnsWrong : ChangeSpec := { name := "linkTurns", fn := fun _ => fun
  | [d1, d2, d3] => { results := [.lit (.bool false)], args := [d1, d2, d3] }
  | _ => none }
def LinkTurnsWrongFalsely : Prop := linkTurnsRow.holds Try.pinned (OpenSpec.ofChange linkTurnsWrong)

/-- 'wayleavelaw07.LinkKeeps': WHATEVER THE INPUT: true; the input reads as it did. -/
def linkKeepsSpec : ChangeSpec := { name := "linkKeeps", fn := fun _ => fun
  | [d1, d2] => { results := [.lit (.bool true)], args := [d1, d2] }
  | _ => none }
def linkKeepsRow : OpenClaim := { program := "ytbahlhafckkapaa", sum := "5ca0e1e53a614a3ae36aabb8d30b7f41ba4ef4022f9e254a56a0401eea00f96c", func := "wayleave/wayleavelaw07.LinkKeeps", spec := "linkKeeps", unfollowed := true, recurses := true, apart := false }
def LinkKeepsSaid : Prop := linkKeepsRow.holds Try.pinned (OpenSpec.ofChange linkKeepsSpec)

/-- ITS FALSE NEIGHBOUR: 'it returns false'. Refute it at one input. -/
def linkKeepsWrong : ChangeSpec := { name := "linkKeeps", fn := fun _ => fun
  | [d1, d2] => { results := [.lit (.bool false)], args := [d1, d2] }
  | _ => none }
def LinkKeepsWrongFalsely : Prop := linkKeepsRow.holds Try.pinned (OpenSpec.ofChange linkKeepsWrong)

/- THE SECOND FORM. 'bulk': how many values and letters a reading holds, each counted each time it is reached (what is shared counts as often as it is met; a slice's spare places count too). A statement '..UptoSaid' is the law's where the arguments, and the package variables that the reading takes, are together of bulk at most 1048576: NARROWER than '..Said'. Prove '..Said' where nothing that the law and all that it calls make is longer than what came in: it says more and counts as full. Else prove '..UptoSaid'. A law counts once. -/
mutual
def uptoBulk {H : Type} : DataW H → Nat
  | .lit (.string bytes) => bytes.length + 1
  | .lit _ => 1
  | .nil => 1
  | .ptr d => uptoBulk d + 1
  | .slice elems spare => uptoBulkAll elems + uptoBulkAll spare + 1
  | .agg parts => uptoBulkAll parts + 1
  | .iface _ d => uptoBulk d + 1
  | .map entries => uptoBulkEntries entries + 1
  | .held _ => 1
def uptoBulkAll {H : Type} : List (DataW H) → Nat
  | [] => 0
  | d :: r => uptoBulk d + uptoBulkAll r
def uptoBulkEntries {H : Type} : List (Lit × DataW H) → Nat
  | [] => 0
  | x :: r => uptoBulkEntry x + uptoBulkEntries r
def uptoBulkEntry {H : Type} : Lit × DataW H → Nat
  | (.string bytes, d) => bytes.length + uptoBulk d + 1
  | (_, d) => uptoBulk d + 1
 end
def uptoSmall : (H : Type) → List (DataW H) → Bool := fun _ ds => decide (uptoBulkAll ds ≤ 1048576)
def OpenSpec.upto (s : _root_.Go.ChangeSpec) : _root_.Go.OpenSpec := { _root_.Go.OpenSpec.ofChange s with cond := some uptoSmall }

/-- 'wayleavelaw07.LinkReads', WHERE WHAT IT READS IS OF BULK AT MOST 1048576: true; the input reads as it did. -/
def linkReadsUptoRow : OpenClaim := { program := "ytbahlhafckkapaa", sum := "5ca0e1e53a614a3ae36aabb8d30b7f41ba4ef4022f9e254a56a0401eea00f96c", func := "wayleave/wayleavelaw07.LinkReads", spec := "linkReads", unfollowed := true, recurses := true, apart := false, narrowed := true }
def LinkReadsUptoSaid : Prop := linkReadsUptoRow.holds Try.pinned (OpenSpec.upto linkReadsSpec)

/-- 'wayleavelaw07.LinkPuts', WHERE WHAT IT READS IS OF BULK AT MOST 1048576: true; the input reads as it did. -/
def linkPutsUptoRow : OpenClaim := { program := "ytbahlhafckkapaa", sum := "5ca0e1e53a614a3ae36aabb8d30b7f41ba4ef4022f9e254a56a0401eea00f96c", func := "wayleave/wayleavelaw07.LinkPuts", spec := "linkPuts", unfollowed := true, recurses := true, apart := false, narrowed := true }
def LinkPutsUptoSaid : Prop := linkPutsUptoRow.holds Try.pinned (OpenSpec.upto linkPutsSpec)

/-- 'wayleavelaw07.LinkBack', WHERE WHAT IT READS IS OF BULK AT MOST 1048576: true; the input reads as it did. -/
def linkBackUptoRow : OpenClaim := { program := "ytbahlhafckkapaa", sum := "5ca0e1e53a614a3ae36aabb8d30b7f41ba4ef4022f9e254a56a0401eea00f96c", func := "wayleave/wayleavelaw07.LinkBack", spec := "linkBack", unfollowed := true, recurses := true, apart := false, narrowed := true }
def LinkBackUptoSaid : Prop := linkBackUptoRow.holds Try.pinned (OpenSpec.upto linkBackSpec)

/-- 'wayleavelaw07.LinkOnly', WHERE WHAT IT READS IS OF BULK AT MOST 1048576: true; the input reads as it did. -/
def linkOnlyUptoRow : OpenClaim := { program := "ytbahlhafckkapaa", sum := "5ca0e1e53a614a3ae36aabb8d30b7f41ba4ef4022f9e254a56a0401eea00f96c", func := "wayleave/wayleavelaw07.LinkOnly", spec := "linkOnly", unfollowed := true, recurses := true, apart := false, narrowed := true }
def LinkOnlyUptoSaid : Prop := linkOnlyUptoRow.holds Try.pinned (OpenSpec.upto linkOnlySpec)

/-- 'wayleavelaw07.LinkTurns', WHERE WHAT IT READS IS OF BULK AT MOST 1048576: true; the input reads as it did. -/
def linkTurnsUptoRow : OpenClaim := { program := "ytbahlhafckkapaa", sum := "5ca0e1e53a614a3ae36aabb8d30b7f41ba4ef4022f9e254a56a0401eea00f96c", func := "wayleave/wayleavelaw07.LinkTurns", spec := "linkTurns", unfollowed := true, recurses := true, apart := false, narrowed := true }
def LinkTurnsUptoSaid : Prop := linkTurnsUptoRow.holds Try.pinned (OpenSpec.upto linkTurnsSpec)

/-- 'wayleavelaw07.LinkKeeps', WHERE WHAT IT READS IS OF BULK AT MOST 1048576: true; the input reads as it did. -/
def linkKeepsUptoRow : OpenClaim := { program := "ytbahlhafckkapaa", sum := "5ca0e1e53a614a3ae36aabb8d30b7f41ba4ef4022f9e254a56a0401eea00f96c", func := "wayleave/wayleavelaw07.LinkKeeps", spec := "linkKeeps", unfollowed := true, recurses := true, apart := false, narrowed := true }
def LinkKeepsUptoSaid : Prop := linkKeepsUptoRow.holds Try.pinned (OpenSpec.upto linkKeepsSpec)

end Rows
end Go.Proofs.Ytbahlhafckkapaa
