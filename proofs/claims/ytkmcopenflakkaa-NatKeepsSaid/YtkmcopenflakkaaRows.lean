/-
  No cell of these rows narrows 'for every input' (looked for: loops, veiled, ifaces, maps, wideKeys, modest, calm, conditions, laid).
  DERIVED. THE GIVEN ROWS OF THIS SEAT. 6 by the template 'for every input the law returns true; each argument reads behind the call as it read before'; 0 by the template 'total and deterministic' (their statements: YtkmcopenflakkaaTotals.lean).
  GIVEN WITH THE SEED: the statements are not yours to turn. If you find one false, say at which input.
  Laid BY PROGRAM, IN A SANDBOX (cutbox-rows.mjs): the forced cells as the released guide's own fill.sh prints them over the translation 1879481d6c509517… (all of the seat's roots in one cut). By AI agents, Wed Nov 11 2026. No macro, syntax, notation, axiom, sorry.
-/
import Derived.Test.YtkmcopenflakkaaChecked
import GoSem.Claim
import GoSem.ClaimJoined
import GoSem.ClaimMapViews
import Derived.JoinedTies
import Derived.KernelRfl
namespace Go.Proofs.Ytkmcopenflakkaa
/- THE CELL 'sum', in the pinned program and in every row, IS THE sha256 OF THE DUMP (.gsa) THAT YtkmcopenflakkaaProg.lean LOADS. Nothing in Lean hashes anything: it is a label: what it is worth is what the hold of that sum in a sandbox is worth. -/
noncomputable def Try.pinned : Pinned := { name := "ytkmcopenflakkaa", sum := "1879481d6c509517bee7f3126e6df763f715d263aef3d5ba4e6ab9cf185dbc3c", checked := Try.checked }
namespace Rows
def none {H : Type} : Left H := { results := [], args := [] }

/-- 'wayleavelaw12.NatRewrites': WHATEVER THE INPUT: true; the input reads as it did. -/
def natRewritesSpec : ChangeSpec := { name := "natRewrites", fn := fun _ => fun
  | [d1, d2, d3] => { results := [.lit (.bool true)], args := [d1, d2, d3] }
  | _ => none }
def natRewritesRow : OpenClaim := { program := "ytkmcopenflakkaa", sum := "1879481d6c509517bee7f3126e6df763f715d263aef3d5ba4e6ab9cf185dbc3c", func := "wayleave/wayleavelaw12.NatRewrites", spec := "natRewrites", unfollowed := true, recurses := true, apart := false }
def NatRewritesSaid : Prop := natRewritesRow.holds Try.pinned (OpenSpec.ofChange natRewritesSpec)

/-- ITS FALSE NEIGHBOUR: 'it returns false'. Refute it at one input. -/
def natRewritesWrong : ChangeSpec := { name := "natRewrites", fn := fun _ => fun
  | [d1, d2, d3] => { results := [.lit (.bool false)], args := [d1, d2, d3] }
  | _ => none }
def NatRewritesWrongFalsely : Prop := natRewritesRow.holds Try.pinned (OpenSpec.ofChange natRewritesWrong)

/-- 'wayleavelaw12.NatTuples': WHATEVER THE INPUT: true; the input reads as it did. -/
def natTuplesSpec : ChangeSpec := { name := "natTuples", fn := fun _ => fun
  | [d1, d2, d3, d4] => { results := [.lit (.bool true)], args := [d1, d2, d3, d4] }
  | _ => none }
def natTuplesRow : OpenClaim := { program := "ytkmcopenflakkaa", sum := "1879481d6c509517bee7f3126e6df763f715d263aef3d5ba4e6ab9cf185dbc3c", func := "wayleave/wayleavelaw12.NatTuples", spec := "natTuples", unfollowed := true, recurses := true, apart := false }
def NatTuplesSaid : Prop := natTuplesRow.holds Try.pinned (OpenSpec.ofChange natTuplesSpec)

/-- ITS FALSE NEIGHBOUR: 'it returns false'. Refute it at one input. -/
def natTuplesWrong : ChangeSpec := { name := "natTuples", fn := fun _ => fun
  | [d1, d2, d3, d4] => { results := [.lit (.bool false)], args := [d1, d2, d3, d4] }
  | _ => none }
def NatTuplesWrongFalsely : Prop := natTuplesRow.holds Try.pinned (OpenSpec.ofChange natTuplesWrong)

/-- 'wayleavelaw12.NatRight': WHATEVER THE INPUT: true; the input reads as it did. -/
def natRightSpec : ChangeSpec := { name := "natRight", fn := fun _ => fun
  | [d1, d2, d3, d4] => { results := [.lit (.bool true)], args := [d1, d2, d3, d4] }
  | _ => none }
def natRightRow : OpenClaim := { program := "ytkmcopenflakkaa", sum := "1879481d6c509517bee7f3126e6df763f715d263aef3d5ba4e6ab9cf185dbc3c", func := "wayleave/wayleavelaw12.NatRight", spec := "natRight", unfollowed := true, recurses := true, apart := false }
def NatRightSaid : Prop := natRightRow.holds Try.pinned (OpenSpec.ofChange natRightSpec)

/-- ITS FALSE NEIGHBOUR: 'it returns false'. Refute it at one input. -/
def natRightWrong : ChangeSpec := { name := "natRight", fn := fun _ => fun
  | [d1, d2, d3, d4] => { results := [.lit (.bool false)], args := [d1, d2, d3, d4] }
  | _ => none }
def NatRightWrongFalsely : Prop := natRightRow.holds Try.pinned (OpenSpec.ofChange natRightWrong)

/-- 'wayleavelaw12.NatMade': WHATEVER THE INPUT: true; the input reads as it did. -/
def natMadeSpec : ChangeSpec := { name := "natMade", fn := fun _ => fun
  | [d1, d2, d3, d4, d5, d6] => { results := [.lit (.bool true)], args := [d1, d2, d3, d4, d5, d6] }
  | _ => none }
def natMadeRow : OpenClaim := { program := "ytkmcopenflakkaa", sum := "1879481d6c509517bee7f3126e6df763f715d263aef3d5ba4e6ab9cf185dbc3c", func := "wayleave/wayleavelaw12.NatMade", spec := "natMade", unfollowed := true, recurses := true, apart := false }
def NatMadeSaid : Prop := natMadeRow.holds Try.pinned (OpenSpec.ofChange natMadeSpec)

/-- ITS FALSE NEIGHBOUR: 'it returns false'. Refute it at one input. -/
def natMadeWrong : ChangeSpec := { name := "natMade", fn := fun _ => fun
  | [d1, d2, d3, d4, d5, d6] => { results := [.lit (.bool false)], args := [d1, d2, d3, d4, d5, d6] }
  | _ => none }
def NatMadeWrongFalsely : Prop := natMadeRow.holds Try.pinned (OpenSpec.ofChange natMadeWrong)

/-- 'wayleavelaw12.NatBack': WHATEVER THE INPUT: true; the input reads as it did. -/
def natBackSpec : ChangeSpec := { name := "natBack", fn := fun _ => fun
  | [d1, d2, d3, d4, d5] => { results := [.lit (.bool true)], args := [d1, d2, d3, d4, d5] }
  | _ => none }
def natBackRow : OpenClaim := { program := "ytkmcopenflakkaa", sum := "1879481d6c509517bee7f3126e6df763f715d263aef3d5ba4e6ab9cf185dbc3c", func := "wayleave/wayleavelaw12.NatBack", spec := "natBack", unfollowed := true, recurses := true, apart := false }
def NatBackSaid : Prop := natBackRow.holds Try.pinned (OpenSpec.ofChange natBackSpec)

/-- ITS FALSE NEIGHBOUR: 'it returns false'. Refute it at one input. -/
def natBackWrong : ChangeSpec := { name := "natBack", fn := fun _ => fun
  | [d1, d2, d3, d4, d5] => { results := [.lit (.bool false)], args := [d1, d2, d3, d4, d5] }
  | _ => none }
def NatBackWrongFalsely : Prop := natBackRow.holds Try.pinned (OpenSpec.ofChange natBackWrong)

/-- 'wayleavelaw12.NatKeeps': WHATEVER THE INPUT: true; the input reads as it did. -/
def natKeepsSpec : ChangeSpec := { name := "natKeeps", fn := fun _ => fun
  | [d1, d2, d3] => { results := [.lit (.bool true)], args := [d1, d2, d3] }
  | _ => none }
def natKeepsRow : OpenClaim := { program := "ytkmcopenflakkaa", sum := "1879481d6c509517bee7f3126e6df763f715d263aef3d5ba4e6ab9cf185dbc3c", func := "wayleave/wayleavelaw12.NatKeeps", spec := "natKeeps", unfollowed := true, recurses := true, apart := false }
def NatKeepsSaid : Prop := natKeepsRow.holds Try.pinned (OpenSpec.ofChange natKeepsSpec)

/-- ITS FALSE NEIGHBOUR: 'it returns false'. Refute it at one input. -/
def natKeepsWrong : ChangeSpec := { name := "natKeeps", fn := fun _ => fun
  | [d1, d2, d3] => { results := [.lit (.bool false)], args := [d1, d2, d3] }
  | _ => none }
def NatKeepsWrongFalsely : Prop := natKeepsRow.holds Try.pinned (OpenSpec.ofChange natKeepsWrong)

/- THE SECOND FORM. 'bulk': how many values and letters a reading holds, each counted each time it is reached (what is shared counts as often as it is met; a slice's spare places count too). A statement '..UptoSaid' is the law's where the arguments, and the package variables that the reading takes, are together of bulk at most 1048576: NARROWER than '..Said'. Prove '..Said' where nothing that the law and all that it calls make is longer than what came in: it says more and counts as full. Else prove '..UptoSaid'. A law counts once. -/
mutual
def uptoBulk {H : Type} : DataW H → Nat
  | .lit (.string bytes) => bytes.length + 1
  | .lit _ => 1
  | .nil => 1
  | .ptr d => uptoBulk d + 1
  | .slice elems spare => uptoBulkAll elems + uptoBulkAll spare + 1
  | .agg parts => uptoBulkAll parts + 1
  | .iface _ d => uptoBulk d + 1
  | .map entries => uptoBulkEntries entries + 1
  | .held _ => 1
def uptoBulkAll {H : Type} : List (DataW H) → Nat
  | [] => 0
  | d :: r => uptoBulk d + uptoBulkAll r
def uptoBulkEntries {H : Type} : List (Lit × DataW H) → Nat
  | [] => 0
  | x :: r => uptoBulkEntry x + uptoBulkEntries r
def uptoBulkEntry {H : Type} : Lit × DataW H → Nat
  | (.string bytes, d) => bytes.length + uptoBulk d + 1
  | (_, d) => uptoBulk d + 1
 end
def uptoSmall : (H : Type) → List (DataW H) → Bool := fun _ ds => decide (uptoBulkAll ds ≤ 1048576)
def OpenSpec.upto (s : _root_.Go.ChangeSpec) : _root_.Go.OpenSpec := { _root_.Go.OpenSpec.ofChange s with cond := some uptoSmall }

/-- 'wayleavelaw12.NatRewrites', WHERE WHAT IT READS IS OF BULK AT MOST 1048576: true; the input reads as it did. -/
def natRewritesUptoRow : OpenClaim := { program := "ytkmcopenflakkaa", sum := "1879481d6c509517bee7f3126e6df763f715d263aef3d5ba4e6ab9cf185dbc3c", func := "wayleave/wayleavelaw12.NatRewrites", spec := "natRewrites", unfollowed := true, recurses := true, apart := false, narrowed := true }
def NatRewritesUptoSaid : Prop := natRewritesUptoRow.holds Try.pinned (OpenSpec.upto natRewritesSpec)

/-- 'wayleavelaw12.NatTuples', WHERE WHAT IT READS IS OF BULK AT MOST 1048576: true; the input reads as it did. -/
def natTuplesUptoRow : OpenClaim := { program := "ytkmcopenflakkaa", sum := "1879481d6c509517bee7f3126e6df763f715d263aef3d5ba4e6ab9cf185dbc3c", func := "wayleave/wayleavelaw12.NatTuples", spec := "natTuples", unfollowed := true, recurses := true, apart := false, narrowed := true }
def NatTuplesUptoSaid : Prop := natTuplesUptoRow.holds Try.pinned (OpenSpec.upto natTuplesSpec)

/-- 'wayleavelaw12.NatRight', WHERE WHAT IT READS IS OF BULK AT MOST 1048576: true; the input reads as it did. -/
def natRightUptoRow : OpenClaim := { program := "ytkmcopenflakkaa", sum := "1879481d6c509517bee7f3126e6df763f715d263aef3d5ba4e6ab9cf185dbc3c", func := "wayleave/wayleavelaw12.NatRight", spec := "natRight", unfollowed := true, recurses := true, apart := false, narrowed := true }
def NatRightUptoSaid : Prop := natRightUptoRow.holds Try.pinned (OpenSpec.upto natRightSpec)

/-- 'wayleavelaw12.NatMade', WHERE WHAT IT READS IS OF BULK AT MOST 1048576: true; the input reads as it did. -/
def natMadeUptoRow : OpenClaim := { program := "ytkmcopenflakkaa", sum := "1879481d6c509517bee7f3126e6df763f715d263aef3d5ba4e6ab9cf185dbc3c", func := "wayleave/wayleavelaw12.NatMade", spec := "natMade", unfollowed := true, recurses := true, apart := false, narrowed := true }
def NatMadeUptoSaid : Prop := natMadeUptoRow.holds Try.pinned (OpenSpec.upto natMadeSpec)

/-- 'wayleavelaw12.NatBack', WHERE WHAT IT READS IS OF BULK AT MOST 1048576: true; the input reads as it did. -/
def natBackUptoRow : OpenClaim := { program := "ytkmcopenflakkaa", sum := "1879481d6c509517bee7f3126e6df763f715d263aef3d5ba4e6ab9cf185dbc3c", func := "wayleave/wayleavelaw12.NatBack", spec := "natBack", unfollowed := true, recurses := true, apart := false, narrowed := true }
def NatBackUptoSaid : Prop := natBackUptoRow.holds Try.pinned (OpenSpec.upto natBackSpec)

/-- 'wayleavelaw12.NatKeeps', WHERE WHAT IT READS IS OF BULK AT MOST 1048576: true; the input reads as it did. -/
def natKeepsUptoRow : OpenClaim := { program := "ytkmcopenflakkaa", sum := "1879481d6c509517bee7f3126e6df763f715d263aef3d5ba4e6ab9cf185dbc3c", func := "wayleave/wayleavelaw12.NatKeeps", spec := "natKeeps", unfollowed := true, recurses := true, apart := false, narrowed := true }
def NatKeepsUptoSaid : Prop := natKeepsUptoRow.holds Try.pinned (OpenSpec.upto natKeepsSpec)

end Rows
end Go.Proofs.Ytkmcopenflakkaa
