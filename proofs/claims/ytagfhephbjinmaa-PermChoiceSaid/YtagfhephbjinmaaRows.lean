/-
  No cell of these rows narrows 'for every input' (looked for: loops, veiled, ifaces, maps, wideKeys, modest, calm, conditions, laid).
  DERIVED. THE GIVEN ROWS OF THIS SEAT. 6 by the template 'for every input the law returns true; each argument reads behind the call as it read before'; 0 by the template 'total and deterministic' (their statements: YtagfhephbjinmaaTotals.lean).
  GIVEN WITH THE SEED: the statements are not yours to turn. If you find one false, say at which input.
  Laid BY PROGRAM, IN A SANDBOX (cutbox-rows.mjs): the forced cells as the released guide's own fill.sh prints them over the translation 82d1335bde4f448f… (all of the seat's roots in one cut). By AI agents, Wed Nov 11 2026. No macro, syntax, notation, axiom, sorry.
-/
import Derived.Test.YtagfhephbjinmaaChecked
import GoSem.Claim
import GoSem.ClaimJoined
import GoSem.ClaimMapViews
import Derived.JoinedTies
import Derived.KernelRfl
namespace Go.Proofs.Ytagfhephbjinmaa
/- THE CELL 'sum', in the pinned program and in every row, IS THE sha256 OF THE DUMP (.gsa) THAT YtagfhephbjinmaaProg.lean LOADS. Nothing in Lean hashes anything: it is a label: what it is worth is what the hold of that sum in a sandbox is worth. -/
noncomputable def Try.pinned : Pinned := { name := "ytagfhephbjinmaa", sum := "82d1335bde4f448f247c418f226a24bc97d700504241d19313e745ebfe366df8", checked := Try.checked }
namespace Rows
def none {H : Type} : Left H := { results := [], args := [] }

/-- 'wayleavelaw16.PermPrimes': WHATEVER THE INPUT: true; the input reads as it did. -/
def permPrimesSpec : ChangeSpec := { name := "permPrimes", fn := fun _ => fun
  | [d] => { results := [.lit (.bool true)], args := [d] }
  | _ => none }
def permPrimesRow : OpenClaim := { program := "ytagfhephbjinmaa", sum := "82d1335bde4f448f247c418f226a24bc97d700504241d19313e745ebfe366df8", func := "wayleave/wayleavelaw16.PermPrimes", spec := "permPrimes", unfollowed := true, recurses := true, apart := false }
def PermPrimesSaid : Prop := permPrimesRow.holds Try.pinned (OpenSpec.ofChange permPrimesSpec)

/-- ITS FALSE NEIGHBOUR: 'it returns false'. Refute it at one input. -/
def permPrimesWrong : ChangeSpec := { name := "permPrimes", fn := fun _ => fun
  | [d] => { results := [.lit (.bool false)], args := [d] }
  | _ => none }
def PermPrimesWrongFalsely : Prop := permPrimesRow.holds Try.pinned (OpenSpec.ofChange permPrimesWrong)

/-- 'wayleavelaw16.PermNext': WHATEVER THE INPUT: true; the input reads as it did. -/
def permNextSpec : ChangeSpec := { name := "permNext", fn := fun _ => fun
  | [d1, d2, d3] => { results := [.lit (.bool true)], args := [d1, d2, d3] }
  | _ => none }
def permNextRow : OpenClaim := { program := "ytagfhephbjinmaa", sum := "82d1335bde4f448f247c418f226a24bc97d700504241d19313e745ebfe366df8", func := "wayleave/wayleavelaw16.PermNext", spec := "permNext", unfollowed := true, recurses := true, apart := false }
def PermNextSaid : Prop := permNextRow.holds Try.pinned (OpenSpec.ofChange permNextSpec)

/-- ITS FALSE NEIGHBOUR: 'it returns false'. Refute it at one input. -/
def permNextWrong : ChangeSpec := { name := "permNext", fn := fun _ => fun
  | [d1, d2, d3] => { results := [.lit (.bool false)], args := [d1, d2, d3] }
  | _ => none }
def PermNextWrongFalsely : Prop := permNextRow.holds Try.pinned (OpenSpec.ofChange permNextWrong)

/-- 'wayleavelaw16.PermOf': WHATEVER THE INPUT: true; the input reads as it did. -/
def permOfSpec : ChangeSpec := { name := "permOf", fn := fun _ => fun
  | [d1, d2, d3] => { results := [.lit (.bool true)], args := [d1, d2, d3] }
  | _ => none }
def permOfRow : OpenClaim := { program := "ytagfhephbjinmaa", sum := "82d1335bde4f448f247c418f226a24bc97d700504241d19313e745ebfe366df8", func := "wayleave/wayleavelaw16.PermOf", spec := "permOf", unfollowed := true, recurses := true, apart := false }
def PermOfSaid : Prop := permOfRow.holds Try.pinned (OpenSpec.ofChange permOfSpec)

/-- ITS FALSE NEIGHBOUR: 'it returns false'. Refute it at one input. -/
def permOfWrong : ChangeSpec := { name := "permOf", fn := fun _ => fun
  | [d1, d2, d3] => { results := [.lit (.bool false)], args := [d1, d2, d3] }
  | _ => none }
def PermOfWrongFalsely : Prop := permOfRow.holds Try.pinned (OpenSpec.ofChange permOfWrong)

/-- 'wayleavelaw16.PermWhole': WHATEVER THE INPUT: true; the input reads as it did. -/
def permWholeSpec : ChangeSpec := { name := "permWhole", fn := fun _ => fun
  | [d1, d2, d3] => { results := [.lit (.bool true)], args := [d1, d2, d3] }
  | _ => none }
def permWholeRow : OpenClaim := { program := "ytagfhephbjinmaa", sum := "82d1335bde4f448f247c418f226a24bc97d700504241d19313e745ebfe366df8", func := "wayleave/wayleavelaw16.PermWhole", spec := "permWhole", unfollowed := true, recurses := true, apart := false }
def PermWholeSaid : Prop := permWholeRow.holds Try.pinned (OpenSpec.ofChange permWholeSpec)

/-- ITS FALSE NEIGHBOUR: 'it returns false'. Refute it at one input. -/
def permWholeWrong : ChangeSpec := { name := "permWhole", fn := fun _ => fun
  | [d1, d2, d3] => { results := [.lit (.bool false)], args := [d1, d2, d3] }
  | _ => none }
def PermWholeWrongFalsely : Prop := permWholeRow.holds Try.pinned (OpenSpec.ofChange permWholeWrong)

/-- 'wayleavelaw16.PermChoice': WHATEVER THE INPUT: true; the input reads as it did. -/
def permChoiceSpec : ChangeSpec := { name := "permChoice", fn := fun _ => fun
  | [d1, d2, d3, d4] => { results := [.lit (.bool true)], args := [d1, d2, d3, d4] }
  | _ => none }
def permChoiceRow : OpenClaim := { program := "ytagfhephbjinmaa", sum := "82d1335bde4f448f247c418f226a24bc97d700504241d19313e745ebfe366df8", func := "wayleave/wayleavelaw16.PermChoice", spec := "permChoice", unfollowed := true, recurses := true, apart := false }
def PermChoiceSaid : Prop := permChoiceRow.holds Try.pinned (OpenSpec.ofChange permChoiceSpec)

/-- ITS FALSE NEIGHBOUR: 'it returns false'. Refute it at one input. -/
def permChoiceWrong : ChangeSpec := { name := "permChoice", fn := fun _ => fun
  | [d1, d2, d3, d4] => { results := [.lit (.bool false)], args := [d1, d2, d3, d4] }
  | _ => none }
def PermChoiceWrongFalsely : Prop := permChoiceRow.holds Try.pinned (OpenSpec.ofChange permChoiceWrong)

/-- 'wayleavelaw16.PermKeeps': WHATEVER THE INPUT: true; the input reads as it did. -/
def permKeepsSpec : ChangeSpec := { name := "permKeeps", fn := fun _ => fun
  | [d1, d2, d3] => { results := [.lit (.bool true)], args := [d1, d2, d3] }
  | _ => none }
def permKeepsRow : OpenClaim := { program := "ytagfhephbjinmaa", sum := "82d1335bde4f448f247c418f226a24bc97d700504241d19313e745ebfe366df8", func := "wayleave/wayleavelaw16.PermKeeps", spec := "permKeeps", unfollowed := true, recurses := true, apart := false }
def PermKeepsSaid : Prop := permKeepsRow.holds Try.pinned (OpenSpec.ofChange permKeepsSpec)

/-- ITS FALSE NEIGHBOUR: 'it returns false'. Refute it at one input. -/
def permKeepsWrong : ChangeSpec := { name := "permKeeps", fn := fun _ => fun
  | [d1, d2, d3] => { results := [.lit (.bool false)], args := [d1, d2, d3] }
  | _ => none }
def PermKeepsWrongFalsely : Prop := permKeepsRow.holds Try.pinned (OpenSpec.ofChange permKeepsWrong)

/- THE SECOND FORM. 'bulk': how many values and letters a reading holds, each counted each time it is reached (what is shared counts as often as it is met; a slice's spare places count too). A statement '..UptoSaid' is the law's where the arguments, and the package variables that the reading takes, are together of bulk at most 1048576: NARROWER than '..Said'. Prove '..Said' where nothing that the law and all that it calls make is longer than what came in: it says more and counts as full. Else prove '..UptoSaid'. A law counts once. -/
mutual
def uptoBulk {H : Type} : DataW H → Nat
  | .lit (.string bytes) => bytes.length + 1
  | .lit _ => 1
  | .nil => 1
  | .ptr d => uptoBulk d + 1
  | .slice elems spare => uptoBulkAll elems + uptoBulkAll spare + 1
  | .agg parts => uptoBulkAll parts + 1
  | .iface _ d => uptoBulk d + 1
  | .map entries => uptoBulkEntries entries + 1
  | .held _ => 1
def uptoBulkAll {H : Type} : List (DataW H) → Nat
  | [] => 0
  | d :: r => uptoBulk d + uptoBulkAll r
def uptoBulkEntries {H : Type} : List (Lit × DataW H) → Nat
  | [] => 0
  | x :: r => uptoBulkEntry x + uptoBulkEntries r
def uptoBulkEntry {H : Type} : Lit × DataW H → Nat
  | (.string bytes, d) => bytes.length + uptoBulk d + 1
  | (_, d) => uptoBulk d + 1
 end
def uptoSmall : (H : Type) → List (DataW H) → Bool := fun _ ds => decide (uptoBulkAll ds ≤ 1048576)
def OpenSpec.upto (s : _root_.Go.ChangeSpec) : _root_.Go.OpenSpec := { _root_.Go.OpenSpec.ofChange s with cond := some uptoSmall }

/-- 'wayleavelaw16.PermPrimes', WHERE WHAT IT READS IS OF BULK AT MOST 1048576: true; the input reads as it did. -/
def permPrimesUptoRow : OpenClaim := { program := "ytagfhephbjinmaa", sum := "82d1335bde4f448f247c418f226a24bc97d700504241d19313e745ebfe366df8", func := "wayleave/wayleavelaw16.PermPrimes", spec := "permPrimes", unfollowed := true, recurses := true, apart := false, narrowed := true }
def PermPrimesUptoSaid : Prop := permPrimesUptoRow.holds Try.pinned (OpenSpec.upto permPrimesSpec)

/-- 'wayleavelaw16.PermNext', WHERE WHAT IT READS IS OF BULK AT MOST 1048576: true; the input reads as it did. -/
def permNextUptoRow : OpenClaim := { program := "ytagfhephbjinmaa", sum := "82d1335bde4f448f247c418f226a24bc97d700504241d19313e745ebfe366df8", func := "wayleave/wayleavelaw16.PermNext", spec := "permNext", unfollowed := true, recurses := true, apart := false, narrowed := true }
def PermNextUptoSaid : Prop := permNextUptoRow.holds Try.pinned (OpenSpec.upto permNextSpec)

/-- 'wayleavelaw16.PermOf', WHERE WHAT IT READS IS OF BULK AT MOST 1048576: true; the input reads as it did. -/
def permOfUptoRow : OpenClaim := { program := "ytagfhephbjinmaa", sum := "82d1335bde4f448f247c418f226a24bc97d700504241d19313e745ebfe366df8", func := "wayleave/wayleavelaw16.PermOf", spec := "permOf", unfollowed := true, recurses := true, apart := false, narrowed := true }
def PermOfUptoSaid : Prop := permOfUptoRow.holds Try.pinned (OpenSpec.upto permOfSpec)

/-- 'wayleavelaw16.PermWhole', WHERE WHAT IT READS IS OF BULK AT MOST 1048576: true; the input reads as it did. -/
def permWholeUptoRow : OpenClaim := { program := "ytagfhephbjinmaa", sum := "82d1335bde4f448f247c418f226a24bc97d700504241d19313e745ebfe366df8", func := "wayleave/wayleavelaw16.PermWhole", spec := "permWhole", unfollowed := true, recurses := true, apart := false, narrowed := true }
def PermWholeUptoSaid : Prop := permWholeUptoRow.holds Try.pinned (OpenSpec.upto permWholeSpec)

/-- 'wayleavelaw16.PermChoice', WHERE WHAT IT READS IS OF BULK AT MOST 1048576: true; the input reads as it did. -/
def permChoiceUptoRow : OpenClaim := { program := "ytagfhephbjinmaa", sum := "82d1335bde4f448f247c418f226a24bc97d700504241d19313e745ebfe366df8", func := "wayleave/wayleavelaw16.PermChoice", spec := "permChoice", unfollowed := true, recurses := true, apart := false, narrowed := true }
def PermChoiceUptoSaid : Prop := permChoiceUptoRow.holds Try.pinned (OpenSpec.upto permChoiceSpec)

/-- 'wayleavelaw16.PermKeeps', WHERE WHAT IT READS IS OF BULK AT MOST 1048576: true; the input reads as it did. -/
def permKeepsUptoRow : OpenClaim := { program := "ytagfhephbjinmaa", sum := "82d1335bde4f448f247c418f226a24bc97d700504241d19313e745ebfe366df8", func := "wayleave/wayleavelaw16.PermKeeps", spec := "permKeeps", unfollowed := true, recurses := true, apart := false, narrowed := true }
def PermKeepsUptoSaid : Prop := permKeepsUptoRow.holds Try.pinned (OpenSpec.upto permKeepsSpec)

end Rows
end Go.Proofs.Ytagfhephbjinmaa
