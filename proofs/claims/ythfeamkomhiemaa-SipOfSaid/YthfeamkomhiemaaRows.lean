/-
  No cell of these rows narrows 'for every input' (looked for: loops, veiled, ifaces, maps, wideKeys, modest, calm, conditions, laid).
  DERIVED. THE GIVEN ROWS OF THIS SEAT. 5 by the template 'for every input the law returns true; each argument reads behind the call as it read before'; 0 by the template 'total and deterministic' (their statements: YthfeamkomhiemaaTotals.lean).
  GIVEN WITH THE SEED: the statements are not yours to turn. If you find one false, say at which input.
  Laid BY PROGRAM, IN A SANDBOX (cutbox-rows.mjs): the forced cells as the released guide's own fill.sh prints them over the translation 3c5edf4600096214… (all of the seat's roots in one cut). By AI agents, Wed Nov 11 2026. No macro, syntax, notation, axiom, sorry.
-/
import Derived.Test.YthfeamkomhiemaaChecked
import GoSem.Claim
import GoSem.ClaimJoined
import GoSem.ClaimMapViews
import Derived.JoinedTies
import Derived.KernelRfl
namespace Go.Proofs.Ythfeamkomhiemaa
/- THE CELL 'sum', in the pinned program and in every row, IS THE sha256 OF THE DUMP (.gsa) THAT YthfeamkomhiemaaProg.lean LOADS. Nothing in Lean hashes anything: it is a label: what it is worth is what the hold of that sum in a sandbox is worth. -/
noncomputable def Try.pinned : Pinned := { name := "ythfeamkomhiemaa", sum := "3c5edf4600096214750b92780dd2bb65133a98255028598d673748a7db647c1b", checked := Try.checked }
namespace Rows
def none {H : Type} : Left H := { results := [], args := [] }

/-- 'wayleavelaw15.SipOf': WHATEVER THE INPUT: true; the input reads as it did. -/
def sipOfSpec : ChangeSpec := { name := "sipOf", fn := fun _ => fun
  | [d1, d2] => { results := [.lit (.bool true)], args := [d1, d2] }
  | _ => none }
def sipOfRow : OpenClaim := { program := "ythfeamkomhiemaa", sum := "3c5edf4600096214750b92780dd2bb65133a98255028598d673748a7db647c1b", func := "wayleave/wayleavelaw15.SipOf", spec := "sipOf", unfollowed := true, recurses := true, apart := false }
def SipOfSaid : Prop := sipOfRow.holds Try.pinned (OpenSpec.ofChange sipOfSpec)

/-- ITS FALSE NEIGHBOUR: 'it returns false'. Refute it at one input. -/
def sipOfWrong : ChangeSpec := { name := "sipOf", fn := fun _ => fun
  | [d1, d2] => { results := [.lit (.bool false)], args := [d1, d2] }
  | _ => none }
def SipOfWrongFalsely : Prop := sipOfRow.holds Try.pinned (OpenSpec.ofChange sipOfWrong)

/-- 'wayleavelaw15.SipParts': WHATEVER THE INPUT: true; the input reads as it did. -/
def sipPartsSpec : ChangeSpec := { name := "sipParts", fn := fun _ => fun
  | [d1, d2, d3, d4] => { results := [.lit (.bool true)], args := [d1, d2, d3, d4] }
  | _ => none }
def sipPartsRow : OpenClaim := { program := "ythfeamkomhiemaa", sum := "3c5edf4600096214750b92780dd2bb65133a98255028598d673748a7db647c1b", func := "wayleave/wayleavelaw15.SipParts", spec := "sipParts", unfollowed := true, recurses := true, apart := false }
def SipPartsSaid : Prop := sipPartsRow.holds Try.pinned (OpenSpec.ofChange sipPartsSpec)

/-- ITS FALSE NEIGHBOUR: 'it returns false'. Refute it at one input. -/
def sipPartsWrong : ChangeSpec := { name := "sipParts", fn := fun _ => fun
  | [d1, d2, d3, d4] => { results := [.lit (.bool false)], args := [d1, d2, d3, d4] }
  | _ => none }
def SipPartsWrongFalsely : Prop := sipPartsRow.holds Try.pinned (OpenSpec.ofChange sipPartsWrong)

/-- 'wayleavelaw15.SipTuples': WHATEVER THE INPUT: true; the input reads as it did. -/
def sipTuplesSpec : ChangeSpec := { name := "sipTuples", fn := fun _ => fun
  | [d1, d2] => { results := [.lit (.bool true)], args := [d1, d2] }
  | _ => none }
def sipTuplesRow : OpenClaim := { program := "ythfeamkomhiemaa", sum := "3c5edf4600096214750b92780dd2bb65133a98255028598d673748a7db647c1b", func := "wayleave/wayleavelaw15.SipTuples", spec := "sipTuples", unfollowed := true, recurses := true, apart := false }
def SipTuplesSaid : Prop := sipTuplesRow.holds Try.pinned (OpenSpec.ofChange sipTuplesSpec)

/-- ITS FALSE NEIGHBOUR: 'it returns false'. Refute it at one input. -/
def sipTuplesWrong : ChangeSpec := { name := "sipTuples", fn := fun _ => fun
  | [d1, d2] => { results := [.lit (.bool false)], args := [d1, d2] }
  | _ => none }
def SipTuplesWrongFalsely : Prop := sipTuplesRow.holds Try.pinned (OpenSpec.ofChange sipTuplesWrong)

/-- 'wayleavelaw15.SipUnlike': WHATEVER THE INPUT: true; the input reads as it did. -/
def sipUnlikeSpec : ChangeSpec := { name := "sipUnlike", fn := fun _ => fun
  | [d1, d2] => { results := [.lit (.bool true)], args := [d1, d2] }
  | _ => none }
def sipUnlikeRow : OpenClaim := { program := "ythfeamkomhiemaa", sum := "3c5edf4600096214750b92780dd2bb65133a98255028598d673748a7db647c1b", func := "wayleave/wayleavelaw15.SipUnlike", spec := "sipUnlike", unfollowed := true, recurses := true, apart := false }
def SipUnlikeSaid : Prop := sipUnlikeRow.holds Try.pinned (OpenSpec.ofChange sipUnlikeSpec)

/-- ITS FALSE NEIGHBOUR: 'it returns false'. Refute it at one input. -/
def sipUnlikeWrong : ChangeSpec := { name := "sipUnlike", fn := fun _ => fun
  | [d1, d2] => { results := [.lit (.bool false)], args := [d1, d2] }
  | _ => none }
def SipUnlikeWrongFalsely : Prop := sipUnlikeRow.holds Try.pinned (OpenSpec.ofChange sipUnlikeWrong)

/-- 'wayleavelaw15.SipKeeps': WHATEVER THE INPUT: true; the input reads as it did. -/
def sipKeepsSpec : ChangeSpec := { name := "sipKeeps", fn := fun _ => fun
  | [d1, d2, d3] => { results := [.lit (.bool true)], args := [d1, d2, d3] }
  | _ => none }
def sipKeepsRow : OpenClaim := { program := "ythfeamkomhiemaa", sum := "3c5edf4600096214750b92780dd2bb65133a98255028598d673748a7db647c1b", func := "wayleave/wayleavelaw15.SipKeeps", spec := "sipKeeps", unfollowed := true, recurses := true, apart := false }
def SipKeepsSaid : Prop := sipKeepsRow.holds Try.pinned (OpenSpec.ofChange sipKeepsSpec)

/-- ITS FALSE NEIGHBOUR: 'it returns false'. Refute it at one input. -/
def sipKeepsWrong : ChangeSpec := { name := "sipKeeps", fn := fun _ => fun
  | [d1, d2, d3] => { results := [.lit (.bool false)], args := [d1, d2, d3] }
  | _ => none }
def SipKeepsWrongFalsely : Prop := sipKeepsRow.holds Try.pinned (OpenSpec.ofChange sipKeepsWrong)

/- THE SECOND FORM. 'bulk': how many values and letters a reading holds, each counted each time it is reached (what is shared counts as often as it is met; a slice's spare places count too). A statement '..UptoSaid' is the law's where the arguments, and the package variables that the reading takes, are together of bulk at most 1048576: NARROWER than '..Said'. Prove '..Said' where nothing that the law and all that it calls make is longer than what came in: it says more and counts as full. Else prove '..UptoSaid'. A law counts once. -/
mutual
def uptoBulk {H : Type} : DataW H → Nat
  | .lit (.string bytes) => bytes.length + 1
  | .lit _ => 1
  | .nil => 1
  | .ptr d => uptoBulk d + 1
  | .slice elems spare => uptoBulkAll elems + uptoBulkAll spare + 1
  | .agg parts => uptoBulkAll parts + 1
  | .iface _ d => uptoBulk d + 1
  | .map entries => uptoBulkEntries entries + 1
  | .held _ => 1
def uptoBulkAll {H : Type} : List (DataW H) → Nat
  | [] => 0
  | d :: r => uptoBulk d + uptoBulkAll r
def uptoBulkEntries {H : Type} : List (Lit × DataW H) → Nat
  | [] => 0
  | x :: r => uptoBulkEntry x + uptoBulkEntries r
def uptoBulkEntry {H : Type} : Lit × DataW H → Nat
  | (.string bytes, d) => bytes.length + uptoBulk d + 1
  | (_, d) => uptoBulk d + 1
 end
def uptoSmall : (H : Type) → List (DataW H) → Bool := fun _ ds => decide (uptoBulkAll ds ≤ 1048576)
def OpenSpec.upto (s : _root_.Go.ChangeSpec) : _root_.Go.OpenSpec := { _root_.Go.OpenSpec.ofChange s with cond := some uptoSmall }

/-- 'wayleavelaw15.SipOf', WHERE WHAT IT READS IS OF BULK AT MOST 1048576: true; the input reads as it did. -/
def sipOfUptoRow : OpenClaim := { program := "ythfeamkomhiemaa", sum := "3c5edf4600096214750b92780dd2bb65133a98255028598d673748a7db647c1b", func := "wayleave/wayleavelaw15.SipOf", spec := "sipOf", unfollowed := true, recurses := true, apart := false, narrowed := true }
def SipOfUptoSaid : Prop := sipOfUptoRow.holds Try.pinned (OpenSpec.upto sipOfSpec)

/-- 'wayleavelaw15.SipParts', WHERE WHAT IT READS IS OF BULK AT MOST 1048576: true; the input reads as it did. -/
def sipPartsUptoRow : OpenClaim := { program := "ythfeamkomhiemaa", sum := "3c5edf4600096214750b92780dd2bb65133a98255028598d673748a7db647c1b", func := "wayleave/wayleavelaw15.SipParts", spec := "sipParts", unfollowed := true, recurses := true, apart := false, narrowed := true }
def SipPartsUptoSaid : Prop := sipPartsUptoRow.holds Try.pinned (OpenSpec.upto sipPartsSpec)

/-- 'wayleavelaw15.SipTuples', WHERE WHAT IT READS IS OF BULK AT MOST 1048576: true; the input reads as it did. -/
def sipTuplesUptoRow : OpenClaim := { program := "ythfeamkomhiemaa", sum := "3c5edf4600096214750b92780dd2bb65133a98255028598d673748a7db647c1b", func := "wayleave/wayleavelaw15.SipTuples", spec := "sipTuples", unfollowed := true, recurses := true, apart := false, narrowed := true }
def SipTuplesUptoSaid : Prop := sipTuplesUptoRow.holds Try.pinned (OpenSpec.upto sipTuplesSpec)

/-- 'wayleavelaw15.SipUnlike', WHERE WHAT IT READS IS OF BULK AT MOST 1048576: true; the input reads as it did. -/
def sipUnlikeUptoRow : OpenClaim := { program := "ythfeamkomhiemaa", sum := "3c5edf4600096214750b92780dd2bb65133a98255028598d673748a7db647c1b", func := "wayleave/wayleavelaw15.SipUnlike", spec := "sipUnlike", unfollowed := true, recurses := true, apart := false, narrowed := true }
def SipUnlikeUptoSaid : Prop := sipUnlikeUptoRow.holds Try.pinned (OpenSpec.upto sipUnlikeSpec)

/-- 'wayleavelaw15.SipKeeps', WHERE WHAT IT READS IS OF BULK AT MOST 1048576: true; the input reads as it did. -/
def sipKeepsUptoRow : OpenClaim := { program := "ythfeamkomhiemaa", sum := "3c5edf4600096214750b92780dd2bb65133a98255028598d673748a7db647c1b", func := "wayleave/wayleavelaw15.SipKeeps", spec := "sipKeeps", unfollowed := true, recurses := true, apart := false, narrowed := true }
def SipKeepsUptoSaid : Prop := sipKeepsUptoRow.holds Try.pinned (OpenSpec.upto sipKeepsSpec)

end Rows
end Go.Proofs.Ythfeamkomhiemaa
