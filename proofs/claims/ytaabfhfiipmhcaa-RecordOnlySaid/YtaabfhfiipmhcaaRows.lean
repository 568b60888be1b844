/-
  No cell of these rows narrows 'for every input' (looked for: loops, veiled, ifaces, maps, wideKeys, modest, calm, conditions, laid).
  DERIVED. THE GIVEN ROWS OF THIS SEAT. 7 by the template 'for every input the law returns true; each argument reads behind the call as it read before'; 0 by the template 'total and deterministic' (their statements: YtaabfhfiipmhcaaTotals.lean).
  GIVEN WITH THE SEED: the statements are not yours to turn. If you find one false, say at which input.
  Laid BY PROGRAM, IN A SANDBOX (cutbox-rows.mjs): the forced cells as the released guide's own fill.sh prints them over the translation e1117df13e742028… (all of the seat's roots in one cut). By AI agents, Wed Nov 11 2026. No macro, syntax, notation, axiom, sorry.
-/
import Derived.Test.YtaabfhfiipmhcaaChecked
import GoSem.Claim
import GoSem.ClaimJoined
import GoSem.ClaimMapViews
import Derived.JoinedTies
import Derived.KernelRfl
namespace Go.Proofs.Ytaabfhfiipmhcaa
/- THE CELL 'sum', in the pinned program and in every row, IS THE sha256 OF THE DUMP (.gsa) THAT YtaabfhfiipmhcaaProg.lean LOADS. Nothing in Lean hashes anything: it is a label: what it is worth is what the hold of that sum in a sandbox is worth. -/
noncomputable def Try.pinned : Pinned := { name := "ytaabfhfiipmhcaa", sum := "e1117df13e742028931cf7c79edc4dd4f1fd1698bbc2d5b5c5df01724cbdc18e", checked := Try.checked }
namespace Rows
def none {H : Type} : Left H := { results := [], args := [] }

/-- 'wayleavelaw05.RecordPuts': WHATEVER THE INPUT: true; the input reads as it did. -/
def recordPutsSpec : ChangeSpec := { name := "recordPuts", fn := fun _ => fun
  | [d] => { results := [.lit (.bool true)], args := [d] }
  | _ => none }
def recordPutsRow : OpenClaim := { program := "ytaabfhfiipmhcaa", sum := "e1117df13e742028931cf7c79edc4dd4f1fd1698bbc2d5b5c5df01724cbdc18e", func := "wayleave/wayleavelaw05.RecordPuts", spec := "recordPuts", unfollowed := true, recurses := true, apart := false }
def RecordPutsSaid : Prop := recordPutsRow.holds Try.pinned (OpenSpec.ofChange recordPutsSpec)

/-- ITS FALSE NEIGHBOUR: 'it returns false'. Refute it at one input. -/
def recordPutsWrong : ChangeSpec := { name := "recordPuts", fn := fun _ => fun
  | [d] => { results := [.lit (.bool false)], args := [d] }
  | _ => none }
def RecordPutsWrongFalsely : Prop := recordPutsRow.holds Try.pinned (OpenSpec.ofChange recordPutsWrong)

/-- 'wayleavelaw05.RecordLong': WHATEVER THE INPUT: true; the input reads as it did. -/
def recordLongSpec : ChangeSpec := { name := "recordLong", fn := fun _ => fun
  | [d] => { results := [.lit (.bool true)], args := [d] }
  | _ => none }
def recordLongRow : OpenClaim := { program := "ytaabfhfiipmhcaa", sum := "e1117df13e742028931cf7c79edc4dd4f1fd1698bbc2d5b5c5df01724cbdc18e", func := "wayleave/wayleavelaw05.RecordLong", spec := "recordLong", unfollowed := true, recurses := true, apart := false }
def RecordLongSaid : Prop := recordLongRow.holds Try.pinned (OpenSpec.ofChange recordLongSpec)

/-- ITS FALSE NEIGHBOUR: 'it returns false'. Refute it at one input. -/
def recordLongWrong : ChangeSpec := { name := "recordLong", fn := fun _ => fun
  | [d] => { results := [.lit (.bool false)], args := [d] }
  | _ => none }
def RecordLongWrongFalsely : Prop := recordLongRow.holds Try.pinned (OpenSpec.ofChange recordLongWrong)

/-- 'wayleavelaw05.RecordNexts': WHATEVER THE INPUT: true; the input reads as it did. -/
def recordNextsSpec : ChangeSpec := { name := "recordNexts", fn := fun _ => fun
  | [d] => { results := [.lit (.bool true)], args := [d] }
  | _ => none }
def recordNextsRow : OpenClaim := { program := "ytaabfhfiipmhcaa", sum := "e1117df13e742028931cf7c79edc4dd4f1fd1698bbc2d5b5c5df01724cbdc18e", func := "wayleave/wayleavelaw05.RecordNexts", spec := "recordNexts", unfollowed := true, recurses := true, apart := false }
def RecordNextsSaid : Prop := recordNextsRow.holds Try.pinned (OpenSpec.ofChange recordNextsSpec)

/-- ITS FALSE NEIGHBOUR: 'it returns false'. Refute it at one input. -/
def recordNextsWrong : ChangeSpec := { name := "recordNexts", fn := fun _ => fun
  | [d] => { results := [.lit (.bool false)], args := [d] }
  | _ => none }
def RecordNextsWrongFalsely : Prop := recordNextsRow.holds Try.pinned (OpenSpec.ofChange recordNextsWrong)

/-- 'wayleavelaw05.RecordRows': WHATEVER THE INPUT: true; the input reads as it did. -/
def recordRowsSpec : ChangeSpec := { name := "recordRows", fn := fun _ => fun
  | [d1, d2] => { results := [.lit (.bool true)], args := [d1, d2] }
  | _ => none }
def recordRowsRow : OpenClaim := { program := "ytaabfhfiipmhcaa", sum := "e1117df13e742028931cf7c79edc4dd4f1fd1698bbc2d5b5c5df01724cbdc18e", func := "wayleave/wayleavelaw05.RecordRows", spec := "recordRows", unfollowed := true, recurses := true, apart := false }
def RecordRowsSaid : Prop := recordRowsRow.holds Try.pinned (OpenSpec.ofChange recordRowsSpec)

/-- ITS FALSE NEIGHBOUR: 'it returns false'. Refute it at one input. -/
def recordRowsWrong : ChangeSpec := { name := "recordRows", fn := fun _ => fun
  | [d1, d2] => { results := [.lit (.bool false)], args := [d1, d2] }
  | _ => none }
def RecordRowsWrongFalsely : Prop := recordRowsRow.holds Try.pinned (OpenSpec.ofChange recordRowsWrong)

/-- 'wayleavelaw05.RecordBurst': WHATEVER THE INPUT: true; the input reads as it did. -/
def recordBurstSpec : ChangeSpec := { name := "recordBurst", fn := fun _ => fun
  | [d1, d2, d3] => { results := [.lit (.bool true)], args := [d1, d2, d3] }
  | _ => none }
def recordBurstRow : OpenClaim := { program := "ytaabfhfiipmhcaa", sum := "e1117df13e742028931cf7c79edc4dd4f1fd1698bbc2d5b5c5df01724cbdc18e", func := "wayleave/wayleavelaw05.RecordBurst", spec := "recordBurst", unfollowed := true, recurses := true, apart := false }
def RecordBurstSaid : Prop := recordBurstRow.holds Try.pinned (OpenSpec.ofChange recordBurstSpec)

/-- ITS FALSE NEIGHBOUR: 'it returns false'. Refute it at one input. -/
def recordBurstWrong : ChangeSpec := { name := "recordBurst", fn := fun _ => fun
  | [d1, d2, d3] => { results := [.lit (.bool false)], args := [d1, d2, d3] }
  | _ => none }
def RecordBurstWrongFalsely : Prop := recordBurstRow.holds Try.pinned (OpenSpec.ofChange recordBurstWrong)

/-- 'wayleavelaw05.RecordOnly': WHATEVER THE INPUT: true; the input reads as it did. -/
def recordOnlySpec : ChangeSpec := { name := "recordOnly", fn := fun _ => fun
  | [d] => { results := [.lit (.bool true)], args := [d] }
  | _ => none }
def recordOnlyRow : OpenClaim := { program := "ytaabfhfiipmhcaa", sum := "e1117df13e742028931cf7c79edc4dd4f1fd1698bbc2d5b5c5df01724cbdc18e", func := "wayleave/wayleavelaw05.RecordOnly", spec := "recordOnly", unfollowed := true, recurses := true, apart := false }
def RecordOnlySaid : Prop := recordOnlyRow.holds Try.pinned (OpenSpec.ofChange recordOnlySpec)

/-- ITS FALSE NEIGHBOUR: 'it returns false'. Refute it at one input. -/
def recordOnlyWrong : ChangeSpec := { name := "recordOnly", fn := fun _ => fun
  | [d] => { results := [.lit (.bool false)], args := [d] }
  | _ => none }
def RecordOnlyWrongFalsely : Prop := recordOnlyRow.holds Try.pinned (OpenSpec.ofChange recordOnlyWrong)

/-- 'wayleavelaw05.RecordKeeps': WHATEVER THE INPUT: true; the input reads as it did. -/
def recordKeepsSpec : ChangeSpec := { name := "recordKeeps", fn := fun _ => fun
  | [d] => { results := [.lit (.bool true)], args := [d] }
  | _ => none }
def recordKeepsRow : OpenClaim := { program := "ytaabfhfiipmhcaa", sum := "e1117df13e742028931cf7c79edc4dd4f1fd1698bbc2d5b5c5df01724cbdc18e", func := "wayleave/wayleavelaw05.RecordKeeps", spec := "recordKeeps", unfollowed := true, recurses := true, apart := false }
def RecordKeepsSaid : Prop := recordKeepsRow.holds Try.pinned (OpenSpec.ofChange recordKeepsSpec)

/-- ITS FALSE NEIGHBOUR: 'it returns false'. Refute it at one input. -/
def recordKeepsWrong : ChangeSpec := { name := "recordKeeps", fn := fun _ => fun
  | [d] => { results := [.lit (.bool false)], args := [d] }
  | _ => none }
def RecordKeepsWrongFalsely : Prop := recordKeepsRow.holds Try.pinned (OpenSpec.ofChange recordKeepsWrong)

/- THE SECOND FORM. 'bulk': how many values and letters a reading holds, each counted each time it is reached (what is shared counts as often as it is met; a slice's spare places count too). A statement '..UptoSaid' is the law's where the arguments, and the package variables that the reading takes, are together of bulk at most 1048576: NARROWER than '..Said'. Prove '..Said' where nothing that the law and all that it calls make is longer than what came in: it says more and counts as full. Else prove '..UptoSaid'. A law counts once. -/
mutual
def uptoBulk {H : Type} : DataW H → Nat
  | .lit (.string bytes) => bytes.length + 1
  | .lit _ => 1
  | .nil => 1
  | .ptr d => uptoBulk d + 1
  | .slice elems spare => uptoBulkAll elems + uptoBulkAll spare + 1
  | .agg parts => uptoBulkAll parts + 1
  | .iface _ d => uptoBulk d + 1
  | .map entries => uptoBulkEntries entries + 1
  | .held _ => 1
def uptoBulkAll {H : Type} : List (DataW H) → Nat
  | [] => 0
  | d :: r => uptoBulk d + uptoBulkAll r
def uptoBulkEntries {H : Type} : List (Lit × DataW H) → Nat
  | [] => 0
  | x :: r => uptoBulkEntry x + uptoBulkEntries r
def uptoBulkEntry {H : Type} : Lit × DataW H → Nat
  | (.string bytes, d) => bytes.length + uptoBulk d + 1
  | (_, d) => uptoBulk d + 1
 end
def uptoSmall : (H : Type) → List (DataW H) → Bool := fun _ ds => decide (uptoBulkAll ds ≤ 1048576)
def OpenSpec.upto (s : _root_.Go.ChangeSpec) : _root_.Go.OpenSpec := { _root_.Go.OpenSpec.ofChange s with cond := some uptoSmall }

/-- 'wayleavelaw05.RecordPuts', WHERE WHAT IT READS IS OF BULK AT MOST 1048576: true; the input reads as it did. -/
def recordPutsUptoRow : OpenClaim := { program := "ytaabfhfiipmhcaa", sum := "e1117df13e742028931cf7c79edc4dd4f1fd1698bbc2d5b5c5df01724cbdc18e", func := "wayleave/wayleavelaw05.RecordPuts", spec := "recordPuts", unfollowed := true, recurses := true, apart := false, narrowed := true }
def RecordPutsUptoSaid : Prop := recordPutsUptoRow.holds Try.pinned (OpenSpec.upto recordPutsSpec)

/-- 'wayleavelaw05.RecordLong', WHERE WHAT IT READS IS OF BULK AT MOST 1048576: true; the input reads as it did. -/
def recordLongUptoRow : OpenClaim := { program := "ytaabfhfiipmhcaa", sum := "e1117df13e742028931cf7c79edc4dd4f1fd1698bbc2d5b5c5df01724cbdc18e", func := "wayleave/wayleavelaw05.RecordLong", spec := "recordLong", unfollowed := true, recurses := true, apart := false, narrowed := true }
def RecordLongUptoSaid : Prop := recordLongUptoRow.holds Try.pinned (OpenSpec.upto recordLongSpec)

/-- 'wayleavelaw05.RecordNexts', WHERE WHAT IT READS IS OF BULK AT MOST 1048576: true; the input reads as it did. -/
def recordNextsUptoRow : OpenClaim := { program := "ytaabfhfiipmhcaa", sum := "e1117df13e742028931cf7c79edc4dd4f1fd1698bbc2d5b5c5df01724cbdc18e", func := "wayleave/wayleavelaw05.RecordNexts", spec := "recordNexts", unfollowed := true, recurses := true, apart := false, narrowed := true }
def RecordNextsUptoSaid : Prop := recordNextsUptoRow.holds Try.pinned (OpenSpec.upto recordNextsSpec)

/-- 'wayleavelaw05.RecordRows', WHERE WHAT IT READS IS OF BULK AT MOST 1048576: true; the input reads as it did. -/
def recordRowsUptoRow : OpenClaim := { program := "ytaabfhfiipmhcaa", sum := "e1117df13e742028931cf7c79edc4dd4f1fd1698bbc2d5b5c5df01724cbdc18e", func := "wayleave/wayleavelaw05.RecordRows", spec := "recordRows", unfollowed := true, recurses := true, apart := false, narrowed := true }
def RecordRowsUptoSaid : Prop := recordRowsUptoRow.holds Try.pinned (OpenSpec.upto recordRowsSpec)

/-- 'wayleavelaw05.RecordBurst', WHERE WHAT IT READS IS OF BULK AT MOST 1048576: true; the input reads as it did. -/
def recordBurstUptoRow : OpenClaim := { program := "ytaabfhfiipmhcaa", sum := "e1117df13e742028931cf7c79edc4dd4f1fd1698bbc2d5b5c5df01724cbdc18e", func := "wayleave/wayleavelaw05.RecordBurst", spec := "recordBurst", unfollowed := true, recurses := true, apart := false, narrowed := true }
def RecordBurstUptoSaid : Prop := recordBurstUptoRow.holds Try.pinned (OpenSpec.upto recordBurstSpec)

/-- 'wayleavelaw05.RecordOnly', WHERE WHAT IT READS IS OF BULK AT MOST 1048576: true; the input reads as it did. -/
def recordOnlyUptoRow : OpenClaim := { program := "ytaabfhfiipmhcaa", sum := "e1117df13e742028931cf7c79edc4dd4f1fd1698bbc2d5b5c5df01724cbdc18e", func := "wayleave/wayleavelaw05.RecordOnly", spec := "recordOnly", unfollowed := true, recurses := true, apart := false, narrowed := true }
def RecordOnlyUptoSaid : Prop := recordOnlyUptoRow.holds Try.pinned (OpenSpec.upto recordOnlySpec)

/-- 'wayleavelaw05.RecordKeeps', WHERE WHAT IT READS IS OF BULK AT MOST 1048576: true; the input reads as it did. -/
def recordKeepsUptoRow : OpenClaim := { program := "ytaabfhfiipmhcaa", sum := "e1117df13e742028931cf7c79edc4dd4f1fd1698bbc2d5b5c5df01724cbdc18e", func := "wayleave/wayleavelaw05.RecordKeeps", spec := "recordKeeps", unfollowed := true, recurses := true, apart := false, narrowed := true }
def RecordKeepsUptoSaid : Prop := recordKeepsUptoRow.holds Try.pinned (OpenSpec.upto recordKeepsSpec)

end Rows
end Go.Proofs.Ytaabfhfiipmhcaa
