/-
  No cell of these rows narrows 'for every input' (looked for: loops, veiled, ifaces, maps, wideKeys, modest, calm, conditions, laid).
  DERIVED. THE GIVEN ROWS OF THIS SEAT. 6 by the template 'for every input the law returns true; each argument reads behind the call as it read before'; 0 by the template 'total and deterministic' (their statements: YtdfjdkbnbiglnaaTotals.lean).
  GIVEN WITH THE SEED: the statements are not yours to turn. If you find one false, say at which input.
  Laid BY PROGRAM, IN A SANDBOX (cutbox-rows.mjs): the forced cells as the released guide's own fill.sh prints them over the translation 4711f76b97685b4e… (all of the seat's roots in one cut). By AI agents, Wed Nov 11 2026. No macro, syntax, notation, axiom, sorry.
-/
import Derived.Test.YtdfjdkbnbiglnaaChecked
import GoSem.Claim
import GoSem.ClaimJoined
import GoSem.ClaimMapViews
import Derived.JoinedTies
import Derived.KernelRfl
namespace Go.Proofs.Ytdfjdkbnbiglnaa
/- THE CELL 'sum', in the pinned program and in every row, IS THE sha256 OF THE DUMP (.gsa) THAT YtdfjdkbnbiglnaaProg.lean LOADS. Nothing in Lean hashes anything: it is a label: what it is worth is what the hold of that sum in a sandbox is worth. -/
noncomputable def Try.pinned : Pinned := { name := "ytdfjdkbnbiglnaa", sum := "4711f76b97685b4e3e97741b2c08ff581db41daa184ad1fbba7e4a70daca7233", checked := Try.checked }
namespace Rows
def none {H : Type} : Left H := { results := [], args := [] }

/-- 'wayleavelaw06.InetSums': WHATEVER THE INPUT: true; the input reads as it did. -/
def inetSumsSpec : ChangeSpec := { name := "inetSums", fn := fun _ => fun
  | [d1, d2] => { results := [.lit (.bool true)], args := [d1, d2] }
  | _ => none }
def inetSumsRow : OpenClaim := { program := "ytdfjdkbnbiglnaa", sum := "4711f76b97685b4e3e97741b2c08ff581db41daa184ad1fbba7e4a70daca7233", func := "wayleave/wayleavelaw06.InetSums", spec := "inetSums", apart := false }
def InetSumsSaid : Prop := inetSumsRow.holds Try.pinned (OpenSpec.ofChange inetSumsSpec)

/-- ITS FALSE NEIGHBOUR: 'it returns false'. Refute it at one input. -/
def inetSumsWrong : ChangeSpec := { name := "inetSums", fn := fun _ => fun
  | [d1, d2] => { results := [.lit (.bool false)], args := [d1, d2] }
  | _ => none }
def InetSumsWrongFalsely : Prop := inetSumsRow.holds Try.pinned (OpenSpec.ofChange inetSumsWrong)

/-- 'wayleavelaw06.InetOrder': WHATEVER THE INPUT: true; the input reads as it did. -/
def inetOrderSpec : ChangeSpec := { name := "inetOrder", fn := fun _ => fun
  | [d1, d2] => { results := [.lit (.bool true)], args := [d1, d2] }
  | _ => none }
def inetOrderRow : OpenClaim := { program := "ytdfjdkbnbiglnaa", sum := "4711f76b97685b4e3e97741b2c08ff581db41daa184ad1fbba7e4a70daca7233", func := "wayleave/wayleavelaw06.InetOrder", spec := "inetOrder", apart := false }
def InetOrderSaid : Prop := inetOrderRow.holds Try.pinned (OpenSpec.ofChange inetOrderSpec)

/-- ITS FALSE NEIGHBOUR: 'it returns false'. Refute it at one input. -/
def inetOrderWrong : ChangeSpec := { name := "inetOrder", fn := fun _ => fun
  | [d1, d2] => { results := [.lit (.bool false)], args := [d1, d2] }
  | _ => none }
def InetOrderWrongFalsely : Prop := inetOrderRow.holds Try.pinned (OpenSpec.ofChange inetOrderWrong)

/-- 'wayleavelaw06.InetChanges': WHATEVER THE INPUT: true; the input reads as it did. -/
def inetChangesSpec : ChangeSpec := { name := "inetChanges", fn := fun _ => fun
  | [d1, d2, d3, d4, d5] => { results := [.lit (.bool true)], args := [d1, d2, d3, d4, d5] }
  | _ => none }
def inetChangesRow : OpenClaim := { program := "ytdfjdkbnbiglnaa", sum := "4711f76b97685b4e3e97741b2c08ff581db41daa184ad1fbba7e4a70daca7233", func := "wayleave/wayleavelaw06.InetChanges", spec := "inetChanges", apart := false }
def InetChangesSaid : Prop := inetChangesRow.holds Try.pinned (OpenSpec.ofChange inetChangesSpec)

/-- ITS FALSE NEIGHBOUR: 'it returns false'. Refute it at one input. -/
def inetChangesWrong : ChangeSpec := { name := "inetChanges", fn := fun _ => fun
  | [d1, d2, d3, d4, d5] => { results := [.lit (.bool false)], args := [d1, d2, d3, d4, d5] }
  | _ => none }
def InetChangesWrongFalsely : Prop := inetChangesRow.holds Try.pinned (OpenSpec.ofChange inetChangesWrong)

/-- 'wayleavelaw06.InetChange': WHATEVER THE INPUT: true; the input reads as it did. -/
def inetChangeSpec : ChangeSpec := { name := "inetChange", fn := fun _ => fun
  | [d1, d2, d3, d4] => { results := [.lit (.bool true)], args := [d1, d2, d3, d4] }
  | _ => none }
def inetChangeRow : OpenClaim := { program := "ytdfjdkbnbiglnaa", sum := "4711f76b97685b4e3e97741b2c08ff581db41daa184ad1fbba7e4a70daca7233", func := "wayleave/wayleavelaw06.InetChange", spec := "inetChange", apart := false }
def InetChangeSaid : Prop := inetChangeRow.holds Try.pinned (OpenSpec.ofChange inetChangeSpec)

/-- ITS FALSE NEIGHBOUR: 'it returns false'. Refute it at one input. -/
def inetChangeWrong : ChangeSpec := { name := "inetChange", fn := fun _ => fun
  | [d1, d2, d3, d4] => { results := [.lit (.bool false)], args := [d1, d2, d3, d4] }
  | _ => none }
def InetChangeWrongFalsely : Prop := inetChangeRow.holds Try.pinned (OpenSpec.ofChange inetChangeWrong)

/-- 'wayleavelaw06.InetBack': WHATEVER THE INPUT: true; the input reads as it did. -/
def inetBackSpec : ChangeSpec := { name := "inetBack", fn := fun _ => fun
  | [d1, d2] => { results := [.lit (.bool true)], args := [d1, d2] }
  | _ => none }
def inetBackRow : OpenClaim := { program := "ytdfjdkbnbiglnaa", sum := "4711f76b97685b4e3e97741b2c08ff581db41daa184ad1fbba7e4a70daca7233", func := "wayleave/wayleavelaw06.InetBack", spec := "inetBack", apart := false }
def InetBackSaid : Prop := inetBackRow.holds Try.pinned (OpenSpec.ofChange inetBackSpec)

/-- ITS FALSE NEIGHBOUR: 'it returns false'. Refute it at one input. -/
def inetBackWrong : ChangeSpec := { name := "inetBack", fn := fun _ => fun
  | [d1, d2] => { results := [.lit (.bool false)], args := [d1, d2] }
  | _ => none }
def InetBackWrongFalsely : Prop := inetBackRow.holds Try.pinned (OpenSpec.ofChange inetBackWrong)

/-- 'wayleavelaw06.InetPseudos': WHATEVER THE INPUT: true; the input reads as it did. -/
def inetPseudosSpec : ChangeSpec := { name := "inetPseudos", fn := fun _ => fun
  | [d1, d2, d3, d4] => { results := [.lit (.bool true)], args := [d1, d2, d3, d4] }
  | _ => none }
def inetPseudosRow : OpenClaim := { program := "ytdfjdkbnbiglnaa", sum := "4711f76b97685b4e3e97741b2c08ff581db41daa184ad1fbba7e4a70daca7233", func := "wayleave/wayleavelaw06.InetPseudos", spec := "inetPseudos", apart := false }
def InetPseudosSaid : Prop := inetPseudosRow.holds Try.pinned (OpenSpec.ofChange inetPseudosSpec)

/-- ITS FALSE NEIGHBOUR: 'it returns false'. Refute it at one input. -/
def inetPseudosWrong : ChangeSpec := { name := "inetPseudos", fn := fun _ => fun
  | [d1, d2, d3, d4] => { results := [.lit (.bool false)], args := [d1, d2, d3, d4] }
  | _ => none }
def InetPseudosWrongFalsely : Prop := inetPseudosRow.holds Try.pinned (OpenSpec.ofChange inetPseudosWrong)

/- THE SECOND FORM. 'bulk': how many values and letters a reading holds, each counted each time it is reached (what is shared counts as often as it is met; a slice's spare places count too). A statement '..UptoSaid' is the law's where the arguments, and the package variables that the reading takes, are together of bulk at most 1048576: NARROWER than '..Said'. Prove '..Said' where nothing that the law and all that it calls make is longer than what came in: it says more and counts as full. Else prove '..UptoSaid'. A law counts once. -/
mutual
def uptoBulk {H : Type} : DataW H → Nat
  | .lit (.string bytes) => bytes.length + 1
  | .lit _ => 1
  | .nil => 1
  | .ptr d => uptoBulk d + 1
  | .slice elems spare => uptoBulkAll elems + uptoBulkAll spare + 1
  | .agg parts => uptoBulkAll parts + 1
  | .iface _ d => uptoBulk d + 1
  | .map entries => uptoBulkEntries entries + 1
  | .held _ => 1
def uptoBulkAll {H : Type} : List (DataW H) → Nat
  | [] => 0
  | d :: r => uptoBulk d + uptoBulkAll r
def uptoBulkEntries {H : Type} : List (Lit × DataW H) → Nat
  | [] => 0
  | x :: r => uptoBulkEntry x + uptoBulkEntries r
def uptoBulkEntry {H : Type} : Lit × DataW H → Nat
  | (.string bytes, d) => bytes.length + uptoBulk d + 1
  | (_, d) => uptoBulk d + 1
 end
def uptoSmall : (H : Type) → List (DataW H) → Bool := fun _ ds => decide (uptoBulkAll ds ≤ 1048576)
def OpenSpec.upto (s : _root_.Go.ChangeSpec) : _root_.Go.OpenSpec := { _root_.Go.OpenSpec.ofChange s with cond := some uptoSmall }

/-- 'wayleavelaw06.InetSums', WHERE WHAT IT READS IS OF BULK AT MOST 1048576: true; the input reads as it did. -/
def inetSumsUptoRow : OpenClaim := { program := "ytdfjdkbnbiglnaa", sum := "4711f76b97685b4e3e97741b2c08ff581db41daa184ad1fbba7e4a70daca7233", func := "wayleave/wayleavelaw06.InetSums", spec := "inetSums", apart := false, narrowed := true }
def InetSumsUptoSaid : Prop := inetSumsUptoRow.holds Try.pinned (OpenSpec.upto inetSumsSpec)

/-- 'wayleavelaw06.InetOrder', WHERE WHAT IT READS IS OF BULK AT MOST 1048576: true; the input reads as it did. -/
def inetOrderUptoRow : OpenClaim := { program := "ytdfjdkbnbiglnaa", sum := "4711f76b97685b4e3e97741b2c08ff581db41daa184ad1fbba7e4a70daca7233", func := "wayleave/wayleavelaw06.InetOrder", spec := "inetOrder", apart := false, narrowed := true }
def InetOrderUptoSaid : Prop := inetOrderUptoRow.holds Try.pinned (OpenSpec.upto inetOrderSpec)

/-- 'wayleavelaw06.InetChanges', WHERE WHAT IT READS IS OF BULK AT MOST 1048576: true; the input reads as it did. -/
def inetChangesUptoRow : OpenClaim := { program := "ytdfjdkbnbiglnaa", sum := "4711f76b97685b4e3e97741b2c08ff581db41daa184ad1fbba7e4a70daca7233", func := "wayleave/wayleavelaw06.InetChanges", spec := "inetChanges", apart := false, narrowed := true }
def InetChangesUptoSaid : Prop := inetChangesUptoRow.holds Try.pinned (OpenSpec.upto inetChangesSpec)

/-- 'wayleavelaw06.InetChange', WHERE WHAT IT READS IS OF BULK AT MOST 1048576: true; the input reads as it did. -/
def inetChangeUptoRow : OpenClaim := { program := "ytdfjdkbnbiglnaa", sum := "4711f76b97685b4e3e97741b2c08ff581db41daa184ad1fbba7e4a70daca7233", func := "wayleave/wayleavelaw06.InetChange", spec := "inetChange", apart := false, narrowed := true }
def InetChangeUptoSaid : Prop := inetChangeUptoRow.holds Try.pinned (OpenSpec.upto inetChangeSpec)

/-- 'wayleavelaw06.InetBack', WHERE WHAT IT READS IS OF BULK AT MOST 1048576: true; the input reads as it did. -/
def inetBackUptoRow : OpenClaim := { program := "ytdfjdkbnbiglnaa", sum := "4711f76b97685b4e3e97741b2c08ff581db41daa184ad1fbba7e4a70daca7233", func := "wayleave/wayleavelaw06.InetBack", spec := "inetBack", apart := false, narrowed := true }
def InetBackUptoSaid : Prop := inetBackUptoRow.holds Try.pinned (OpenSpec.upto inetBackSpec)

/-- 'wayleavelaw06.InetPseudos', WHERE WHAT IT READS IS OF BULK AT MOST 1048576: true; the input reads as it did. -/
def inetPseudosUptoRow : OpenClaim := { program := "ytdfjdkbnbiglnaa", sum := "4711f76b97685b4e3e97741b2c08ff581db41daa184ad1fbba7e4a70daca7233", func := "wayleave/wayleavelaw06.InetPseudos", spec := "inetPseudos", apart := false, narrowed := true }
def InetPseudosUptoSaid : Prop := inetPseudosUptoRow.holds Try.pinned (OpenSpec.upto inetPseudosSpec)

end Rows
end Go.Proofs.Ytdfjdkbnbiglnaa
