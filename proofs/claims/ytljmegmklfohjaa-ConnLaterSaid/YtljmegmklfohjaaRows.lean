/-
  No cell of these rows narrows 'for every input' (looked for: loops, veiled, ifaces, maps, wideKeys, modest, calm, conditions, laid).
  DERIVED. THE GIVEN ROWS OF THIS SEAT. 7 by the template 'for every input the law returns true; each argument reads behind the call as it read before'; 0 by the template 'total and deterministic' (their statements: YtljmegmklfohjaaTotals.lean).
  GIVEN WITH THE SEED: the statements are not yours to turn. If you find one false, say at which input.
  Laid BY PROGRAM, IN A SANDBOX (cutbox-rows.mjs): the forced cells as the released guide's own fill.sh prints them over the translation 569189077e1d71f3… (all of the seat's roots in one cut). By AI agents, Wed Nov 11 2026. No macro, syntax, notation, axiom, sorry.
-/
import Derived.Test.YtljmegmklfohjaaChecked
import GoSem.Claim
import GoSem.ClaimJoined
import GoSem.ClaimMapViews
import Derived.JoinedTies
import Derived.KernelRfl
namespace Go.Proofs.Ytljmegmklfohjaa
/- THE CELL 'sum', in the pinned program and in every row, IS THE sha256 OF THE DUMP (.gsa) THAT YtljmegmklfohjaaProg.lean LOADS. Nothing in Lean hashes anything: it is a label: what it is worth is what the hold of that sum in a sandbox is worth. -/
noncomputable def Try.pinned : Pinned := { name := "ytljmegmklfohjaa", sum := "569189077e1d71f3ff4976cb3c4823fbb216e15a0181cb9198a7081f0439a277", checked := Try.checked }
namespace Rows
def none {H : Type} : Left H := { results := [], args := [] }

/-- 'wayleavelaw20.ConnBegins': WHATEVER THE INPUT: true; the input reads as it did. -/
def connBeginsSpec : ChangeSpec := { name := "connBegins", fn := fun _ => fun
  | [d1, d2] => { results := [.lit (.bool true)], args := [d1, d2] }
  | _ => none }
def connBeginsRow : OpenClaim := { program := "ytljmegmklfohjaa", sum := "569189077e1d71f3ff4976cb3c4823fbb216e15a0181cb9198a7081f0439a277", func := "wayleave/wayleavelaw20.ConnBegins", spec := "connBegins", apart := false }
def ConnBeginsSaid : Prop := connBeginsRow.holds Try.pinned (OpenSpec.ofChange connBeginsSpec)

/-- ITS FALSE NEIGHBOUR: 'it returns false'. Refute it at one input. -/
def connBeginsWrong : ChangeSpec := { name := "connBegins", fn := fun _ => fun
  | [d1, d2] => { results := [.lit (.bool false)], args := [d1, d2] }
  | _ => none }
def ConnBeginsWrongFalsely : Prop := connBeginsRow.holds Try.pinned (OpenSpec.ofChange connBeginsWrong)

/-- 'wayleavelaw20.ConnNexts': WHATEVER THE INPUT: true; the input reads as it did. -/
def connNextsSpec : ChangeSpec := { name := "connNexts", fn := fun _ => fun
  | [d1, d2] => { results := [.lit (.bool true)], args := [d1, d2] }
  | _ => none }
def connNextsRow : OpenClaim := { program := "ytljmegmklfohjaa", sum := "569189077e1d71f3ff4976cb3c4823fbb216e15a0181cb9198a7081f0439a277", func := "wayleave/wayleavelaw20.ConnNexts", spec := "connNexts", apart := false }
def ConnNextsSaid : Prop := connNextsRow.holds Try.pinned (OpenSpec.ofChange connNextsSpec)

/-- ITS FALSE NEIGHBOUR: 'it returns false'. Refute it at one input. -/
def connNextsWrong : ChangeSpec := { name := "connNexts", fn := fun _ => fun
  | [d1, d2] => { results := [.lit (.bool false)], args := [d1, d2] }
  | _ => none }
def ConnNextsWrongFalsely : Prop := connNextsRow.holds Try.pinned (OpenSpec.ofChange connNextsWrong)

/-- 'wayleavelaw20.ConnRuns': WHATEVER THE INPUT: true; the input reads as it did. -/
def connRunsSpec : ChangeSpec := { name := "connRuns", fn := fun _ => fun
  | [d1, d2, d3] => { results := [.lit (.bool true)], args := [d1, d2, d3] }
  | _ => none }
def connRunsRow : OpenClaim := { program := "ytljmegmklfohjaa", sum := "569189077e1d71f3ff4976cb3c4823fbb216e15a0181cb9198a7081f0439a277", func := "wayleave/wayleavelaw20.ConnRuns", spec := "connRuns", apart := false }
def ConnRunsSaid : Prop := connRunsRow.holds Try.pinned (OpenSpec.ofChange connRunsSpec)

/-- ITS FALSE NEIGHBOUR: 'it returns false'. Refute it at one input. -/
def connRunsWrong : ChangeSpec := { name := "connRuns", fn := fun _ => fun
  | [d1, d2, d3] => { results := [.lit (.bool false)], args := [d1, d2, d3] }
  | _ => none }
def ConnRunsWrongFalsely : Prop := connRunsRow.holds Try.pinned (OpenSpec.ofChange connRunsWrong)

/-- 'wayleavelaw20.ConnOnce': WHATEVER THE INPUT: true; the input reads as it did. -/
def connOnceSpec : ChangeSpec := { name := "connOnce", fn := fun _ => fun
  | [d1, d2] => { results := [.lit (.bool true)], args := [d1, d2] }
  | _ => none }
def connOnceRow : OpenClaim := { program := "ytljmegmklfohjaa", sum := "569189077e1d71f3ff4976cb3c4823fbb216e15a0181cb9198a7081f0439a277", func := "wayleave/wayleavelaw20.ConnOnce", spec := "connOnce", apart := false }
def ConnOnceSaid : Prop := connOnceRow.holds Try.pinned (OpenSpec.ofChange connOnceSpec)

/-- ITS FALSE NEIGHBOUR: 'it returns false'. Refute it at one input. -/
def connOnceWrong : ChangeSpec := { name := "connOnce", fn := fun _ => fun
  | [d1, d2] => { results := [.lit (.bool false)], args := [d1, d2] }
  | _ => none }
def ConnOnceWrongFalsely : Prop := connOnceRow.holds Try.pinned (OpenSpec.ofChange connOnceWrong)

/-- 'wayleavelaw20.ConnBits': WHATEVER THE INPUT: true; the input reads as it did. -/
def connBitsSpec : ChangeSpec := { name := "connBits", fn := fun _ => fun
  | [d1, d2, d3] => { results := [.lit (.bool true)], args := [d1, d2, d3] }
  | _ => none }
def connBitsRow : OpenClaim := { program := "ytljmegmklfohjaa", sum := "569189077e1d71f3ff4976cb3c4823fbb216e15a0181cb9198a7081f0439a277", func := "wayleave/wayleavelaw20.ConnBits", spec := "connBits", apart := false }
def ConnBitsSaid : Prop := connBitsRow.holds Try.pinned (OpenSpec.ofChange connBitsSpec)

/-- ITS FALSE NEIGHBOUR: 'it returns false'. Refute it at one input. -/
def connBitsWrong : ChangeSpec := { name := "connBits", fn := fun _ => fun
  | [d1, d2, d3] => { results := [.lit (.bool false)], args := [d1, d2, d3] }
  | _ => none }
def ConnBitsWrongFalsely : Prop := connBitsRow.holds Try.pinned (OpenSpec.ofChange connBitsWrong)

/-- 'wayleavelaw20.ConnStales': WHATEVER THE INPUT: true; the input reads as it did. -/
def connStalesSpec : ChangeSpec := { name := "connStales", fn := fun _ => fun
  | [d1, d2, d3, d4] => { results := [.lit (.bool true)], args := [d1, d2, d3, d4] }
  | _ => none }
def connStalesRow : OpenClaim := { program := "ytljmegmklfohjaa", sum := "569189077e1d71f3ff4976cb3c4823fbb216e15a0181cb9198a7081f0439a277", func := "wayleave/wayleavelaw20.ConnStales", spec := "connStales", apart := false }
def ConnStalesSaid : Prop := connStalesRow.holds Try.pinned (OpenSpec.ofChange connStalesSpec)

/-- ITS FALSE NEIGHBOUR: 'it returns false'. Refute it at one input. -/
def connStalesWrong : ChangeSpec := { name := "connStales", fn := fun _ => fun
  | [d1, d2, d3, d4] => { results := [.lit (.bool false)], args := [d1, d2, d3, d4] }
  | _ => none }
def ConnStalesWrongFalsely : Prop := connStalesRow.holds Try.pinned (OpenSpec.ofChange connStalesWrong)

/-- 'wayleavelaw20.ConnLater': WHATEVER THE INPUT: true; the input reads as it did. -/
def connLaterSpec : ChangeSpec := { name := "connLater", fn := fun _ => fun
  | [d1, d2, d3, d4, d5, d6] => { results := [.lit (.bool true)], args := [d1, d2, d3, d4, d5, d6] }
  | _ => none }
def connLaterRow : OpenClaim := { program := "ytljmegmklfohjaa", sum := "569189077e1d71f3ff4976cb3c4823fbb216e15a0181cb9198a7081f0439a277", func := "wayleave/wayleavelaw20.ConnLater", spec := "connLater", apart := false }
def ConnLaterSaid : Prop := connLaterRow.holds Try.pinned (OpenSpec.ofChange connLaterSpec)

/-- ITS FALSE NEIGHBOUR: 'it returns false'. Refute it at one input. -/
def connLaterWrong : ChangeSpec := { name := "connLater", fn := fun _ => fun
  | [d1, d2, d3, d4, d5, d6] => { results := [.lit (.bool false)], args := [d1, d2, d3, d4, d5, d6] }
  | _ => none }
def ConnLaterWrongFalsely : Prop := connLaterRow.holds Try.pinned (OpenSpec.ofChange connLaterWrong)

/- THE SECOND FORM. 'bulk': how many values and letters a reading holds, each counted each time it is reached (what is shared counts as often as it is met; a slice's spare places count too). A statement '..UptoSaid' is the law's where the arguments, and the package variables that the reading takes, are together of bulk at most 1048576: NARROWER than '..Said'. Prove '..Said' where nothing that the law and all that it calls make is longer than what came in: it says more and counts as full. Else prove '..UptoSaid'. A law counts once. -/
mutual
def uptoBulk {H : Type} : DataW H → Nat
  | .lit (.string bytes) => bytes.length + 1
  | .lit _ => 1
  | .nil => 1
  | .ptr d => uptoBulk d + 1
  | .slice elems spare => uptoBulkAll elems + uptoBulkAll spare + 1
  | .agg parts => uptoBulkAll parts + 1
  | .iface _ d => uptoBulk d + 1
  | .map entries => uptoBulkEntries entries + 1
  | .held _ => 1
def uptoBulkAll {H : Type} : List (DataW H) → Nat
  | [] => 0
  | d :: r => uptoBulk d + uptoBulkAll r
def uptoBulkEntries {H : Type} : List (Lit × DataW H) → Nat
  | [] => 0
  | x :: r => uptoBulkEntry x + uptoBulkEntries r
def uptoBulkEntry {H : Type} : Lit × DataW H → Nat
  | (.string bytes, d) => bytes.length + uptoBulk d + 1
  | (_, d) => uptoBulk d + 1
 end
def uptoSmall : (H : Type) → List (DataW H) → Bool := fun _ ds => decide (uptoBulkAll ds ≤ 1048576)
def OpenSpec.upto (s : _root_.Go.ChangeSpec) : _root_.Go.OpenSpec := { _root_.Go.OpenSpec.ofChange s with cond := some uptoSmall }

/-- 'wayleavelaw20.ConnBegins', WHERE WHAT IT READS IS OF BULK AT MOST 1048576: true; the input reads as it did. -/
def connBeginsUptoRow : OpenClaim := { program := "ytljmegmklfohjaa", sum := "569189077e1d71f3ff4976cb3c4823fbb216e15a0181cb9198a7081f0439a277", func := "wayleave/wayleavelaw20.ConnBegins", spec := "connBegins", apart := false, narrowed := true }
def ConnBeginsUptoSaid : Prop := connBeginsUptoRow.holds Try.pinned (OpenSpec.upto connBeginsSpec)

/-- 'wayleavelaw20.ConnNexts', WHERE WHAT IT READS IS OF BULK AT MOST 1048576: true; the input reads as it did. -/
def connNextsUptoRow : OpenClaim := { program := "ytljmegmklfohjaa", sum := "569189077e1d71f3ff4976cb3c4823fbb216e15a0181cb9198a7081f0439a277", func := "wayleave/wayleavelaw20.ConnNexts", spec := "connNexts", apart := false, narrowed := true }
def ConnNextsUptoSaid : Prop := connNextsUptoRow.holds Try.pinned (OpenSpec.upto connNextsSpec)

/-- 'wayleavelaw20.ConnRuns', WHERE WHAT IT READS IS OF BULK AT MOST 1048576: true; the input reads as it did. -/
def connRunsUptoRow : OpenClaim := { program := "ytljmegmklfohjaa", sum := "569189077e1d71f3ff4976cb3c4823fbb216e15a0181cb9198a7081f0439a277", func := "wayleave/wayleavelaw20.ConnRuns", spec := "connRuns", apart := false, narrowed := true }
def ConnRunsUptoSaid : Prop := connRunsUptoRow.holds Try.pinned (OpenSpec.upto connRunsSpec)

/-- 'wayleavelaw20.ConnOnce', WHERE WHAT IT READS IS OF BULK AT MOST 1048576: true; the input reads as it did. -/
def connOnceUptoRow : OpenClaim := { program := "ytljmegmklfohjaa", sum := "569189077e1d71f3ff4976cb3c4823fbb216e15a0181cb9198a7081f0439a277", func := "wayleave/wayleavelaw20.ConnOnce", spec := "connOnce", apart := false, narrowed := true }
def ConnOnceUptoSaid : Prop := connOnceUptoRow.holds Try.pinned (OpenSpec.upto connOnceSpec)

/-- 'wayleavelaw20.ConnBits', WHERE WHAT IT READS IS OF BULK AT MOST 1048576: true; the input reads as it did. -/
def connBitsUptoRow : OpenClaim := { program := "ytljmegmklfohjaa", sum := "569189077e1d71f3ff4976cb3c4823fbb216e15a0181cb9198a7081f0439a277", func := "wayleave/wayleavelaw20.ConnBits", spec := "connBits", apart := false, narrowed := true }
def ConnBitsUptoSaid : Prop := connBitsUptoRow.holds Try.pinned (OpenSpec.upto connBitsSpec)

/-- 'wayleavelaw20.ConnStales', WHERE WHAT IT READS IS OF BULK AT MOST 1048576: true; the input reads as it did. -/
def connStalesUptoRow : OpenClaim := { program := "ytljmegmklfohjaa", sum := "569189077e1d71f3ff4976cb3c4823fbb216e15a0181cb9198a7081f0439a277", func := "wayleave/wayleavelaw20.ConnStales", spec := "connStales", apart := false, narrowed := true }
def ConnStalesUptoSaid : Prop := connStalesUptoRow.holds Try.pinned (OpenSpec.upto connStalesSpec)

/-- 'wayleavelaw20.ConnLater', WHERE WHAT IT READS IS OF BULK AT MOST 1048576: true; the input reads as it did. -/
def connLaterUptoRow : OpenClaim := { program := "ytljmegmklfohjaa", sum := "569189077e1d71f3ff4976cb3c4823fbb216e15a0181cb9198a7081f0439a277", func := "wayleave/wayleavelaw20.ConnLater", spec := "connLater", apart := false, narrowed := true }
def ConnLaterUptoSaid : Prop := connLaterUptoRow.holds Try.pinned (OpenSpec.upto connLaterSpec)

end Rows
end Go.Proofs.Ytljmegmklfohjaa
