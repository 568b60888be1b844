/-
  No cell of these rows narrows 'for every input' (looked for: loops, veiled, ifaces, maps, wideKeys, modest, calm, conditions, laid).
  DERIVED. THE GIVEN ROWS OF THIS SEAT. 7 by the template 'for every input the law returns true; each argument reads behind the call as it read before'; 0 by the template 'total and deterministic' (their statements: YteljijjebocbiaaTotals.lean).
  GIVEN WITH THE SEED: the statements are not yours to turn. If you find one false, say at which input.
  Laid BY PROGRAM, IN A SANDBOX (cutbox-rows.mjs): the forced cells as the released guide's own fill.sh prints them over the translation 74889bfad411dbda… (all of the seat's roots in one cut). By AI agents, Wed Nov 11 2026. No macro, syntax, notation, axiom, sorry.
-/
import Derived.Test.YteljijjebocbiaaChecked
import GoSem.Claim
import GoSem.ClaimJoined
import GoSem.ClaimMapViews
import Derived.JoinedTies
import Derived.KernelRfl
namespace Go.Proofs.Yteljijjebocbiaa
/- THE CELL 'sum', in the pinned program and in every row, IS THE sha256 OF THE DUMP (.gsa) THAT YteljijjebocbiaaProg.lean LOADS. Nothing in Lean hashes anything: it is a label: what it is worth is what the hold of that sum in a sandbox is worth. -/
noncomputable def Try.pinned : Pinned := { name := "yteljijjebocbiaa", sum := "74889bfad411dbda0af01f8e6d5a830b8805dd87b3b0b38044c980836c4b85bb", checked := Try.checked }
namespace Rows
def none {H : Type} : Left H := { results := [], args := [] }

/-- 'wayleavelaw19.HealthSteps': WHATEVER THE INPUT: true; the input reads as it did. -/
def healthStepsSpec : ChangeSpec := { name := "healthSteps", fn := fun _ => fun
  | [d1, d2, d3, d4] => { results := [.lit (.bool true)], args := [d1, d2, d3, d4] }
  | _ => none }
def healthStepsRow : OpenClaim := { program := "yteljijjebocbiaa", sum := "74889bfad411dbda0af01f8e6d5a830b8805dd87b3b0b38044c980836c4b85bb", func := "wayleave/wayleavelaw19.HealthSteps", spec := "healthSteps", unfollowed := true, recurses := true, apart := false }
def HealthStepsSaid : Prop := healthStepsRow.holds Try.pinned (OpenSpec.ofChange healthStepsSpec)

/-- ITS FALSE NEIGHBOUR: 'it returns false'. Refute it at one input. -/
def healthStepsWrong : ChangeSpec := { name := "healthSteps", fn := fun _ => fun
  | [d1, d2, d3, d4] => { results := [.lit (.bool false)], args := [d1, d2, d3, d4] }
  | _ => none }
def HealthStepsWrongFalsely : Prop := healthStepsRow.holds Try.pinned (OpenSpec.ofChange healthStepsWrong)

/-- 'wayleavelaw19.HealthRuns': WHATEVER THE INPUT: true; the input reads as it did. -/
def healthRunsSpec : ChangeSpec := { name := "healthRuns", fn := fun _ => fun
  | [d1, d2, d3, d4] => { results := [.lit (.bool true)], args := [d1, d2, d3, d4] }
  | _ => none }
def healthRunsRow : OpenClaim := { program := "yteljijjebocbiaa", sum := "74889bfad411dbda0af01f8e6d5a830b8805dd87b3b0b38044c980836c4b85bb", func := "wayleave/wayleavelaw19.HealthRuns", spec := "healthRuns", unfollowed := true, recurses := true, apart := false }
def HealthRunsSaid : Prop := healthRunsRow.holds Try.pinned (OpenSpec.ofChange healthRunsSpec)

/-- ITS FALSE NEIGHBOUR: 'it returns false'. Refute it at one input. -/
def healthRunsWrong : ChangeSpec := { name := "healthRuns", fn := fun _ => fun
  | [d1, d2, d3, d4] => { results := [.lit (.bool false)], args := [d1, d2, d3, d4] }
  | _ => none }
def HealthRunsWrongFalsely : Prop := healthRunsRow.holds Try.pinned (OpenSpec.ofChange healthRunsWrong)

/-- 'wayleavelaw19.HealthLast': WHATEVER THE INPUT: true; the input reads as it did. -/
def healthLastSpec : ChangeSpec := { name := "healthLast", fn := fun _ => fun
  | [d1, d2, d3] => { results := [.lit (.bool true)], args := [d1, d2, d3] }
  | _ => none }
def healthLastRow : OpenClaim := { program := "yteljijjebocbiaa", sum := "74889bfad411dbda0af01f8e6d5a830b8805dd87b3b0b38044c980836c4b85bb", func := "wayleave/wayleavelaw19.HealthLast", spec := "healthLast", unfollowed := true, recurses := true, apart := false }
def HealthLastSaid : Prop := healthLastRow.holds Try.pinned (OpenSpec.ofChange healthLastSpec)

/-- ITS FALSE NEIGHBOUR: 'it returns false'. Refute it at one input. -/
def healthLastWrong : ChangeSpec := { name := "healthLast", fn := fun _ => fun
  | [d1, d2, d3] => { results := [.lit (.bool false)], args := [d1, d2, d3] }
  | _ => none }
def HealthLastWrongFalsely : Prop := healthLastRow.holds Try.pinned (OpenSpec.ofChange healthLastWrong)

/-- 'wayleavelaw19.HealthSplits': WHATEVER THE INPUT: true; the input reads as it did. -/
def healthSplitsSpec : ChangeSpec := { name := "healthSplits", fn := fun _ => fun
  | [d1, d2, d3, d4, d5] => { results := [.lit (.bool true)], args := [d1, d2, d3, d4, d5] }
  | _ => none }
def healthSplitsRow : OpenClaim := { program := "yteljijjebocbiaa", sum := "74889bfad411dbda0af01f8e6d5a830b8805dd87b3b0b38044c980836c4b85bb", func := "wayleave/wayleavelaw19.HealthSplits", spec := "healthSplits", unfollowed := true, recurses := true, apart := false }
def HealthSplitsSaid : Prop := healthSplitsRow.holds Try.pinned (OpenSpec.ofChange healthSplitsSpec)

/-- ITS FALSE NEIGHBOUR: 'it returns false'. Refute it at one input. -/
def healthSplitsWrong : ChangeSpec := { name := "healthSplits", fn := fun _ => fun
  | [d1, d2, d3, d4, d5] => { results := [.lit (.bool false)], args := [d1, d2, d3, d4, d5] }
  | _ => none }
def HealthSplitsWrongFalsely : Prop := healthSplitsRow.holds Try.pinned (OpenSpec.ofChange healthSplitsWrong)

/-- 'wayleavelaw19.HealthSyncs': WHATEVER THE INPUT: true; the input reads as it did. -/
def healthSyncsSpec : ChangeSpec := { name := "healthSyncs", fn := fun _ => fun
  | [d1, d2] => { results := [.lit (.bool true)], args := [d1, d2] }
  | _ => none }
def healthSyncsRow : OpenClaim := { program := "yteljijjebocbiaa", sum := "74889bfad411dbda0af01f8e6d5a830b8805dd87b3b0b38044c980836c4b85bb", func := "wayleave/wayleavelaw19.HealthSyncs", spec := "healthSyncs", unfollowed := true, recurses := true, apart := false }
def HealthSyncsSaid : Prop := healthSyncsRow.holds Try.pinned (OpenSpec.ofChange healthSyncsSpec)

/-- ITS FALSE NEIGHBOUR: 'it returns false'. Refute it at one input. -/
def healthSyncsWrong : ChangeSpec := { name := "healthSyncs", fn := fun _ => fun
  | [d1, d2] => { results := [.lit (.bool false)], args := [d1, d2] }
  | _ => none }
def HealthSyncsWrongFalsely : Prop := healthSyncsRow.holds Try.pinned (OpenSpec.ofChange healthSyncsWrong)

/-- 'wayleavelaw19.HealthSets': WHATEVER THE INPUT: true; the input reads as it did. -/
def healthSetsSpec : ChangeSpec := { name := "healthSets", fn := fun _ => fun
  | [d1, d2, d3, d4, d5] => { results := [.lit (.bool true)], args := [d1, d2, d3, d4, d5] }
  | _ => none }
def healthSetsRow : OpenClaim := { program := "yteljijjebocbiaa", sum := "74889bfad411dbda0af01f8e6d5a830b8805dd87b3b0b38044c980836c4b85bb", func := "wayleave/wayleavelaw19.HealthSets", spec := "healthSets", unfollowed := true, recurses := true, apart := false }
def HealthSetsSaid : Prop := healthSetsRow.holds Try.pinned (OpenSpec.ofChange healthSetsSpec)

/-- ITS FALSE NEIGHBOUR: 'it returns false'. Refute it at one input. -/
def healthSetsWrong : ChangeSpec := { name := "healthSets", fn := fun _ => fun
  | [d1, d2, d3, d4, d5] => { results := [.lit (.bool false)], args := [d1, d2, d3, d4, d5] }
  | _ => none }
def HealthSetsWrongFalsely : Prop := healthSetsRow.holds Try.pinned (OpenSpec.ofChange healthSetsWrong)

/-- 'wayleavelaw19.HealthKeeps': WHATEVER THE INPUT: true; the input reads as it did. -/
def healthKeepsSpec : ChangeSpec := { name := "healthKeeps", fn := fun _ => fun
  | [d1, d2, d3] => { results := [.lit (.bool true)], args := [d1, d2, d3] }
  | _ => none }
def healthKeepsRow : OpenClaim := { program := "yteljijjebocbiaa", sum := "74889bfad411dbda0af01f8e6d5a830b8805dd87b3b0b38044c980836c4b85bb", func := "wayleave/wayleavelaw19.HealthKeeps", spec := "healthKeeps", unfollowed := true, recurses := true, apart := false }
def HealthKeepsSaid : Prop := healthKeepsRow.holds Try.pinned (OpenSpec.ofChange healthKeepsSpec)

/-- ITS FALSE NEIGHBOUR: 'it returns false'. Refute it at one input. -/
def healthKeepsWrong : ChangeSpec := { name := "healthKeeps", fn := fun _ => fun
  | [d1, d2, d3] => { results := [.lit (.bool false)], args := [d1, d2, d3] }
  | _ => none }
def HealthKeepsWrongFalsely : Prop := healthKeepsRow.holds Try.pinned (OpenSpec.ofChange healthKeepsWrong)

/- THE SECOND FORM. 'bulk': how many values and letters a reading holds, each counted each time it is reached (what is shared counts as often as it is met; a slice's spare places count too). A statement '..UptoSaid' is the law's where the arguments, and the package variables that the reading takes, are together of bulk at most 1048576: NARROWER than '..Said'. Prove '..Said' where nothing that the law and all that it calls make is longer than what came in: it says more and counts as full. Else prove '..UptoSaid'. A law counts once. -/
mutual
def uptoBulk {H : Type} : DataW H → Nat
  | .lit (.string bytes) => bytes.length + 1
  | .lit _ => 1
  | .nil => 1
  | .ptr d => uptoBulk d + 1
  | .slice elems spare => uptoBulkAll elems + uptoBulkAll spare + 1
  | .agg parts => uptoBulkAll parts + 1
  | .iface _ d => uptoBulk d + 1
  | .map entries => uptoBulkEntries entries + 1
  | .held _ => 1
def uptoBulkAll {H : Type} : List (DataW H) → Nat
  | [] => 0
  | d :: r => uptoBulk d + uptoBulkAll r
def uptoBulkEntries {H : Type} : List (Lit × DataW H) → Nat
  | [] => 0
  | x :: r => uptoBulkEntry x + uptoBulkEntries r
def uptoBulkEntry {H : Type} : Lit × DataW H → Nat
  | (.string bytes, d) => bytes.length + uptoBulk d + 1
  | (_, d) => uptoBulk d + 1
 end
def uptoSmall : (H : Type) → List (DataW H) → Bool := fun _ ds => decide (uptoBulkAll ds ≤ 1048576)
def OpenSpec.upto (s : _root_.Go.ChangeSpec) : _root_.Go.OpenSpec := { _root_.Go.OpenSpec.ofChange s with cond := some uptoSmall }

/-- 'wayleavelaw19.HealthSteps', WHERE WHAT IT READS IS OF BULK AT MOST 1048576: true; the input reads as it did. -/
def healthStepsUptoRow : OpenClaim := { program := "yteljijjebocbiaa", sum := "74889bfad411dbda0af01f8e6d5a830b8805dd87b3b0b38044c980836c4b85bb", func := "wayleave/wayleavelaw19.HealthSteps", spec := "healthSteps", unfollowed := true, recurses := true, apart := false, narrowed := true }
def HealthStepsUptoSaid : Prop := healthStepsUptoRow.holds Try.pinned (OpenSpec.upto healthStepsSpec)

/-- 'wayleavelaw19.HealthRuns', WHERE WHAT IT READS IS OF BULK AT MOST 1048576: true; the input reads as it did. -/
def healthRunsUptoRow : OpenClaim := { program := "yteljijjebocbiaa", sum := "74889bfad411dbda0af01f8e6d5a830b8805dd87b3b0b38044c980836c4b85bb", func := "wayleave/wayleavelaw19.HealthRuns", spec := "healthRuns", unfollowed := true, recurses := true, apart := false, narrowed := true }
def HealthRunsUptoSaid : Prop := healthRunsUptoRow.holds Try.pinned (OpenSpec.upto healthRunsSpec)

/-- 'wayleavelaw19.HealthLast', WHERE WHAT IT READS IS OF BULK AT MOST 1048576: true; the input reads as it did. -/
def healthLastUptoRow : OpenClaim := { program := "yteljijjebocbiaa", sum := "74889bfad411dbda0af01f8e6d5a830b8805dd87b3b0b38044c980836c4b85bb", func := "wayleave/wayleavelaw19.HealthLast", spec := "healthLast", unfollowed := true, recurses := true, apart := false, narrowed := true }
def HealthLastUptoSaid : Prop := healthLastUptoRow.holds Try.pinned (OpenSpec.upto healthLastSpec)

/-- 'wayleavelaw19.HealthSplits', WHERE WHAT IT READS IS OF BULK AT MOST 1048576: true; the input reads as it did. -/
def healthSplitsUptoRow : OpenClaim := { program := "yteljijjebocbiaa", sum := "74889bfad411dbda0af01f8e6d5a830b8805dd87b3b0b38044c980836c4b85bb", func := "wayleave/wayleavelaw19.HealthSplits", spec := "healthSplits", unfollowed := true, recurses := true, apart := false, narrowed := true }
def HealthSplitsUptoSaid : Prop := healthSplitsUptoRow.holds Try.pinned (OpenSpec.upto healthSplitsSpec)

/-- 'wayleavelaw19.HealthSyncs', WHERE WHAT IT READS IS OF BULK AT MOST 1048576: true; the input reads as it did. -/
def healthSyncsUptoRow : OpenClaim := { program := "yteljijjebocbiaa", sum := "74889bfad411dbda0af01f8e6d5a830b8805dd87b3b0b38044c980836c4b85bb", func := "wayleave/wayleavelaw19.HealthSyncs", spec := "healthSyncs", unfollowed := true, recurses := true, apart := false, narrowed := true }
def HealthSyncsUptoSaid : Prop := healthSyncsUptoRow.holds Try.pinned (OpenSpec.upto healthSyncsSpec)

/-- 'wayleavelaw19.HealthSets', WHERE WHAT IT READS IS OF BULK AT MOST 1048576: true; the input reads as it did. -/
def healthSetsUptoRow : OpenClaim := { program := "yteljijjebocbiaa", sum := "74889bfad411dbda0af01f8e6d5a830b8805dd87b3b0b38044c980836c4b85bb", func := "wayleave/wayleavelaw19.HealthSets", spec := "healthSets", unfollowed := true, recurses := true, apart := false, narrowed := true }
def HealthSetsUptoSaid : Prop := healthSetsUptoRow.holds Try.pinned (OpenSpec.upto healthSetsSpec)

/-- 'wayleavelaw19.HealthKeeps', WHERE WHAT IT READS IS OF BULK AT MOST 1048576: true; the input reads as it did. -/
def healthKeepsUptoRow : OpenClaim := { program := "yteljijjebocbiaa", sum := "74889bfad411dbda0af01f8e6d5a830b8805dd87b3b0b38044c980836c4b85bb", func := "wayleave/wayleavelaw19.HealthKeeps", spec := "healthKeeps", unfollowed := true, recurses := true, apart := false, narrowed := true }
def HealthKeepsUptoSaid : Prop := healthKeepsUptoRow.holds Try.pinned (OpenSpec.upto healthKeepsSpec)

end Rows
end Go.Proofs.Yteljijjebocbiaa
