/-
  No cell of these rows narrows 'for every input' (looked for: loops, veiled, ifaces, maps, wideKeys, modest, calm, conditions, laid).
  DERIVED. THE GIVEN ROWS OF THIS SEAT. 7 by the template 'for every input the law returns true; each argument reads behind the call as it read before'; 0 by the template 'total and deterministic' (their statements: YtdkaaffghendiaaTotals.lean).
  GIVEN WITH THE SEED: the statements are not yours to turn. If you find one false, say at which input.
  Laid BY PROGRAM, IN A SANDBOX (cutbox-rows.mjs): the forced cells as the released guide's own fill.sh prints them over the translation 256d68053961de77… (all of the seat's roots in one cut). By AI agents, Wed Nov 11 2026. No macro, syntax, notation, axiom, sorry.
-/
import Derived.Test.YtdkaaffghendiaaChecked
import GoSem.Claim
import GoSem.ClaimJoined
import GoSem.ClaimMapViews
import Derived.JoinedTies
import Derived.KernelRfl
namespace Go.Proofs.Ytdkaaffghendiaa
/- THE CELL 'sum', in the pinned program and in every row, IS THE sha256 OF THE DUMP (.gsa) THAT YtdkaaffghendiaaProg.lean LOADS. Nothing in Lean hashes anything: it is a label: what it is worth is what the hold of that sum in a sandbox is worth. -/
noncomputable def Try.pinned : Pinned := { name := "ytdkaaffghendiaa", sum := "256d68053961de773f1c6473849d30cf74cc59a0bc04a365aa9482a409d90b90", checked := Try.checked }
namespace Rows
def none {H : Type} : Left H := { results := [], args := [] }

/-- 'wayleavelaw11.PacketReads': WHATEVER THE INPUT: true; the input reads as it did. -/
def packetReadsSpec : ChangeSpec := { name := "packetReads", fn := fun _ => fun
  | [d] => { results := [.lit (.bool true)], args := [d] }
  | _ => none }
def packetReadsRow : OpenClaim := { program := "ytdkaaffghendiaa", sum := "256d68053961de773f1c6473849d30cf74cc59a0bc04a365aa9482a409d90b90", func := "wayleave/wayleavelaw11.PacketReads", spec := "packetReads", unfollowed := true, recurses := true, apart := false }
def PacketReadsSaid : Prop := packetReadsRow.holds Try.pinned (OpenSpec.ofChange packetReadsSpec)

/-- ITS FALSE NEIGHBOUR: 'it returns false'. Refute it at one input. -/
def packetReadsWrong : ChangeSpec := { name := "packetReads", fn := fun _ => fun
  | [d] => { results := [.lit (.bool false)], args := [d] }
  | _ => none }
def PacketReadsWrongFalsely : Prop := packetReadsRow.holds Try.pinned (OpenSpec.ofChange packetReadsWrong)

/-- 'wayleavelaw11.PacketMakes': WHATEVER THE INPUT: true; the input reads as it did. -/
def packetMakesSpec : ChangeSpec := { name := "packetMakes", fn := fun _ => fun
  | [d1, d2, d3, d4] => { results := [.lit (.bool true)], args := [d1, d2, d3, d4] }
  | _ => none }
def packetMakesRow : OpenClaim := { program := "ytdkaaffghendiaa", sum := "256d68053961de773f1c6473849d30cf74cc59a0bc04a365aa9482a409d90b90", func := "wayleave/wayleavelaw11.PacketMakes", spec := "packetMakes", unfollowed := true, recurses := true, apart := false }
def PacketMakesSaid : Prop := packetMakesRow.holds Try.pinned (OpenSpec.ofChange packetMakesSpec)

/-- ITS FALSE NEIGHBOUR: 'it returns false'. Refute it at one input. -/
def packetMakesWrong : ChangeSpec := { name := "packetMakes", fn := fun _ => fun
  | [d1, d2, d3, d4] => { results := [.lit (.bool false)], args := [d1, d2, d3, d4] }
  | _ => none }
def PacketMakesWrongFalsely : Prop := packetMakesRow.holds Try.pinned (OpenSpec.ofChange packetMakesWrong)

/-- 'wayleavelaw11.PacketBack': WHATEVER THE INPUT: true; the input reads as it did. -/
def packetBackSpec : ChangeSpec := { name := "packetBack", fn := fun _ => fun
  | [d1, d2, d3, d4, d5] => { results := [.lit (.bool true)], args := [d1, d2, d3, d4, d5] }
  | _ => none }
def packetBackRow : OpenClaim := { program := "ytdkaaffghendiaa", sum := "256d68053961de773f1c6473849d30cf74cc59a0bc04a365aa9482a409d90b90", func := "wayleave/wayleavelaw11.PacketBack", spec := "packetBack", unfollowed := true, recurses := true, apart := false }
def PacketBackSaid : Prop := packetBackRow.holds Try.pinned (OpenSpec.ofChange packetBackSpec)

/-- ITS FALSE NEIGHBOUR: 'it returns false'. Refute it at one input. -/
def packetBackWrong : ChangeSpec := { name := "packetBack", fn := fun _ => fun
  | [d1, d2, d3, d4, d5] => { results := [.lit (.bool false)], args := [d1, d2, d3, d4, d5] }
  | _ => none }
def PacketBackWrongFalsely : Prop := packetBackRow.holds Try.pinned (OpenSpec.ofChange packetBackWrong)

/-- 'wayleavelaw11.PacketCuts': WHATEVER THE INPUT: true; the input reads as it did. -/
def packetCutsSpec : ChangeSpec := { name := "packetCuts", fn := fun _ => fun
  | [d1, d2, d3] => { results := [.lit (.bool true)], args := [d1, d2, d3] }
  | _ => none }
def packetCutsRow : OpenClaim := { program := "ytdkaaffghendiaa", sum := "256d68053961de773f1c6473849d30cf74cc59a0bc04a365aa9482a409d90b90", func := "wayleave/wayleavelaw11.PacketCuts", spec := "packetCuts", unfollowed := true, recurses := true, apart := false }
def PacketCutsSaid : Prop := packetCutsRow.holds Try.pinned (OpenSpec.ofChange packetCutsSpec)

/-- ITS FALSE NEIGHBOUR: 'it returns false'. Refute it at one input. -/
def packetCutsWrong : ChangeSpec := { name := "packetCuts", fn := fun _ => fun
  | [d1, d2, d3] => { results := [.lit (.bool false)], args := [d1, d2, d3] }
  | _ => none }
def PacketCutsWrongFalsely : Prop := packetCutsRow.holds Try.pinned (OpenSpec.ofChange packetCutsWrong)

/-- 'wayleavelaw11.PacketKinds': WHATEVER THE INPUT: true; the input reads as it did. -/
def packetKindsSpec : ChangeSpec := { name := "packetKinds", fn := fun _ => fun
  | [d1, d2, d3, d4, d5, d6] => { results := [.lit (.bool true)], args := [d1, d2, d3, d4, d5, d6] }
  | _ => none }
def packetKindsRow : OpenClaim := { program := "ytdkaaffghendiaa", sum := "256d68053961de773f1c6473849d30cf74cc59a0bc04a365aa9482a409d90b90", func := "wayleave/wayleavelaw11.PacketKinds", spec := "packetKinds", unfollowed := true, recurses := true, apart := false }
def PacketKindsSaid : Prop := packetKindsRow.holds Try.pinned (OpenSpec.ofChange packetKindsSpec)

/-- ITS FALSE NEIGHBOUR: 'it returns false'. Refute it at one input. -/
def packetKindsWrong : ChangeSpec := { name := "packetKinds", fn := fun _ => fun
  | [d1, d2, d3, d4, d5, d6] => { results := [.lit (.bool false)], args := [d1, d2, d3, d4, d5, d6] }
  | _ => none }
def PacketKindsWrongFalsely : Prop := packetKindsRow.holds Try.pinned (OpenSpec.ofChange packetKindsWrong)

/-- 'wayleavelaw11.PacketTurns': WHATEVER THE INPUT: true; the input reads as it did. -/
def packetTurnsSpec : ChangeSpec := { name := "packetTurns", fn := fun _ => fun
  | [d1, d2] => { results := [.lit (.bool true)], args := [d1, d2] }
  | _ => none }
def packetTurnsRow : OpenClaim := { program := "ytdkaaffghendiaa", sum := "256d68053961de773f1c6473849d30cf74cc59a0bc04a365aa9482a409d90b90", func := "wayleave/wayleavelaw11.PacketTurns", spec := "packetTurns", unfollowed := true, recurses := true, apart := false }
def PacketTurnsSaid : Prop := packetTurnsRow.holds Try.pinned (OpenSpec.ofChange packetTurnsSpec)

/-- ITS FALSE NEIGHBOUR: 'it returns false'. Refute it at one input. -/
def packetTurnsWrong : ChangeSpec := { name := "packetTurns", fn := fun _ => fun
  | [d1, d2] => { results := [.lit (.bool false)], args := [d1, d2] }
  | _ => none }
def PacketTurnsWrongFalsely : Prop := packetTurnsRow.holds Try.pinned (OpenSpec.ofChange packetTurnsWrong)

/-- 'wayleavelaw11.PacketKeeps': WHATEVER THE INPUT: true; the input reads as it did. -/
def packetKeepsSpec : ChangeSpec := { name := "packetKeeps", fn := fun _ => fun
  | [d1, d2, d3] => { results := [.lit (.bool true)], args := [d1, d2, d3] }
  | _ => none }
def packetKeepsRow : OpenClaim := { program := "ytdkaaffghendiaa", sum := "256d68053961de773f1c6473849d30cf74cc59a0bc04a365aa9482a409d90b90", func := "wayleave/wayleavelaw11.PacketKeeps", spec := "packetKeeps", unfollowed := true, recurses := true, apart := false }
def PacketKeepsSaid : Prop := packetKeepsRow.holds Try.pinned (OpenSpec.ofChange packetKeepsSpec)

/-- ITS FALSE NEIGHBOUR: 'it returns false'. Refute it at one input. -/
def packetKeepsWrong : ChangeSpec := { name := "packetKeeps", fn := fun _ => fun
  | [d1, d2, d3] => { results := [.lit (.bool false)], args := [d1, d2, d3] }
  | _ => none }
def PacketKeepsWrongFalsely : Prop := packetKeepsRow.holds Try.pinned (OpenSpec.ofChange packetKeepsWrong)

/- THE SECOND FORM. 'bulk': how many values and letters a reading holds, each counted each time it is reached (what is shared counts as often as it is met; a slice's spare places count too). A statement '..UptoSaid' is the law's where the arguments, and the package variables that the reading takes, are together of bulk at most 1048576: NARROWER than '..Said'. Prove '..Said' where nothing that the law and all that it calls make is longer than what came in: it says more and counts as full. Else prove '..UptoSaid'. A law counts once. -/
mutual
def uptoBulk {H : Type} : DataW H → Nat
  | .lit (.string bytes) => bytes.length + 1
  | .lit _ => 1
  | .nil => 1
  | .ptr d => uptoBulk d + 1
  | .slice elems spare => uptoBulkAll elems + uptoBulkAll spare + 1
  | .agg parts => uptoBulkAll parts + 1
  | .iface _ d => uptoBulk d + 1
  | .map entries => uptoBulkEntries entries + 1
  | .held _ => 1
def uptoBulkAll {H : Type} : List (DataW H) → Nat
  | [] => 0
  | d :: r => uptoBulk d + uptoBulkAll r
def uptoBulkEntries {H : Type} : List (Lit × DataW H) → Nat
  | [] => 0
  | x :: r => uptoBulkEntry x + uptoBulkEntries r
def uptoBulkEntry {H : Type} : Lit × DataW H → Nat
  | (.string bytes, d) => bytes.length + uptoBulk d + 1
  | (_, d) => uptoBulk d + 1
 end
def uptoSmall : (H : Type) → List (DataW H) → Bool := fun _ ds => decide (uptoBulkAll ds ≤ 1048576)
def OpenSpec.upto (s : _root_.Go.ChangeSpec) : _root_.Go.OpenSpec := { _root_.Go.OpenSpec.ofChange s with cond := some uptoSmall }

/-- 'wayleavelaw11.PacketReads', WHERE WHAT IT READS IS OF BULK AT MOST 1048576: true; the input reads as it did. -/
def packetReadsUptoRow : OpenClaim := { program := "ytdkaaffghendiaa", sum := "256d68053961de773f1c6473849d30cf74cc59a0bc04a365aa9482a409d90b90", func := "wayleave/wayleavelaw11.PacketReads", spec := "packetReads", unfollowed := true, recurses := true, apart := false, narrowed := true }
def PacketReadsUptoSaid : Prop := packetReadsUptoRow.holds Try.pinned (OpenSpec.upto packetReadsSpec)

/-- 'wayleavelaw11.PacketMakes', WHERE WHAT IT READS IS OF BULK AT MOST 1048576: true; the input reads as it did. -/
def packetMakesUptoRow : OpenClaim := { program := "ytdkaaffghendiaa", sum := "256d68053961de773f1c6473849d30cf74cc59a0bc04a365aa9482a409d90b90", func := "wayleave/wayleavelaw11.PacketMakes", spec := "packetMakes", unfollowed := true, recurses := true, apart := false, narrowed := true }
def PacketMakesUptoSaid : Prop := packetMakesUptoRow.holds Try.pinned (OpenSpec.upto packetMakesSpec)

/-- 'wayleavelaw11.PacketBack', WHERE WHAT IT READS IS OF BULK AT MOST 1048576: true; the input reads as it did. -/
def packetBackUptoRow : OpenClaim := { program := "ytdkaaffghendiaa", sum := "256d68053961de773f1c6473849d30cf74cc59a0bc04a365aa9482a409d90b90", func := "wayleave/wayleavelaw11.PacketBack", spec := "packetBack", unfollowed := true, recurses := true, apart := false, narrowed := true }
def PacketBackUptoSaid : Prop := packetBackUptoRow.holds Try.pinned (OpenSpec.upto packetBackSpec)

/-- 'wayleavelaw11.PacketCuts', WHERE WHAT IT READS IS OF BULK AT MOST 1048576: true; the input reads as it did. -/
def packetCutsUptoRow : OpenClaim := { program := "ytdkaaffghendiaa", sum := "256d68053961de773f1c6473849d30cf74cc59a0bc04a365aa9482a409d90b90", func := "wayleave/wayleavelaw11.PacketCuts", spec := "packetCuts", unfollowed := true, recurses := true, apart := false, narrowed := true }
def PacketCutsUptoSaid : Prop := packetCutsUptoRow.holds Try.pinned (OpenSpec.upto packetCutsSpec)

/-- 'wayleavelaw11.PacketKinds', WHERE WHAT IT READS IS OF BULK AT MOST 1048576: true; the input reads as it did. -/
def packetKindsUptoRow : OpenClaim := { program := "ytdkaaffghendiaa", sum := "256d68053961de773f1c6473849d30cf74cc59a0bc04a365aa9482a409d90b90", func := "wayleave/wayleavelaw11.PacketKinds", spec := "packetKinds", unfollowed := true, recurses := true, apart := false, narrowed := true }
def PacketKindsUptoSaid : Prop := packetKindsUptoRow.holds Try.pinned (OpenSpec.upto packetKindsSpec)

/-- 'wayleavelaw11.PacketTurns', WHERE WHAT IT READS IS OF BULK AT MOST 1048576: true; the input reads as it did. -/
def packetTurnsUptoRow : OpenClaim := { program := "ytdkaaffghendiaa", sum := "256d68053961de773f1c6473849d30cf74cc59a0bc04a365aa9482a409d90b90", func := "wayleave/wayleavelaw11.PacketTurns", spec := "packetTurns", unfollowed := true, recurses := true, apart := false, narrowed := true }
def PacketTurnsUptoSaid : Prop := packetTurnsUptoRow.holds Try.pinned (OpenSpec.upto packetTurnsSpec)

/-- 'wayleavelaw11.PacketKeeps', WHERE WHAT IT READS IS OF BULK AT MOST 1048576: true; the input reads as it did. -/
def packetKeepsUptoRow : OpenClaim := { program := "ytdkaaffghendiaa", sum := "256d68053961de773f1c6473849d30cf74cc59a0bc04a365aa9482a409d90b90", func := "wayleave/wayleavelaw11.PacketKeeps", spec := "packetKeeps", unfollowed := true, recurses := true, apart := false, narrowed := true }
def PacketKeepsUptoSaid : Prop := packetKeepsUptoRow.holds Try.pinned (OpenSpec.upto packetKeepsSpec)

end Rows
end Go.Proofs.Ytdkaaffghendiaa
