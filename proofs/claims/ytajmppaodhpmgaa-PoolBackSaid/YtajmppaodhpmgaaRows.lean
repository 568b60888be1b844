/-
  No cell of these rows narrows 'for every input' (looked for: loops, veiled, ifaces, maps, wideKeys, modest, calm, conditions, laid).
  DERIVED. THE GIVEN ROWS OF THIS SEAT. 7 by the template 'for every input the law returns true; each argument reads behind the call as it read before'; 0 by the template 'total and deterministic' (their statements: YtajmppaodhpmgaaTotals.lean).
  GIVEN WITH THE SEED: the statements are not yours to turn. If you find one false, say at which input.
  Laid BY PROGRAM, IN A SANDBOX (cutbox-rows.mjs): the forced cells as the released guide's own fill.sh prints them over the translation 79c02be40a66b8bc… (all of the seat's roots in one cut). By AI agents, Wed Nov 11 2026. No macro, syntax, notation, axiom, sorry.
-/
import Derived.Test.YtajmppaodhpmgaaChecked
import GoSem.Claim
import GoSem.ClaimJoined
import GoSem.ClaimMapViews
import Derived.JoinedTies
import Derived.KernelRfl
namespace Go.Proofs.Ytajmppaodhpmgaa
/- THE CELL 'sum', in the pinned program and in every row, IS THE sha256 OF THE DUMP (.gsa) THAT YtajmppaodhpmgaaProg.lean LOADS. Nothing in Lean hashes anything: it is a label: what it is worth is what the hold of that sum in a sandbox is worth. -/
noncomputable def Try.pinned : Pinned := { name := "ytajmppaodhpmgaa", sum := "79c02be40a66b8bc3792d0dae2c56ab1ed7bc6deb3831ed77e0f013051605258", checked := Try.checked }
namespace Rows
def none {H : Type} : Left H := { results := [], args := [] }

/-- 'wayleavelaw18.PoolRights': WHATEVER THE INPUT: true; the input reads as it did. -/
def poolRightsSpec : ChangeSpec := { name := "poolRights", fn := fun _ => fun
  | [d1, d2, d3] => { results := [.lit (.bool true)], args := [d1, d2, d3] }
  | _ => none }
def poolRightsRow : OpenClaim := { program := "ytajmppaodhpmgaa", sum := "79c02be40a66b8bc3792d0dae2c56ab1ed7bc6deb3831ed77e0f013051605258", func := "wayleave/wayleavelaw18.PoolRights", spec := "poolRights", inPlace := ["math.Float64bits", "internal/bytealg.abigen_runtime_cmpstring", "slices.overlaps[wayleave/api.Backend]", "math.Float64frombits"], unfollowed := true, recurses := true, apart := false }
def PoolRightsSaid : Prop := poolRightsRow.holds Try.pinned (OpenSpec.ofChange poolRightsSpec)

/-- ITS FALSE NEIGHBOUR: 'it returns false'. Refute it at one input. -/
def poolRightsWrong : ChangeSpec := { name := "poolRights", fn := fun _ => fun
  | [d1, d2, d3] => { results := [.lit (.bool false)], args := [d1, d2, d3] }
  | _ => none }
def PoolRightsWrongFalsely : Prop := poolRightsRow.holds Try.pinned (OpenSpec.ofChange poolRightsWrong)

/-- 'wayleavelaw18.PoolDoes': WHATEVER THE INPUT: true; the input reads as it did. -/
def poolDoesSpec : ChangeSpec := { name := "poolDoes", fn := fun _ => fun
  | [d1, d2] => { results := [.lit (.bool true)], args := [d1, d2] }
  | _ => none }
def poolDoesRow : OpenClaim := { program := "ytajmppaodhpmgaa", sum := "79c02be40a66b8bc3792d0dae2c56ab1ed7bc6deb3831ed77e0f013051605258", func := "wayleave/wayleavelaw18.PoolDoes", spec := "poolDoes", inPlace := ["math.Float64bits", "internal/bytealg.abigen_runtime_cmpstring", "slices.overlaps[wayleave/api.Backend]", "math.Float64frombits"], unfollowed := true, recurses := true, apart := false }
def PoolDoesSaid : Prop := poolDoesRow.holds Try.pinned (OpenSpec.ofChange poolDoesSpec)

/-- ITS FALSE NEIGHBOUR: 'it returns false'. Refute it at one input. -/
def poolDoesWrong : ChangeSpec := { name := "poolDoes", fn := fun _ => fun
  | [d1, d2] => { results := [.lit (.bool false)], args := [d1, d2] }
  | _ => none }
def PoolDoesWrongFalsely : Prop := poolDoesRow.holds Try.pinned (OpenSpec.ofChange poolDoesWrong)

/-- 'wayleavelaw18.PoolPlays': WHATEVER THE INPUT: true; the input reads as it did. -/
def poolPlaysSpec : ChangeSpec := { name := "poolPlays", fn := fun _ => fun
  | [d] => { results := [.lit (.bool true)], args := [d] }
  | _ => none }
def poolPlaysRow : OpenClaim := { program := "ytajmppaodhpmgaa", sum := "79c02be40a66b8bc3792d0dae2c56ab1ed7bc6deb3831ed77e0f013051605258", func := "wayleave/wayleavelaw18.PoolPlays", spec := "poolPlays", inPlace := ["math.Float64bits", "internal/bytealg.abigen_runtime_cmpstring", "slices.overlaps[wayleave/api.Backend]", "math.Float64frombits"], unfollowed := true, recurses := true, apart := false }
def PoolPlaysSaid : Prop := poolPlaysRow.holds Try.pinned (OpenSpec.ofChange poolPlaysSpec)

/-- ITS FALSE NEIGHBOUR: 'it returns false'. Refute it at one input. -/
def poolPlaysWrong : ChangeSpec := { name := "poolPlays", fn := fun _ => fun
  | [d] => { results := [.lit (.bool false)], args := [d] }
  | _ => none }
def PoolPlaysWrongFalsely : Prop := poolPlaysRow.holds Try.pinned (OpenSpec.ofChange poolPlaysWrong)

/-- 'wayleavelaw18.PoolOthers': WHATEVER THE INPUT: true; the input reads as it did. -/
def poolOthersSpec : ChangeSpec := { name := "poolOthers", fn := fun _ => fun
  | [d1, d2] => { results := [.lit (.bool true)], args := [d1, d2] }
  | _ => none }
def poolOthersRow : OpenClaim := { program := "ytajmppaodhpmgaa", sum := "79c02be40a66b8bc3792d0dae2c56ab1ed7bc6deb3831ed77e0f013051605258", func := "wayleave/wayleavelaw18.PoolOthers", spec := "poolOthers", inPlace := ["math.Float64bits", "internal/bytealg.abigen_runtime_cmpstring", "slices.overlaps[wayleave/api.Backend]", "math.Float64frombits"], unfollowed := true, recurses := true, apart := false }
def PoolOthersSaid : Prop := poolOthersRow.holds Try.pinned (OpenSpec.ofChange poolOthersSpec)

/-- ITS FALSE NEIGHBOUR: 'it returns false'. Refute it at one input. -/
def poolOthersWrong : ChangeSpec := { name := "poolOthers", fn := fun _ => fun
  | [d1, d2] => { results := [.lit (.bool false)], args := [d1, d2] }
  | _ => none }
def PoolOthersWrongFalsely : Prop := poolOthersRow.holds Try.pinned (OpenSpec.ofChange poolOthersWrong)

/-- 'wayleavelaw18.PoolShares': WHATEVER THE INPUT: true; the input reads as it did. -/
def poolSharesSpec : ChangeSpec := { name := "poolShares", fn := fun _ => fun
  | [d1, d2] => { results := [.lit (.bool true)], args := [d1, d2] }
  | _ => none }
def poolSharesRow : OpenClaim := { program := "ytajmppaodhpmgaa", sum := "79c02be40a66b8bc3792d0dae2c56ab1ed7bc6deb3831ed77e0f013051605258", func := "wayleave/wayleavelaw18.PoolShares", spec := "poolShares", inPlace := ["math.Float64bits", "internal/bytealg.abigen_runtime_cmpstring", "slices.overlaps[wayleave/api.Backend]", "math.Float64frombits"], unfollowed := true, recurses := true, apart := false }
def PoolSharesSaid : Prop := poolSharesRow.holds Try.pinned (OpenSpec.ofChange poolSharesSpec)

/-- ITS FALSE NEIGHBOUR: 'it returns false'. Refute it at one input. -/
def poolSharesWrong : ChangeSpec := { name := "poolShares", fn := fun _ => fun
  | [d1, d2] => { results := [.lit (.bool false)], args := [d1, d2] }
  | _ => none }
def PoolSharesWrongFalsely : Prop := poolSharesRow.holds Try.pinned (OpenSpec.ofChange poolSharesWrong)

/-- 'wayleavelaw18.PoolBack': WHATEVER THE INPUT: true; the input reads as it did. -/
def poolBackSpec : ChangeSpec := { name := "poolBack", fn := fun _ => fun
  | [d1, d2, d3] => { results := [.lit (.bool true)], args := [d1, d2, d3] }
  | _ => none }
def poolBackRow : OpenClaim := { program := "ytajmppaodhpmgaa", sum := "79c02be40a66b8bc3792d0dae2c56ab1ed7bc6deb3831ed77e0f013051605258", func := "wayleave/wayleavelaw18.PoolBack", spec := "poolBack", inPlace := ["math.Float64bits", "internal/bytealg.abigen_runtime_cmpstring", "slices.overlaps[wayleave/api.Backend]", "math.Float64frombits"], unfollowed := true, recurses := true, apart := false }
def PoolBackSaid : Prop := poolBackRow.holds Try.pinned (OpenSpec.ofChange poolBackSpec)

/-- ITS FALSE NEIGHBOUR: 'it returns false'. Refute it at one input. -/
def poolBackWrong : ChangeSpec := { name := "poolBack", fn := fun _ => fun
  | [d1, d2, d3] => { results := [.lit (.bool false)], args := [d1, d2, d3] }
  | _ => none }
def PoolBackWrongFalsely : Prop := poolBackRow.holds Try.pinned (OpenSpec.ofChange poolBackWrong)

/-- 'wayleavelaw18.PoolKeeps': WHATEVER THE INPUT: true; the input reads as it did. -/
def poolKeepsSpec : ChangeSpec := { name := "poolKeeps", fn := fun _ => fun
  | [d1, d2] => { results := [.lit (.bool true)], args := [d1, d2] }
  | _ => none }
def poolKeepsRow : OpenClaim := { program := "ytajmppaodhpmgaa", sum := "79c02be40a66b8bc3792d0dae2c56ab1ed7bc6deb3831ed77e0f013051605258", func := "wayleave/wayleavelaw18.PoolKeeps", spec := "poolKeeps", inPlace := ["math.Float64bits", "internal/bytealg.abigen_runtime_cmpstring", "slices.overlaps[wayleave/api.Backend]", "math.Float64frombits"], unfollowed := true, recurses := true, apart := false }
def PoolKeepsSaid : Prop := poolKeepsRow.holds Try.pinned (OpenSpec.ofChange poolKeepsSpec)

/-- ITS FALSE NEIGHBOUR: 'it returns false'. Refute it at one input. -/
def poolKeepsWrong : ChangeSpec := { name := "poolKeeps", fn := fun _ => fun
  | [d1, d2] => { results := [.lit (.bool false)], args := [d1, d2] }
  | _ => none }
def PoolKeepsWrongFalsely : Prop := poolKeepsRow.holds Try.pinned (OpenSpec.ofChange poolKeepsWrong)

/- THE SECOND FORM. 'bulk': how many values and letters a reading holds, each counted each time it is reached (what is shared counts as often as it is met; a slice's spare places count too). A statement '..UptoSaid' is the law's where the arguments, and the package variables that the reading takes, are together of bulk at most 1048576: NARROWER than '..Said'. Prove '..Said' where nothing that the law and all that it calls make is longer than what came in: it says more and counts as full. Else prove '..UptoSaid'. A law counts once. -/
mutual
def uptoBulk {H : Type} : DataW H → Nat
  | .lit (.string bytes) => bytes.length + 1
  | .lit _ => 1
  | .nil => 1
  | .ptr d => uptoBulk d + 1
  | .slice elems spare => uptoBulkAll elems + uptoBulkAll spare + 1
  | .agg parts => uptoBulkAll parts + 1
  | .iface _ d => uptoBulk d + 1
  | .map entries => uptoBulkEntries entries + 1
  | .held _ => 1
def uptoBulkAll {H : Type} : List (DataW H) → Nat
  | [] => 0
  | d :: r => uptoBulk d + uptoBulkAll r
def uptoBulkEntries {H : Type} : List (Lit × DataW H) → Nat
  | [] => 0
  | x :: r => uptoBulkEntry x + uptoBulkEntries r
def uptoBulkEntry {H : Type} : Lit × DataW H → Nat
  | (.string bytes, d) => bytes.length + uptoBulk d + 1
  | (_, d) => uptoBulk d + 1
 end
def uptoSmall : (H : Type) → List (DataW H) → Bool := fun _ ds => decide (uptoBulkAll ds ≤ 1048576)
def OpenSpec.upto (s : _root_.Go.ChangeSpec) : _root_.Go.OpenSpec := { _root_.Go.OpenSpec.ofChange s with cond := some uptoSmall }

/-- 'wayleavelaw18.PoolRights', WHERE WHAT IT READS IS OF BULK AT MOST 1048576: true; the input reads as it did. -/
def poolRightsUptoRow : OpenClaim := { program := "ytajmppaodhpmgaa", sum := "79c02be40a66b8bc3792d0dae2c56ab1ed7bc6deb3831ed77e0f013051605258", func := "wayleave/wayleavelaw18.PoolRights", spec := "poolRights", inPlace := ["math.Float64bits", "internal/bytealg.abigen_runtime_cmpstring", "slices.overlaps[wayleave/api.Backend]", "math.Float64frombits"], unfollowed := true, recurses := true, apart := false, narrowed := true }
def PoolRightsUptoSaid : Prop := poolRightsUptoRow.holds Try.pinned (OpenSpec.upto poolRightsSpec)

/-- 'wayleavelaw18.PoolDoes', WHERE WHAT IT READS IS OF BULK AT MOST 1048576: true; the input reads as it did. -/
def poolDoesUptoRow : OpenClaim := { program := "ytajmppaodhpmgaa", sum := "79c02be40a66b8bc3792d0dae2c56ab1ed7bc6deb3831ed77e0f013051605258", func := "wayleave/wayleavelaw18.PoolDoes", spec := "poolDoes", inPlace := ["math.Float64bits", "internal/bytealg.abigen_runtime_cmpstring", "slices.overlaps[wayleave/api.Backend]", "math.Float64frombits"], unfollowed := true, recurses := true, apart := false, narrowed := true }
def PoolDoesUptoSaid : Prop := poolDoesUptoRow.holds Try.pinned (OpenSpec.upto poolDoesSpec)

/-- 'wayleavelaw18.PoolPlays', WHERE WHAT IT READS IS OF BULK AT MOST 1048576: true; the input reads as it did. -/
def poolPlaysUptoRow : OpenClaim := { program := "ytajmppaodhpmgaa", sum := "79c02be40a66b8bc3792d0dae2c56ab1ed7bc6deb3831ed77e0f013051605258", func := "wayleave/wayleavelaw18.PoolPlays", spec := "poolPlays", inPlace := ["math.Float64bits", "internal/bytealg.abigen_runtime_cmpstring", "slices.overlaps[wayleave/api.Backend]", "math.Float64frombits"], unfollowed := true, recurses := true, apart := false, narrowed := true }
def PoolPlaysUptoSaid : Prop := poolPlaysUptoRow.holds Try.pinned (OpenSpec.upto poolPlaysSpec)

/-- 'wayleavelaw18.PoolOthers', WHERE WHAT IT READS IS OF BULK AT MOST 1048576: true; the input reads as it did. -/
def poolOthersUptoRow : OpenClaim := { program := "ytajmppaodhpmgaa", sum := "79c02be40a66b8bc3792d0dae2c56ab1ed7bc6deb3831ed77e0f013051605258", func := "wayleave/wayleavelaw18.PoolOthers", spec := "poolOthers", inPlace := ["math.Float64bits", "internal/bytealg.abigen_runtime_cmpstring", "slices.overlaps[wayleave/api.Backend]", "math.Float64frombits"], unfollowed := true, recurses := true, apart := false, narrowed := true }
def PoolOthersUptoSaid : Prop := poolOthersUptoRow.holds Try.pinned (OpenSpec.upto poolOthersSpec)

/-- 'wayleavelaw18.PoolShares', WHERE WHAT IT READS IS OF BULK AT MOST 1048576: true; the input reads as it did. -/
def poolSharesUptoRow : OpenClaim := { program := "ytajmppaodhpmgaa", sum := "79c02be40a66b8bc3792d0dae2c56ab1ed7bc6deb3831ed77e0f013051605258", func := "wayleave/wayleavelaw18.PoolShares", spec := "poolShares", inPlace := ["math.Float64bits", "internal/bytealg.abigen_runtime_cmpstring", "slices.overlaps[wayleave/api.Backend]", "math.Float64frombits"], unfollowed := true, recurses := true, apart := false, narrowed := true }
def PoolSharesUptoSaid : Prop := poolSharesUptoRow.holds Try.pinned (OpenSpec.upto poolSharesSpec)

/-- 'wayleavelaw18.PoolBack', WHERE WHAT IT READS IS OF BULK AT MOST 1048576: true; the input reads as it did. -/
def poolBackUptoRow : OpenClaim := { program := "ytajmppaodhpmgaa", sum := "79c02be40a66b8bc3792d0dae2c56ab1ed7bc6deb3831ed77e0f013051605258", func := "wayleave/wayleavelaw18.PoolBack", spec := "poolBack", inPlace := ["math.Float64bits", "internal/bytealg.abigen_runtime_cmpstring", "slices.overlaps[wayleave/api.Backend]", "math.Float64frombits"], unfollowed := true, recurses := true, apart := false, narrowed := true }
def PoolBackUptoSaid : Prop := poolBackUptoRow.holds Try.pinned (OpenSpec.upto poolBackSpec)

/-- 'wayleavelaw18.PoolKeeps', WHERE WHAT IT READS IS OF BULK AT MOST 1048576: true; the input reads as it did. -/
def poolKeepsUptoRow : OpenClaim := { program := "ytajmppaodhpmgaa", sum := "79c02be40a66b8bc3792d0dae2c56ab1ed7bc6deb3831ed77e0f013051605258", func := "wayleave/wayleavelaw18.PoolKeeps", spec := "poolKeeps", inPlace := ["math.Float64bits", "internal/bytealg.abigen_runtime_cmpstring", "slices.overlaps[wayleave/api.Backend]", "math.Float64frombits"], unfollowed := true, recurses := true, apart := false, narrowed := true }
def PoolKeepsUptoSaid : Prop := poolKeepsUptoRow.holds Try.pinned (OpenSpec.upto poolKeepsSpec)

end Rows
end Go.Proofs.Ytajmppaodhpmgaa
