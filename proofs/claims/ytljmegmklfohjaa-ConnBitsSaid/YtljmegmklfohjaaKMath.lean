/-
  Plain mathematics of stage 11: tuples, packets, how a frame is read. No program is walked here.
-/
import Derived.Test.YtljmegmklfohjaaQ7
import Derived.Test.YtljmegmklfohjaaQ8
import Derived.Test.YtljmegmklfohjaaQ9
import Derived.Test.YtljmegmklfohjaaQ10
namespace Go.Proofs.Ytljmegmklfohjaa
open Go.RowKit Go.Lib
/-- A tuple. -/
structure Tu where
  s : Ad
  d : Ad
  pr : Int
  sp : Int
  dp : Int
structure Tu.Ok (t : Tu) : Prop where
  s : t.s.b.length = 16
  d : t.d.b.length = 16
def Tu.zero : Tu := ⟨Ad.zero, Ad.zero, 0, 0, 0⟩
/-- A packet. -/
structure Pk where
  kind : Int
  t : Tu
  fl : Int
  net : Int
  sg : Int
  en : Int
def kindK (k : Int) : Pk := ⟨k, Tu.zero, 0, 0, 0, 0⟩
/-- What an IP header tells, of both families. -/
structure Nt where
  e : Nat
  head : Nat
  total : Nat
  frag : Bool
  proto : Nat
  s : Ad
  d : Ad
/-- What is told of a header without a fault. -/
structure Nt.Fits (n : Nt) (len : Nat) : Prop where
  s : n.s.b.length = 16
  d : n.d.b.length = 16
  h1 : n.head ≤ n.total
  h2 : n.total ≤ len
/-- The segment that an IP packet carries. -/
def segN (rest : List UInt8) (n : Nt) : List UInt8 := (rest.drop n.head).take (n.total - n.head)
/-- The packet, from its IP header on. -/
def behind (at_ : Nat) (rest : List UInt8) (n : Nt) : Pk :=
  if n.e ≠ 0 then kindK 3 else if n.frag = true then kindK 4 else if n.proto ≠ 6 ∧ n.proto ≠ 17 then kindK 5
  else if faultP (n.proto : Nat) (segN rest n) ≠ 0 then kindK 6
  else ⟨0, ⟨n.s, n.d, (n.proto : Nat), ((rdP (n.proto : Nat) (segN rest n)).s : Nat), ((rdP (n.proto : Nat) (segN rest n)).d : Nat)⟩, ((rdP (n.proto : Nat) (segN rest n)).f : Nat), (at_ : Nat), ((at_ + n.head : Nat) : Int), ((at_ + n.total : Nat) : Int)⟩
section
variable {at_ : Nat} {rest : List UInt8} {n : Nt}
end
end Go.Proofs.Ytljmegmklfohjaa
