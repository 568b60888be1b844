/-
  What the laws ask of the program: the contracts of sip.Of, Bytes and Hash, as one premise.
-/
import Derived.Test.YthfeamkomhiemaaHRBy
import Derived.Test.YthfeamkomhiemaaKOpen
import Derived.Test.YthfeamkomhiemaaKForm
import Derived.Test.YthfeamkomhiemaaTK
namespace Go.Proofs.Ythfeamkomhiemaa
set_option maxRecDepth 100000
open Go.RowKit Go.Lib

/-- The contracts of sip. -/
structure SipC : Prop where
  of : ∀ (key : List UInt8) (_ : key.length = 16) (A : Option Addr) (n cap : Nat) (l : List (List UInt8)) (_ : n ≤ 100) (_ : l.flatten.length ≤ 100000) (w : World) (B : Nat) (_ : LsAt w B A n l) (_ : B ≤ w.heap.size),
    Calls Try.prog 9 #[keyC key, .slice A n cap] w fun e w' => e = .returned (.int .u64 (hashW key l.flatten : Nat)) ∧ Below w.heap.size w w'
  bytes : ∀ (t : Tu) (_ : t.Ok) (_ : t.Fit) (w : World), Calls Try.prog 12 #[tuC t] w fun e W' => ∃ v, e = .returned v ∧ Own8 W' w.heap.size v (tuB t) ∧ Below w.heap.size w W'
  hash : ∀ (key : List UInt8) (_ : key.length = 16) (t : Tu) (_ : t.Ok) (_ : t.Fit) (w : World), Calls Try.prog 15 #[keyC key, tuC t] w fun e w' => e = .returned (.int .u64 (hashW key (tuB t) : Nat)) ∧ Below w.heap.size w w'
def KB : List UInt8 := [0, 1, 2, 3, 4, 5, 6, 7, 8, 9, 10, 11, 12, 13, 14, 15]
def DB : List UInt8 := [0, 1, 2, 3, 4, 5, 6, 7, 8, 9, 10, 11, 12, 13, 14]
theorem hash_kb : hashW KB DB = 11613035633349379557 := by kernel_rfl
end Go.Proofs.Ythfeamkomhiemaa
