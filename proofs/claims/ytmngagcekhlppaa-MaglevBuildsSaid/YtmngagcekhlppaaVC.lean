/-
  What stage 17's laws ask of the program: the contracts of maglev's functions, as one premise.
-/
import Derived.Test.YtmngagcekhlppaaVRBuild
import Derived.Test.YtmngagcekhlppaaVPick
namespace Go.Proofs.Ytmngagcekhlppaa
set_option maxRecDepth 100000
open Go.RowKit Go.Lib

/-- How many slots each name has. -/
def cntZ (n : Nat) (xs : List Int) : List Int := (List.range n).map fun j => ((cntN xs j : Nat) : Int)
theorem cntZ_len (n : Nat) (xs : List Int) : (cntZ n xs).length = n := by simp [cntZ]
theorem cntZ_get (n : Nat) (xs : List Int) {j : Nat} (h : j < n) : (cntZ n xs)[j]? = some ((cntN xs j : Nat) : Int) := by simp [cntZ, h]
structure MagC : Prop where
  build : ∀ (key : List UInt8) (_ : key.length = 16) (p : Nat) (_ : SizeN p) (A : Option Addr) (n c : Nat) (xs : List Shr) (_ : MayS xs) (_ : n ≤ 30) (_ : ∀ x, x ∈ xs → x.nm.length ≤ 60) (_ : n ≤ c) (_ : c ≤ maxLen) (w : World) (B : Nat) (_ : B ≤ w.heap.size) (_ : RdG eS w B A n xs),
    Calls Try.prog 12 #[keyC key, .int .i64 (p : Int), .slice A n c] w fun e W' => ∃ nv sv, e = .returned (.tuple #[tblV nv sv, .int .i64 0]) ∧ OwnG eN W' w.heap.size nv ((riseL xs).map Shr.nm) ∧ OwnG eZ W' w.heap.size sv (slotL key p (riseL xs)) ∧ Below w.heap.size w W'
  none_ : ∀ (key : List UInt8) (_ : key.length = 16) (z : Int) (_ : -9223372036854775808 ≤ z) (_ : z ≤ 9223372036854775807) (A : Option Addr) (n c : Nat) (xs : List Shr) (_ : n ≤ 30) (_ : ∀ x, x ∈ xs → x.nm.length ≤ 60) (_ : ∀ x, x ∈ xs → -9223372036854775808 ≤ x.q ∧ x.q ≤ 9223372036854775807) (_ : n ≤ c) (_ : c ≤ maxLen) (_ : ¬ (0 ≤ z ∧ SizeN z.toNat) ∨ ¬ MayS xs) (w : World) (B : Nat) (_ : B ≤ w.heap.size) (_ : RdG eS w B A n xs),
    Calls Try.prog 12 #[keyC key, .int .i64 z, .slice A n c] w fun e W' => e = .returned (.tuple #[tblV (.slice none 0 0) (.slice none 0 0), .int .i64 1]) ∧ Below w.heap.size w W'
  pick : ∀ (A A' : Option Addr) (n c m c' : Nat) (nm : List (List UInt8)) (xs : List Int) (_ : n ≤ 1024) (_ : m ≤ 65537) (_ : n ≤ c) (_ : c ≤ maxLen) (_ : m ≤ c') (_ : c' ≤ maxLen) (_ : ∀ x, x ∈ xs → 0 ≤ x ∧ x < n) (v : Nat) (_ : v < 18446744073709551616) (w : World) (B B' : Nat) (_ : B ≤ w.heap.size) (_ : B' ≤ w.heap.size) (_ : RdG eN w B A n nm) (_ : RdG eZ w B' A' m xs),
    Calls Try.prog 17 #[tblV (.slice A n c) (.slice A' m c'), .int .u64 (v : Int)] w fun e w' => e = .returned (.tuple #[strV (pickS nm xs v), .bool (decide (0 < m))]) ∧ Below w.heap.size w w'
  count : ∀ (A A' : Option Addr) (n c m c' : Nat) (nm : List (List UInt8)) (xs : List Int) (_ : n ≤ 1024) (_ : m ≤ 65537) (_ : n ≤ c) (_ : c ≤ maxLen) (_ : m ≤ c') (_ : c' ≤ maxLen) (_ : ∀ x, x ∈ xs → 0 ≤ x ∧ x < n) (w : World) (B B' : Nat) (_ : B ≤ w.heap.size) (_ : B' ≤ w.heap.size) (_ : RdG eN w B A n nm) (_ : RdG eZ w B' A' m xs),
    Calls Try.prog 22 #[tblV (.slice A n c) (.slice A' m c')] w fun e W' => ∃ v, e = .returned v ∧ OwnG eZ W' w.heap.size v (cntZ n xs) ∧ Below w.heap.size w W'
end Go.Proofs.Ytmngagcekhlppaa
