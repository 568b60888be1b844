/-
  What stage 16's laws ask of the program: the contracts of perm's functions, as one premise.
-/
import Derived.Test.YtagfhephbjinmaaJRef3
namespace Go.Proofs.Ytagfhephbjinmaa
set_option maxRecDepth 100000
open Go.RowKit Go.Lib

structure PermC : Prop where
  prime : ∀ (z : Int) (_ : -4294967296 ≤ z) (_ : z ≤ 4294967296) (w : World), Calls Try.prog 10 #[.int .i64 z] w fun e w' => e = .returned (.bool (primeB z.toNat)) ∧ Below w.heap.size w w'
  next : ∀ (z : Int) (_ : -4294967296 ≤ z) (_ : z ≤ 4294967296) (w : World), Calls Try.prog 12 #[.int .i64 z] w fun e w' => e = .returned (.int .i64 (nextN z : Nat)) ∧ Below w.heap.size w w'
  of : ∀ (key : List UInt8) (_ : key.length = 16) (s : ByteArray) (_ : s.size ≤ 1000) (p : Nat) (_ : SizeN p) (w : World),
    Calls Try.prog 14 #[keyC key, .string s, .int .i64 (p : Int)] w fun e w' => e = .returned (.tuple #[.int .i64 (offN key s.data.toList p : Nat), .int .i64 (skN key s.data.toList p : Nat)]) ∧ Below w.heap.size w w'
  choice : ∀ (a b p i : Nat) (_ : SizeN p) (_ : a < p) (_ : 1 ≤ b) (_ : b < p) (_ : i ≤ 2147483648) (w : World),
    Calls Try.prog 19 #[.int .i64 (a : Int), .int .i64 (b : Int), .int .i64 (p : Int), .int .i64 (i : Int)] w fun e w' => e = .returned (.int .i64 (chN a b p i : Nat)) ∧ Below w.heap.size w w'
  all : ∀ (key : List UInt8) (_ : key.length = 16) (s : ByteArray) (_ : s.size ≤ 1000) (p : Nat) (_ : SizeN p) (w : World),
    Calls Try.prog 17 #[keyC key, .string s, .int .i64 (p : Int)] w fun e W' => ∃ v, e = .returned v ∧ OwnG eZ W' w.heap.size v (allZ (offN key s.data.toList p) (skN key s.data.toList p) p) ∧ Below w.heap.size w W'
end Go.Proofs.Ytagfhephbjinmaa
