/-
  Words turned: the document's turn, and bits.RotateLeft64, at each of the five numbers of places; rounds of the document.
-/
import Derived.Test.YtmngagcekhlppaaHMath
import Derived.Test.YtmngagcekhlppaaGSl
import Derived.Laws.BitsAllLaws
import Derived.Laws.ResultCell
namespace Go.Proofs.Ytmngagcekhlppaa
set_option maxRecDepth 100000
open Go.RowKit Go.Lib
theorem wrap64_nat (n : Nat) : IntKind.u64.wrap (n : Int) = ((n % 18446744073709551616 : Nat) : Int) := by
  show (n : Int) % 18446744073709551616 = _
  omega
theorem or64_rot {n a b : Nat} (hn : n < 18446744073709551616) (k : Nat) (ha : 2 ^ k = a) (hb : 2 ^ (64 - k) = b) : bits .or .u64 (IntKind.u64.wrap ((n : Int) * (a : Int))) ((n : Int) / (b : Int)) = ((rotW n k : Nat) : Int) := by
  subst ha hb
  have h1 : (n : Int) * ((2 ^ k : Nat) : Int) = ((n * 2 ^ k : Nat) : Int) := by rw [Int.natCast_mul]
  have h2 : (n : Int) / ((2 ^ (64 - k) : Nat) : Int) = ((n / 2 ^ (64 - k) : Nat) : Int) := by rw [Int.natCast_ediv]
  rw [h1, h2, wrap64_nat, u64_or_nat _ _ (Nat.mod_lt _ (by decide)) (Nat.lt_of_le_of_lt (Nat.div_le_self _ _) hn)]
  rfl
theorem rot_13 {n : Nat} (hn : n < 18446744073709551616) : bits .or .u64 (IntKind.u64.wrap ((n : Int) * 8192)) ((n : Int) / 2251799813685248) = ((rotW n 13 : Nat) : Int) := or64_rot hn 13 rfl rfl
set_option maxHeartbeats 1000000 in
theorem rturn_13 (n : Nat) (hn : n < 18446744073709551616) (w : World) : Calls Try.prog 55 #[.int .u64 (n : Int), .int .i64 13] w fun e w' => e = .returned (.int .u64 (rotW n 13 : Nat)) ∧ w = w' := by
  have H := Lib.hid (rot_13 hn)
  clear hn
  go_enter Try.func55, Try.ntmps55
  go_wp2_with fail
  go_ret
  rw [H.out]
  exact ⟨rfl, rfl⟩
theorem rot_16 {n : Nat} (hn : n < 18446744073709551616) : bits .or .u64 (IntKind.u64.wrap ((n : Int) * 65536)) ((n : Int) / 281474976710656) = ((rotW n 16 : Nat) : Int) := or64_rot hn 16 rfl rfl
set_option maxHeartbeats 1000000 in
theorem rturn_16 (n : Nat) (hn : n < 18446744073709551616) (w : World) : Calls Try.prog 55 #[.int .u64 (n : Int), .int .i64 16] w fun e w' => e = .returned (.int .u64 (rotW n 16 : Nat)) ∧ w = w' := by
  have H := Lib.hid (rot_16 hn)
  clear hn
  go_enter Try.func55, Try.ntmps55
  go_wp2_with fail
  go_ret
  rw [H.out]
  exact ⟨rfl, rfl⟩
theorem rot_17 {n : Nat} (hn : n < 18446744073709551616) : bits .or .u64 (IntKind.u64.wrap ((n : Int) * 131072)) ((n : Int) / 140737488355328) = ((rotW n 17 : Nat) : Int) := or64_rot hn 17 rfl rfl
set_option maxHeartbeats 1000000 in
theorem rturn_17 (n : Nat) (hn : n < 18446744073709551616) (w : World) : Calls Try.prog 55 #[.int .u64 (n : Int), .int .i64 17] w fun e w' => e = .returned (.int .u64 (rotW n 17 : Nat)) ∧ w = w' := by
  have H := Lib.hid (rot_17 hn)
  clear hn
  go_enter Try.func55, Try.ntmps55
  go_wp2_with fail
  go_ret
  rw [H.out]
  exact ⟨rfl, rfl⟩
theorem rot_21 {n : Nat} (hn : n < 18446744073709551616) : bits .or .u64 (IntKind.u64.wrap ((n : Int) * 2097152)) ((n : Int) / 8796093022208) = ((rotW n 21 : Nat) : Int) := or64_rot hn 21 rfl rfl
set_option maxHeartbeats 1000000 in
theorem rturn_21 (n : Nat) (hn : n < 18446744073709551616) (w : World) : Calls Try.prog 55 #[.int .u64 (n : Int), .int .i64 21] w fun e w' => e = .returned (.int .u64 (rotW n 21 : Nat)) ∧ w = w' := by
  have H := Lib.hid (rot_21 hn)
  clear hn
  go_enter Try.func55, Try.ntmps55
  go_wp2_with fail
  go_ret
  rw [H.out]
  exact ⟨rfl, rfl⟩
theorem rot_32 {n : Nat} (hn : n < 18446744073709551616) : bits .or .u64 (IntKind.u64.wrap ((n : Int) * 4294967296)) ((n : Int) / 4294967296) = ((rotW n 32 : Nat) : Int) := or64_rot hn 32 rfl rfl
set_option maxHeartbeats 1000000 in
theorem rturn_32 (n : Nat) (hn : n < 18446744073709551616) (w : World) : Calls Try.prog 55 #[.int .u64 (n : Int), .int .i64 32] w fun e w' => e = .returned (.int .u64 (rotW n 32 : Nat)) ∧ w = w' := by
  have H := Lib.hid (rot_32 hn)
  clear hn
  go_enter Try.func55, Try.ntmps55
  go_wp2_with fail
  go_ret
  rw [H.out]
  exact ⟨rfl, rfl⟩
theorem xor64 {a b : Nat} (ha : a < 18446744073709551616) (hb : b < 18446744073709551616) : bits .xor .u64 (a : Int) (b : Int) = ((a ^^^ b : Nat) : Int) := u64_xor_nat a b ha hb
theorem add64 (a b : Nat) : IntKind.u64.wrap ((a : Int) + (b : Int)) = ((addW a b : Nat) : Int) := by
  rw [← Int.natCast_add, wrap64_nat]
  rfl
theorem resH0 {fn : Func} {p : Tmp} {ty : TypeId} (h : fn.results = #[.cell p ty]) (tmps : Array Value) (P : Program) (w : World) :
    (results fn tmps).run P w = ((asAddr (tmps.getD p undef)).run P w).andThen fun a w₁ => (loadVar ty a).run P w₁ := by
  simp only [results, h]
  simp [Sem.run_bind, Result.andThen]
/-- One result, in a cell. -/
theorem resH1 {fn : Func} {p : Tmp} {ty : TypeId} (h : fn.results = #[.cell p ty]) (tmps : Array Value) (P : Program) (w : World) (ad : Addr) (v : Value) (hp : tmps.getD p undef = .pointer (some ad))
    (hl : (loadVar ty ad).run P w = .ok v w) : (results fn tmps).run P w = .ok v w := by
  rw [resH0 h, hp]
  simp [Result.andThen, asAddr, hl]
/-- Four words, as cells. -/
def v4L (v : V4) : List Value := [.int .u64 (v.a : Int), .int .u64 (v.b : Int), .int .u64 (v.c : Int), .int .u64 (v.d : Int)]
def v4C (v : V4) : Value := .agg (v4L v).toArray
end Go.Proofs.Ytmngagcekhlppaa
