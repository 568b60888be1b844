/-
  The program's Choice (perm).
-/
import Derived.Test.YtmngagcekhlppaaJP2
import Derived.Deep.DeepCutAuto
namespace Go.Proofs.Ytmngagcekhlppaa
set_option maxRecDepth 100000
open Go.RowKit Go.Lib

set_option maxHeartbeats 2000000 in
theorem pchoice_any (a b p i : Nat) (hp : SizeN p) (ha : a < p) (hb : b < p) (hi : i ≤ 2147483648) (w : World) :
    Calls Try.prog 54 #[.int .i64 (a : Int), .int .i64 (b : Int), .int .i64 (p : Int), .int .i64 (i : Int)] w fun e w' => e = .returned (.int .i64 (chN a b p i : Nat)) ∧ w = w' := by
  have HF := Lib.hid (fun W => pfits_yes p hp W)
  have hp2 := hp.two
  have hpm := hp.most
  have hm : i * b ≤ 2147483648 * 65537 := Nat.mul_le_mul hi (by omega)
  have hsq : (i : Int) * (b : Int) = ((i * b : Nat) : Int) := by rw [Int.natCast_mul]
  have HC : Hid (chN a b p i = (a + i * b) % p) := Lib.hid rfl
  obtain ⟨t, ht⟩ : ∃ t, i * b = t := ⟨_, rfl⟩
  rw [ht] at hm hsq HC
  have hmn : ((a : Int) + (t : Int)) % (p : Int) = (((a + t) % p : Nat) : Int) := by rw [Int.natCast_emod, Int.natCast_add]
  have hq : (a + t) % p < p := Nat.mod_lt _ (by omega)
  obtain ⟨r, hr⟩ : ∃ r, (a + t) % p = r := ⟨_, rfl⟩
  rw [hr] at hmn HC hq
  rw [HC.out]
  have HMN := Lib.hid hmn
  clear hp ht hr HC hmn
  go_enter Try.func54, Try.ntmps54
  go_wp2_with (with_reducible refine (HF.out w).mono ?_; rintro e w' ⟨rfl, rfl⟩)
  go_ret
  refine ⟨?_, rfl⟩
  show Ending.returned (.int .i64 (((a : Int) + (t : Int)) % (p : Int))) = _
  rw [HMN.out]
end Go.Proofs.Ytmngagcekhlppaa
