/-
  Plain mathematics: numbers and their bytes. No program is named here.
-/
import Derived.Test.YtcimgbjliamaiaaBytes
namespace Go.Proofs.Ytcimgbjliamaiaa

/-- The number that the bytes tell, the highest first. -/
def num (xs : List UInt8) : Nat := xs.foldl (fun n x => 256 * n + x.toNat) 0
/-- The k lowest digits of n in base 256, the lowest first. -/
def dig (n : Nat) : Nat → List UInt8
  | 0 => []
  | k + 1 => UInt8.ofNat n :: dig (n / 256) k

theorem num_nil : num [] = 0 := rfl
theorem num_snoc (xs : List UInt8) (x : UInt8) : num (xs ++ [x]) = 256 * num xs + x.toNat := by simp [num]
theorem foldl_num (xs : List UInt8) : ∀ n : Nat, xs.foldl (fun n x => 256 * n + x.toNat) n = 256 ^ xs.length * n + num xs := by
  induction xs with
  | nil => intro n; simp [num]
  | cons x xs ih =>
    intro n
    simp only [List.foldl_cons, num, List.length_cons]
    rw [ih, ih]
    rw [Nat.pow_succ, Nat.mul_zero, Nat.mul_add, Nat.mul_add, ← Nat.mul_assoc]
    simp only [Nat.mul_zero, Nat.zero_add]
    omega
theorem num_append (xs ys : List UInt8) : num (xs ++ ys) = 256 ^ ys.length * num xs + num ys := by
  rw [num, List.foldl_append, foldl_num]; rfl
theorem num_cons (x : UInt8) (xs : List UInt8) : num (x :: xs) = 256 ^ xs.length * x.toNat + num xs := by
  have := num_append [x] xs
  simpa [num] using this
theorem num_lt (xs : List UInt8) : num xs < 256 ^ xs.length := by
  induction xs with
  | nil => simp [num]
  | cons x xs ih =>
    rw [num_cons, List.length_cons, Nat.pow_succ]
    have := x.toNat_lt
    have h : 256 ^ xs.length * (x.toNat + 1) ≤ 256 ^ xs.length * 256 := Nat.mul_le_mul_left _ (by omega)
    rw [Nat.mul_add] at h
    omega
theorem pow256_le {k : Nat} (h : k ≤ 8) : 256 ^ k ≤ 18446744073709551616 := by
  have : 256 ^ k ≤ 256 ^ 8 := Nat.pow_le_pow_right (by omega) h
  simpa using this
theorem num_lt64 (xs : List UInt8) (h : xs.length ≤ 8) : num xs < 18446744073709551616 := Nat.lt_of_lt_of_le (num_lt xs) (pow256_le h)
theorem num_snoc_lt (xs : List UInt8) (h : xs.length < 8) : 256 * num xs + 255 < 18446744073709551616 := by
  have := num_lt64 (xs ++ [255]) (by simp; omega)
  rw [num_snoc] at this
  simpa using this
theorem shl_or (n x : Nat) (hx : x < 256) : (n * 256) ||| x = 256 * n + x := by
  have := Nat.shiftLeft_add_eq_or_of_lt (i := 8) (b := x) (by omega) n
  rw [Nat.shiftLeft_eq, show (2 : Nat) ^ 8 = 256 from rfl] at this
  omega

theorem dig_length (k : Nat) : ∀ n, (dig n k).length = k := by
  induction k with
  | zero => intro n; rfl
  | succ k ih => intro n; simp [dig, ih]
theorem dig_snoc (k : Nat) : ∀ n, dig n (k + 1) = dig n k ++ [UInt8.ofNat (n / 256 ^ k)] := by
  induction k with
  | zero => intro n; simp [dig]
  | succ k ih =>
    intro n
    rw [dig, ih, dig]
    simp [Nat.div_div_eq_div_mul, Nat.pow_succ, Nat.mul_comm]
theorem num_dig (k : Nat) : ∀ n, num (dig n k).reverse = n % 256 ^ k := by
  induction k with
  | zero => intro n; simp [dig, num, Nat.mod_one]
  | succ k ih =>
    intro n
    rw [dig, List.reverse_cons, num_snoc, ih, Nat.pow_succ, Nat.mul_comm (256 ^ k), Nat.mod_mul]
    simp
    omega
theorem dig_num (xs : List UInt8) : dig (num xs.reverse) xs.length = xs := by
  induction xs with
  | nil => rfl
  | cons x xs ih =>
    rw [List.reverse_cons, num_snoc, List.length_cons, dig]
    have hx := x.toNat_lt
    have e1 : (256 * num xs.reverse + x.toNat) / 256 = num xs.reverse := by omega
    rw [e1, ih]
    congr 1
    apply UInt8.toNat_inj.1
    simp
end Go.Proofs.Ytcimgbjliamaiaa
