/-
  What stage 18's laws ask of the program: the contracts of pool's functions, as one premise; what is done, built of its fields.
-/
import Derived.Test.YtajmppaodhpmgaaURDo
namespace Go.Proofs.Ytajmppaodhpmgaa
set_option maxRecDepth 100000
open Go.RowKit Go.Lib

def plV (v : Int) (A : Option Addr) (n c : Nat) : Value := .agg #[.int .i64 v, .slice A n c]
/-- What Find answers. -/
def fndV (r : Option Bk) : Value := match r with
  | some b => bkC b
  | none => bkC bk0
structure PoolC : Prop where
  name : ∀ (s : List UInt8) (_ : s.length ≤ 1000) (w : World), Calls Try.prog 12 #[.string ⟨s.toArray⟩] w fun e w' => e = .returned (.bool (nameB s)) ∧ Below w.heap.size w w'
  right : ∀ {A : Option Addr} {n B : Nat} (c : Nat) (_ : n ≤ c) (_ : c ≤ maxLen) {p : Pl} (_ : n ≤ 100) (_ : ∀ x, x ∈ p.l → x.nm.length ≤ 60) (w : World) (_ : B ≤ w.heap.size) (_ : RdG eB w B A n p.l),
    Calls Try.prog 14 #[.agg #[.int .i64 p.ver, .slice A n c]] w (RightGave w p)
  same : ∀ {A A' : Option Addr} {n n' B : Nat} (c c' : Nat) (_ : n ≤ c) (_ : c ≤ maxLen) (_ : n' ≤ c') (_ : c' ≤ maxLen) {p q : Pl} (_ : n ≤ 100) (_ : n' ≤ 100) (w : World) (_ : B ≤ w.heap.size) (_ : RdG eB w B A n p.l) (_ : RdG eB w B A' n' q.l),
    Calls Try.prog 16 #[.agg #[.int .i64 p.ver, .slice A n c], .agg #[.int .i64 q.ver, .slice A' n' c']] w fun e w' => e = .returned (.bool (samePl p q)) ∧ Below w.heap.size w w'
  find : ∀ {A : Option Addr} {n B : Nat} (c : Nat) (_ : n ≤ c) (_ : c ≤ maxLen) {p : Pl} (_ : RightP p) (_ : n ≤ 100) (s : List UInt8) (_ : s.length ≤ 1000) (w : World) (_ : B ≤ w.heap.size) (_ : RdG eB w B A n p.l),
    Calls Try.prog 21 #[.agg #[.int .i64 p.ver, .slice A n c], .string ⟨s.toArray⟩] w fun e w' => e = .returned (.tuple #[fndV (findB p.l s), .bool (findB p.l s).isSome]) ∧ Below w.heap.size w w'
  do_ : ∀ {A : Option Addr} {n B : Nat} (c : Nat) (_ : n ≤ c) (_ : c ≤ maxLen) {p : Pl} (_ : RightP p) (_ : n ≤ 100) (o : OpU) (_ : o.nm.length ≤ 60) (_ : o.b.nm.length ≤ 60) (w : World) (_ : B ≤ w.heap.size) (_ : RdG eB w B A n p.l),
    Calls Try.prog 19 #[.agg #[.int .i64 p.ver, .slice A n c], opuC o] w fun e w' => ∃ v, e = .returned (.tuple #[.agg #[.int .i64 (doP p o).ver, v], .int .i64 (o.err p)]) ∧ OwnG eB w' w.heap.size v (doP p o).l ∧ Below w.heap.size w w'
  shares : ∀ {A A2 : Option Addr} {n n2 B : Nat} (c c2 : Nat) (_ : n ≤ c) (_ : c ≤ maxLen) (_ : n2 ≤ c2) (_ : c2 ≤ maxLen) {p : Pl} (_ : RightP p) {ds : List (List UInt8)} (_ : n ≤ 100) (_ : n2 ≤ 100) (_ : ∀ x, x ∈ ds → x.length ≤ maxLen) (w : World) (_ : B ≤ w.heap.size) (_ : RdG eB w B A n p.l) (_ : RdG eN w B A2 n2 ds),
    Calls Try.prog 23 #[.agg #[.int .i64 p.ver, .slice A n c], .slice A2 n2 c2] w fun e w' => ∃ r, e = .returned r ∧ OwnG eS w' w.heap.size r (sharesL ds p.l) ∧ Below w.heap.size w w'
theorem sixB {xs : List UInt8} (h : xs.length = 6) : ∃ a0 a1 a2 a3 a4 a5, xs = [a0, a1, a2, a3, a4, a5] := by
  match xs, h with
  | [a0, a1, a2, a3, a4, a5], _ => exact ⟨a0, a1, a2, a3, a4, a5, rfl⟩
def opAdd (b : Bk) : OpU := ⟨1, b, [], 0, by decide⟩
def opNm (k : Int) (s : List UInt8) : OpU := ⟨k, bk0, s, 0, by decide⟩
def opWt (s : List UInt8) (u : Nat) (h : u < T64) : OpU := ⟨3, bk0, s, u, h⟩
theorem built_add (b : Bk) : Try.prog.built 38 [(0, .int .i64 1), (1, .agg (bkL b).toArray)] = some (opuL (opAdd b)).toArray := by
  obtain ⟨nm, ⟨six, ab⟩, port, mac, wt, dr, h1, h2, h3⟩ := b
  obtain ⟨a0, a1, a2, a3, a4, a5, a6, a7, a8, a9, a10, a11, a12, a13, a14, a15, rfl⟩ := sixteen h1
  obtain ⟨m0, m1, m2, m3, m4, m5, rfl⟩ := sixB h2
  kernel_rfl
theorem built_nm (k : Int) (s : List UInt8) : Try.prog.built 38 [(0, .int .i64 k), (2, .string ⟨s.toArray⟩)] = some (opuL (opNm k s)).toArray := by kernel_rfl
theorem built_wt (s : List UInt8) (u : Nat) (h : u < T64) : Try.prog.built 38 [(0, .int .i64 3), (2, .string ⟨s.toArray⟩), (3, .float .f64 u)] = some (opuL (opWt s u h)).toArray := by kernel_rfl
theorem plain_same {b : Bk} (h : plainW b.wt = b.wt) : b.plain = b := by
  obtain ⟨nm, ad, port, mac, wt, dr, h1, h2, h3⟩ := b
  unfold Bk.plain
  congr 1
/-- The backend of the examples. -/
def abk : Bk := ⟨[97], ⟨false, zer16⟩, 80, [0, 0, 0, 0, 0, 0], 4609434218613702656, false, rfl, rfl, by decide⟩
theorem built_abk : Try.prog.built 36 [(0, .string ⟨#[97]⟩), (2, .int .i64 80), (4, .float .f64 4609434218613702656)] = some (bkL abk).toArray := by kernel_rfl
theorem right_zero : RightP ⟨0, []⟩ := ⟨by decide, by decide, by decide, fun _ h => (by cases h), List.Pairwise.nil⟩
theorem abk_plain : abk.plain = abk := plain_same (by decide +kernel)
theorem doA1 : (opAdd abk).err ⟨0, []⟩ = 0 ∧ doP ⟨0, []⟩ (opAdd abk) = ⟨1, [abk]⟩ := by
  have h : (opAdd abk).err ⟨0, []⟩ = 0 := by decide +kernel
  refine ⟨h, ?_⟩
  rw [do_yes h]
  show (⟨0 + 1, insB abk.plain []⟩ : Pl) = _
  rw [abk_plain]
  rfl
theorem right_one : RightP ⟨1, [abk]⟩ := by
  have := do_right right_zero (opAdd abk)
  rwa [doA1.2] at this
theorem doA2 : (opAdd abk).err ⟨1, [abk]⟩ = 6 ∧ doP ⟨1, [abk]⟩ (opAdd abk) = ⟨1, [abk]⟩ := by
  have h : (opAdd abk).err ⟨1, [abk]⟩ = 6 := by decide +kernel
  exact ⟨h, do_no (by rw [h]; decide)⟩
def abkD : Bk := { abk with dr := true }
theorem doA3 : (opNm 4 [97]).err ⟨1, [abk]⟩ = 0 ∧ doP ⟨1, [abk]⟩ (opNm 4 [97]) = ⟨2, [abkD]⟩ := by
  have h : (opNm 4 [97]).err ⟨1, [abk]⟩ = 0 := by decide +kernel
  refine ⟨h, ?_⟩
  rw [do_yes h]
  rfl
theorem doA4 : (opWt [97] 9221120237041090561 (by decide)).err ⟨1, [abk]⟩ = 1 ∧ doP ⟨1, [abk]⟩ (opWt [97] 9221120237041090561 (by decide)) = ⟨1, [abk]⟩ := by
  have h : (opWt [97] 9221120237041090561 (by decide)).err ⟨1, [abk]⟩ = 1 := by decide +kernel
  exact ⟨h, do_no (by rw [h]; decide)⟩
theorem doA5 : (opNm 2 [97]).err ⟨1, [abk]⟩ = 0 ∧ doP ⟨1, [abk]⟩ (opNm 2 [97]) = ⟨2, []⟩ := by
  have h : (opNm 2 [97]).err ⟨1, [abk]⟩ = 0 := by decide +kernel
  refine ⟨h, ?_⟩
  rw [do_yes h]
  rfl
theorem findA : findB [abk] [97] = some abk := rfl
theorem right_two : RightP ⟨2, [abkD]⟩ := by
  have := do_right right_one (opNm 4 [97])
  rwa [doA3.2] at this
theorem sharesA : sharesL [] [abk] = [⟨[97], 1536⟩] := by
  have h : quW abk.wt = 1536 := by decide +kernel
  show [shrB [] abk] = _
  rw [shrB_full rfl (by simp), h]
  rfl
theorem sharesD : sharesL [] [abkD] = [⟨[97], 0⟩] := by
  show [shrB [] abkD] = _
  rw [shrB_zero (.inl rfl)]
  rfl
theorem sameA : samePl ⟨1, [abk]⟩ ⟨1, [abk]⟩ = true := by decide +kernel
theorem nameA : nameB [119, 101, 98, 45, 49, 46, 120] = true ∧ nameB [87, 101, 98] = false := by decide +kernel
end Go.Proofs.Ytajmppaodhpmgaa
