/-
  MaglevLarge: its walk, the program's contracts a premise.
-/
import Derived.Test.YtmngagcekhlppaaVRight
namespace Go.Proofs.Ytmngagcekhlppaa
set_option maxRecDepth 100000
open Go.RowKit Go.Lib Go.ChangeShapes Go.WideShapes Go.ChangeAt

theorem size_most : SizeN 65537 := ⟨p_big, by decide⟩
theorem no_great (n : Nat) : ¬ (0 ≤ (65538 + (n : Int)) ∧ SizeN (65538 + (n : Int)).toNat) := fun h => by
  have := h.2.most
  omega
theorem no_neg (n : Nat) : ¬ (0 ≤ (-(n : Int)) ∧ SizeN (-(n : Int)).toNat) := fun h => by
  have := h.2.two
  omega
set_option maxHeartbeats 8000000 in
theorem maglevLarge_walkW (S : MagC) (n : Nat) (hn : n < 4294967296) (w : World) :
    Calls Try.prog 4 #[.int .u32 (n : Int)] w fun e w' => e = .returned (.bool true) ∧ Below w.heap.size w w' := by
  have P1 : Hid (∀ W : World, Calls Try.prog 12 #[.agg (K0.map v8).toArray, .int .i64 (65538 + (n : Int)), .slice none 0 0] W fun e W' => e = .returned (.tuple #[.agg #[.slice none 0 0, .slice none 0 0], .int .i64 1]) ∧ Below W.heap.size W W') := Lib.hid (fun W => S.none_ K0 rfl (65538 + (n : Int)) (by omega) (by omega) none 0 0 [] (by decide) (fun x hx => by cases hx) (fun x hx => by cases hx) (by decide) (by decide) (.inl (no_great n)) W _ (Nat.le_refl _) (RdG.nil_ _))
  have P2 : Hid (∀ W : World, Calls Try.prog 12 #[.agg (K0.map v8).toArray, .int .i64 (-(n : Int)), .slice none 0 0] W fun e W' => e = .returned (.tuple #[.agg #[.slice none 0 0, .slice none 0 0], .int .i64 1]) ∧ Below W.heap.size W W') := Lib.hid (fun W => S.none_ K0 rfl (-(n : Int)) (by omega) (by omega) none 0 0 [] (by decide) (fun x hx => by cases hx) (fun x hx => by cases hx) (by decide) (by decide) (.inl (no_neg n)) W _ (Nat.le_refl _) (RdG.nil_ _))
  have P3 : Hid (∀ W : World, Calls Try.prog 12 #[.agg (K0.map v8).toArray, .int .i64 65537, .slice none 0 0] W fun e W' => ∃ nv sv, e = .returned (.tuple #[.agg #[nv, sv], .int .i64 0]) ∧ (∃ A1 c1, nv = .slice A1 0 c1) ∧ (∃ A1 c1, sv = .slice A1 0 c1) ∧ Below W.heap.size W W') := Lib.hid (fun W => by
    refine (S.build K0 rfl 65537 size_most none 0 0 [] may_nil (by decide) (fun x hx => by cases hx) (by decide) (by decide) W _ (Nat.le_refl _) (RdG.nil_ _)).mono ?_
    rintro e W' ⟨nv, sv, he, h1, h2, hb⟩
    obtain ⟨A1, m1, c1, rfl, e1, _⟩ := h1.sl
    obtain ⟨A2, m2, c2, rfl, e2, _⟩ := h2.sl
    have e3 : m1 = 0 := e1
    have e4 : m2 = 0 := e2
    subst e3 e4
    exact ⟨_, _, he, ⟨A1, c1, rfl⟩, ⟨A2, c2, rfl⟩, hb⟩)
  have HAW := Lib.hid (fun W => awake_any S W)
  have hng : (-(n : Int)) = -(n : Int) := rfl
  clear hng S
  go_enter Try.func4, Try.ntmps4
  go_wp2_with (first
    | ((with_reducible show wpList _ _ _ (⟨some 12, _, _, _, _, _⟩ :: _) _ _); refine wpList_buildw (op := ⟨some 12, _, _, _, _, _⟩) 22 #[] rfl (by rfl) [] (by simp) (K0.map v8).toArray (by kernel_rfl) ?_)
    | ((with_reducible show wpList _ _ _ (⟨some 20, _, _, _, _, _⟩ :: _) _ _); refine wpList_buildw (op := ⟨some 20, _, _, _, _, _⟩) 22 #[] rfl (by rfl) [] (by simp) (K0.map v8).toArray (by kernel_rfl) ?_)
    | ((with_reducible show wpList _ _ _ (⟨some 28, _, _, _, _, _⟩ :: _) _ _); refine wpList_buildw (op := ⟨some 28, _, _, _, _, _⟩) 22 #[] rfl (by rfl) [] (by simp) (K0.map v8).toArray (by kernel_rfl) ?_)
    | ((with_reducible refine (HAW.out w).mono ?_); rintro e W1 ⟨rfl, hb⟩; have D1 := Lib.hid hb; clear hb)
    | ((with_reducible refine (P1.out W1).mono ?_); rintro e W2 ⟨rfl, hb⟩; have D2 := Lib.hid (D1.out.trans (hb.mono D1.out.size)); clear hb)
    | (obtain ⟨Z2, hZ2⟩ : ∃ Z, W2.alloc (.cells #[.slice none 0 0, .slice none 0 0] 30) = Z := ⟨_, rfl⟩; rw [hZ2]; have HZ2 := Lib.hid hZ2; clear hZ2; (with_reducible refine (P2.out Z2).mono ?_); rintro e W3 ⟨rfl, hb⟩; have D3 := Lib.hid (below_step D2.out HZ2.out hb); clear hb)
    | (obtain ⟨Z3, hZ3⟩ : ∃ Z, W3.alloc (.cells #[.slice none 0 0, .slice none 0 0] 30) = Z := ⟨_, rfl⟩; rw [hZ3]; have HZ3 := Lib.hid hZ3; clear hZ3; (with_reducible refine (P3.out Z3).mono ?_); rintro e W4 ⟨nv, sv, rfl, ⟨A1, c1, rfl⟩, ⟨A2, c2, rfl⟩, hb⟩; have D4 := Lib.hid (below_step D3.out HZ3.out hb); clear hb))
  go_ret
  exact ⟨rfl, D4.out.alloc D4.out.size _⟩
end Go.Proofs.Ytmngagcekhlppaa
