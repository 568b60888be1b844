/-
  The document's round.
-/
import Derived.Test.YtmngagcekhlppaaHRot
namespace Go.Proofs.Ytmngagcekhlppaa
set_option maxRecDepth 100000
open Go.RowKit Go.Lib
set_option maxHeartbeats 4000000 in
theorem rround_any {v : V4} (h : v.Ok) (w : World) : Calls Try.prog 46 #[v4C v] w fun e w' => e = .returned (v4C (rnd v)) ∧ Below w.heap.size w w' := by
  obtain ⟨a, b, c, d⟩ := v
  obtain ⟨la, lb, lc, ld⟩ := h
  simp only at la lb lc ld
  obtain ⟨V, hV⟩ : ∃ V, rnd ⟨a, b, c, d⟩ = V := ⟨_, rfl⟩
  have HV := Lib.hid hV
  rw [hV]
  unfold rnd at hV
  simp only at hV
  obtain ⟨a1, ea1⟩ : ∃ x, addW a b = x := ⟨_, rfl⟩
  have Fa1 := add64 a b
  have la1 := addW_lt a b
  rw [ea1] at Fa1 la1 hV
  clear ea1
  obtain ⟨r1, er1⟩ : ∃ x, rotW b 13 = x := ⟨_, rfl⟩
  have Fr1 := fun W => rturn_13 b lb W
  have lr1 := rotW_lt lb 13
  rw [er1] at Fr1 lr1 hV
  clear er1
  have Gr1 := Lib.hid Fr1
  clear Fr1
  obtain ⟨b1, eb1⟩ : ∃ x, r1 ^^^ a1 = x := ⟨_, rfl⟩
  have Fb1 := xor64 lr1 la1
  have lb1 := xorW_lt lr1 la1
  rw [eb1] at Fb1 lb1 hV
  clear eb1
  obtain ⟨a2, ea2⟩ : ∃ x, rotW a1 32 = x := ⟨_, rfl⟩
  have Fa2 := fun W => rturn_32 a1 la1 W
  have la2 := rotW_lt la1 32
  rw [ea2] at Fa2 la2 hV
  clear ea2
  have Ga2 := Lib.hid Fa2
  clear Fa2
  obtain ⟨c1, ec1⟩ : ∃ x, addW c d = x := ⟨_, rfl⟩
  have Fc1 := add64 c d
  have lc1 := addW_lt c d
  rw [ec1] at Fc1 lc1 hV
  clear ec1
  obtain ⟨r2, er2⟩ : ∃ x, rotW d 16 = x := ⟨_, rfl⟩
  have Fr2 := fun W => rturn_16 d ld W
  have lr2 := rotW_lt ld 16
  rw [er2] at Fr2 lr2 hV
  clear er2
  have Gr2 := Lib.hid Fr2
  clear Fr2
  obtain ⟨d1, ed1⟩ : ∃ x, r2 ^^^ c1 = x := ⟨_, rfl⟩
  have Fd1 := xor64 lr2 lc1
  have ld1 := xorW_lt lr2 lc1
  rw [ed1] at Fd1 ld1 hV
  clear ed1
  obtain ⟨a3, ea3⟩ : ∃ x, addW a2 d1 = x := ⟨_, rfl⟩
  have Fa3 := add64 a2 d1
  have la3 := addW_lt a2 d1
  rw [ea3] at Fa3 la3 hV
  clear ea3
  obtain ⟨r3, er3⟩ : ∃ x, rotW d1 21 = x := ⟨_, rfl⟩
  have Fr3 := fun W => rturn_21 d1 ld1 W
  have lr3 := rotW_lt ld1 21
  rw [er3] at Fr3 lr3 hV
  clear er3
  have Gr3 := Lib.hid Fr3
  clear Fr3
  obtain ⟨d2, ed2⟩ : ∃ x, r3 ^^^ a3 = x := ⟨_, rfl⟩
  have Fd2 := xor64 lr3 la3
  have ld2 := xorW_lt lr3 la3
  rw [ed2] at Fd2 ld2 hV
  clear ed2
  obtain ⟨c2, ec2⟩ : ∃ x, addW c1 b1 = x := ⟨_, rfl⟩
  have Fc2 := add64 c1 b1
  have lc2 := addW_lt c1 b1
  rw [ec2] at Fc2 lc2 hV
  clear ec2
  obtain ⟨r4, er4⟩ : ∃ x, rotW b1 17 = x := ⟨_, rfl⟩
  have Fr4 := fun W => rturn_17 b1 lb1 W
  have lr4 := rotW_lt lb1 17
  rw [er4] at Fr4 lr4 hV
  clear er4
  have Gr4 := Lib.hid Fr4
  clear Fr4
  obtain ⟨b2, eb2⟩ : ∃ x, r4 ^^^ c2 = x := ⟨_, rfl⟩
  have Fb2 := xor64 lr4 lc2
  have lb2 := xorW_lt lr4 lc2
  rw [eb2] at Fb2 lb2 hV
  clear eb2
  obtain ⟨c3, ec3⟩ : ∃ x, rotW c2 32 = x := ⟨_, rfl⟩
  have Fc3 := fun W => rturn_32 c2 lc2 W
  have lc3 := rotW_lt lc2 32
  rw [ec3] at Fc3 lc3 hV
  clear ec3
  have Gc3 := Lib.hid Fc3
  clear Fc3
  subst hV
  clear la1 lr1 lb1 la2 lc1 lr2 ld1 la3 lr3 ld2 lc2 lr4 lb2 lc3 la lb lc ld HV
  unfold v4C v4L
  go_enter Try.func46, Try.ntmps46
  go_wp2_with (first
    | (with_reducible refine (Gr1.out _).mono ?_; rintro e w' ⟨rfl, rfl⟩)
    | (with_reducible refine (Ga2.out _).mono ?_; rintro e w' ⟨rfl, rfl⟩)
    | (with_reducible refine (Gr2.out _).mono ?_; rintro e w' ⟨rfl, rfl⟩)
    | (with_reducible refine (Gr3.out _).mono ?_; rintro e w' ⟨rfl, rfl⟩)
    | (with_reducible refine (Gr4.out _).mono ?_; rintro e w' ⟨rfl, rfl⟩)
    | (with_reducible refine (Gc3.out _).mono ?_; rintro e w' ⟨rfl, rfl⟩))
  have hb : ((w.alloc (.cells #[.int .u64 (a : Int), .int .u64 (b : Int), .int .u64 (c : Int), .int .u64 (d : Int)] 72)).alloc (.cells #[.int .u64 (a3 : Int), .int .u64 (b2 : Int), .int .u64 (c3 : Int), .int .u64 (d2 : Int)] 72)).heap[w.heap.size + 1]? = some (.cells #[.int .u64 (a3 : Int), .int .u64 (b2 : Int), .int .u64 (c3 : Int), .int .u64 (d2 : Int)] 72 (0, 0)) := by
    have := heap_alloc_new (w.alloc (.cells #[.int .u64 (a : Int), .int .u64 (b : Int), .int .u64 (c : Int), .int .u64 (d : Int)] 72)) (.cells #[.int .u64 (a3 : Int), .int .u64 (b2 : Int), .int .u64 (c3 : Int), .int .u64 (d2 : Int)] 72)
    rwa [World.size_alloc] at this
  have hl := run_loadVar_row (P := Try.prog) _ (w.heap.size + 1) _ 72 _ (0, 0) _ hb Try.underlying72 rfl (by kernel_rfl)
  refine bodyPost_ret (v := v4C ⟨a3, b2, c3, d2⟩) (resH1 rfl _ _ _ ⟨w.heap.size + 1, 0, none⟩ _ (by rfl) hl) rfl ?_
  exact ⟨rfl, ((Below.refl w.heap.size w).alloc (Nat.le_refl _) _).alloc (by simp) _⟩
end Go.Proofs.Ytmngagcekhlppaa
