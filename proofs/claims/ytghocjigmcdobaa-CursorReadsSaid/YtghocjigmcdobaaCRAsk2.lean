/-
  The contracts of the document's reader: Ask, of bytes, of a varint, of a text.
-/
import Derived.Test.YtghocjigmcdobaaCRAsk
namespace Go.Proofs.Ytghocjigmcdobaa
open Go.RowKit Go.Lib

/-- A slice of no bytes, of new memory. -/
theorem empty8 {base : Nat} (w : World) (h : base ≤ w.heap.size) : Own8 (w.alloc (.cells #[] 5)) base (.slice (some ⟨w.heap.size, 0, none⟩) 0 0) [] := by
  have h := Row8.own (w := w.alloc (.cells #[] 5)) (g := w.heap.size) (xs := []) (heap_alloc_new w _) (base := base) (n := 0) h (Nat.zero_le _) (by simp)
  simpa using h

/-- A struct in a cell, and two values beside it: the results. -/
theorem rresults {fn : Func} (h : fn.results = #[.cell 8 46, .tmp 9, .tmp 10]) (tmps : Array Value) (w : World) (b : Nat) (hp : tmps.getD 8 undef = .pointer (some ⟨b, 0, none⟩)) {v0 v1 v2 v3 : Value} (hb : Blk4 w b 46 v0 v1 v2 v3) :
    (results fn tmps).run Try.prog w = .ok (.tuple #[.agg #[v0, v1, v2, v3], tmps.getD 9 undef, tmps.getD 10 undef]) w := by
  have c0 := hb.c0
  have c1 := hb.c1
  have c2 := hb.c2
  have c3 := hb.c3
  have hp' : tmps[8]?.getD undef = .pointer (some ⟨b, 0, none⟩) := by simpa using hp
  simp [results, h, hp', go_sem, c0, c1, c2, c3]
theorem Blk4.far {w : World} {b : Nat} {t : TypeId} {v0 v1 v2 v3 : Value} (h : Blk4 w b t v0 v1 v2 v3) {p : Addr} (hp : b ≠ p.block) (u : Value) : Blk4 (w.setCell p u) b t v0 v1 v2 v3 := (Below.heap_setCell w p u b hp).trans h
/-- All four cells written. -/
theorem Blk4.all {w : World} {b : Nat} {t : TypeId} {v0 v1 v2 v3 : Value} (h : Blk4 w b t v0 v1 v2 v3) (u0 u1 u2 u3 : Value) :
    Blk4 ((((w.setCell ⟨b, 0, none⟩ u0).setCell ⟨b, 1, none⟩ u1).setCell ⟨b, 2, none⟩ u2).setCell ⟨b, 3, none⟩ u3) b t u0 u1 u2 u3 :=
  heap_set (i := 3) (heap_set (i := 2) (heap_set (i := 1) (heap_set (i := 0) h u0) u1) u2) u3

theorem Own8.low {w w' : World} {base b : Nat} {v : Value} {xs : List UInt8} (h : Own8 w base v xs) (hg : w.grownBy w' (some b)) (hb : b < base) : Own8 w' base v xs :=
  h.kept hg (by
    cases hv : v.ownBlock with
    | none => exact .inl rfl
    | some g => exact .inr (fun e => by have := h.lt g hv; cases e; omega))
/-- The place is stored, then the reader is laid as the result: what was made ahead stays. -/
theorem rtail {w w1 : World} (hb : Below w.heap.size w w1) {v : Value} {bs : List UInt8} (hown : Own8 w1 (w.heap.size + 2) v bs) (x u0 u1 u2 u3 : Value) :
    Own8 (((((w1.setCell ⟨w.heap.size, 1, none⟩ x).setCell ⟨w.heap.size + 1, 0, none⟩ u0).setCell ⟨w.heap.size + 1, 1, none⟩ u1).setCell ⟨w.heap.size + 1, 2, none⟩ u2).setCell ⟨w.heap.size + 1, 3, none⟩ u3) w.heap.size v bs ∧
      Below w.heap.size w (((((w1.setCell ⟨w.heap.size, 1, none⟩ x).setCell ⟨w.heap.size + 1, 0, none⟩ u0).setCell ⟨w.heap.size + 1, 1, none⟩ u1).setCell ⟨w.heap.size + 1, 2, none⟩ u2).setCell ⟨w.heap.size + 1, 3, none⟩ u3) := by
  constructor
  · exact ((hown.low (b := w.heap.size) (gb_set (World.grownBy.refl _ _) 1 x) (by omega)).low (b := w.heap.size + 1) (gb_set (gb_set (gb_set (gb_set (World.grownBy.refl _ _) 0 u0) 1 u1) 2 u2) 3 u3) (by omega)).base_le (by omega)
  · exact ((((hb.setCell (Nat.le_refl _) _).setCell (Nat.le_succ _) _).setCell (Nat.le_succ _) _).setCell (Nat.le_succ _) _).setCell (Nat.le_succ _) _

set_option maxRecDepth 100000 in
set_option maxHeartbeats 2000000 in
/-- So many bytes. -/
theorem rask_take {w : World} {A : Option Addr} {cap : Nat} {s : RS} (h : RMay w A cap s) (hf : s.fe = 0) (z : Int) (big : Bool) :
    Calls Try.prog 24 #[rvOf A cap s, .int .i64 3, .int .i64 z, .bool big] w (RGave w A cap (s.take z) 0 (s.takeB z)) := by
  have hle := h.le
  have hfew := h.few
  have hroom := h.room
  unfold RS.take RS.takeB
  by_cases hz : z < 0
  · rw [if_pos hz, if_pos hz, RS.fail_no hf]
    unfold rvOf
    rw [hf]
    go_enter Try.func24, Try.ntmps24
    go_wp2_with fail
    refine (rfail_any _ _ _ _ _ 0 1 _).mono ?_
    rintro e w1 ⟨rfl, rfl⟩
    go_wp2_with fail
    refine bodyPost_ret (v := .tuple #[rvOf A cap ⟨s.xs, s.at_, s.at_, 1⟩, .int .u64 0, .slice none 0 0]) (by simp [results, Try.results24, go_sem, rvOf]) rfl ⟨_, rfl, Own8.nil_ _ _, ?_⟩
    repeat (first | exact Below.refl _ _ | refine Below.alloc ?_ (by simp <;> omega) _)
  · rw [if_neg hz, if_neg hz]
    obtain ⟨n, rfl⟩ := Int.eq_ofNat_of_zero_le (show 0 ≤ z by omega)
    rw [Int.toNat_natCast]
    have hz' : (0 : Int) ≤ (n : Int) := by omega
    by_cases hl : s.left < n
    · rw [RS.next_short hf hl, RS.nextB_short hf hl]
      unfold rvOf
      rw [hf]
      have hl' : (s.xs.length : Int) - (s.at_ : Int) < (n : Int) := by unfold RS.left at hl; omega
      clear hl hf hz
      go_enter Try.func24, Try.ntmps24
      go_wp2_with fail
      refine (rfail_any _ _ _ _ _ 0 2 _).mono ?_
      rintro e w1 ⟨rfl, rfl⟩
      go_wp2_with fail
      refine bodyPost_ret (v := .tuple #[rvOf A cap ⟨s.xs, s.at_, s.at_, 2⟩, .int .u64 0, .slice none 0 0]) (by simp [results, Try.results24, go_sem, rvOf]) rfl ⟨_, rfl, Own8.nil_ _ _, ?_⟩
      repeat (first | exact Below.refl _ _ | refine Below.alloc ?_ (by simp <;> omega) _)
    · rw [RS.next_fits hf (by omega), RS.nextB_fits hf (by omega)]
      have hadd : s.at_ + n ≤ s.xs.length := by unfold RS.left at hl; omega
      have hcut := run_cut8 A s.xs.length cap s.at_ n (by omega)
      have hcutrd := h.rd.cut hadd cap hroom
      unfold rvOf
      rw [hf]
      have hl' : (n : Int) ≤ (s.xs.length : Int) - (s.at_ : Int) := by omega
      have hsum : (s.at_ : Int) + (n : Int) ≤ 100000 := by omega
      clear hl hf hz
      have B0 : Blk4 (((w.alloc (.cells #[.slice A s.xs.length cap, .int .i64 (s.at_ : Int), .int .i64 (s.fa : Int), .int .i64 0] 46)).alloc (.cells #[.slice none 0 0, .int .i64 0, .int .i64 0, .int .i64 0] 46)).alloc (.cells #[] 5)) w.heap.size 46 (.slice A s.xs.length cap) (.int .i64 (s.at_ : Int)) (.int .i64 (s.fa : Int)) (.int .i64 0) := ((Blk4.new w).alloc _).alloc _
      have B1 : Blk4 (((w.alloc (.cells #[.slice A s.xs.length cap, .int .i64 (s.at_ : Int), .int .i64 (s.fa : Int), .int .i64 0] 46)).alloc (.cells #[.slice none 0 0, .int .i64 0, .int .i64 0, .int .i64 0] 46)).alloc (.cells #[] 5)) (w.heap.size + 1) 46 (.slice none 0 0) (.int .i64 0) (.int .i64 0) (.int .i64 0) := by
        have h := (Blk4.new (t := 46) (v0 := .slice none 0 0) (v1 := .int .i64 0) (v2 := .int .i64 0) (v3 := .int .i64 0) (w.alloc (.cells #[.slice A s.xs.length cap, .int .i64 (s.at_ : Int), .int .i64 (s.fa : Int), .int .i64 0] 46))).alloc (.cells #[] 5)
        rw [World.size_alloc] at h
        exact h
      have how := empty8 (base := w.heap.size + 2) ((w.alloc (.cells #[.slice A s.xs.length cap, .int .i64 (s.at_ : Int), .int .i64 (s.fa : Int), .int .i64 0] 46)).alloc (.cells #[.slice none 0 0, .int .i64 0, .int .i64 0, .int .i64 0] 46)) (by simp)
      have hB3 : Below w.heap.size w (((w.alloc (.cells #[.slice A s.xs.length cap, .int .i64 (s.at_ : Int), .int .i64 (s.fa : Int), .int .i64 0] 46)).alloc (.cells #[.slice none 0 0, .int .i64 0, .int .i64 0, .int .i64 0] 46)).alloc (.cells #[] 5)) := by
        repeat (first | exact Below.refl _ _ | refine Below.alloc ?_ (by simp <;> omega) _)
      have hrd := hcutrd.below hB3
      simp only [World.size_alloc] at how
      go_enter Try.func24, Try.ntmps24
      go_wp2_with (at_builtin; refine wpList_append8 rfl _ _ rfl (w.heap.size + 2) _ [] (by rfl) how _ _ _ _ ((s.xs.drop s.at_).take n) (by rfl) hrd (by simp <;> omega) (by simp <;> omega) ?_; intro v' w1 hown' hgrow _; have b0 := B0.grown hgrow (by simp [Value.ownBlock]; omega); have b1 := B1.grown hgrow (by simp [Value.ownBlock]); have p0 := b0.c0; have p1 := b0.c1; have p2 := b0.c2; have p3 := b0.c3; have q0 := b1.c0; have q1 := b1.c1; have q2 := b1.c2; have q3 := b1.c3; have y1 := b0.fz 1; have z0 := b1.fz 0; have z1 := b1.fz 1; have z2 := b1.fz 2; have z3 := b1.fz 3)
      have hfin := (b1.far (p := ⟨w.heap.size, 1, none⟩) (by simp) (.int .i64 ((s.at_ : Int) + (n : Int)))).all (.slice A s.xs.length cap) (.int .i64 ((s.at_ : Int) + (n : Int))) (.int .i64 (s.fa : Int)) (.int .i64 0)
      refine bodyPost_ret (v := .tuple #[.agg #[.slice A s.xs.length cap, .int .i64 ((s.at_ : Int) + (n : Int)), .int .i64 (s.fa : Int), .int .i64 0], .int .u64 0, v']) (rresults rfl _ _ (w.heap.size + 1) rfl hfin) rfl ?_
      obtain ⟨t1, t2⟩ := rtail (hB3.grown hgrow (by simp <;> omega) (fun k hk => by have := how.lt k hk; omega)) hown' (.int .i64 ((s.at_ : Int) + (n : Int))) (.slice A s.xs.length cap) (.int .i64 ((s.at_ : Int) + (n : Int))) (.int .i64 (s.fa : Int)) (.int .i64 0)
      exact ⟨v', rfl, t1, t2⟩
end Go.Proofs.Ytghocjigmcdobaa
