/-
  The statements' own 'awake' (layer 6) answers true.
-/
import Derived.Test.YtdfjdkbnbiglnaaIPseudo
import Derived.Test.YtdfjdkbnbiglnaaIRef3
namespace Go.Proofs.Ytdfjdkbnbiglnaa
open Go.RowKit Go.Lib

def aw8 : List UInt8 := [0, 1, 242, 3, 244, 245, 246, 247]
theorem aw_ck : ckOf aw8 = 8717 := by decide +kernel
theorem aw_ck2 : ckOf (aw8 ++ [34, 13]) = 0 := by decide +kernel
theorem aw_nil : ckOf [] = 65535 := by decide +kernel
theorem aw_chg : chg 8717 1 1 = 8717 := by decide +kernel
theorem aw_zero : #[Value.bool false, .int .u8 0, .int .u8 0, .int .u8 0, .int .u8 0, .int .u8 0, .int .u8 0, .int .u8 0, .int .u8 0, .int .u8 0, .int .u8 0, .int .u8 0, .int .u8 0, .int .u8 0, .int .u8 0, .int .u8 0, .int .u8 0] = addrC false (List.replicate 16 0) := by rfl

/-- inet.Sum of a row that was just laid, in a world that drew. -/
theorem sum_row (W : World) (cs : List Value) (l : List (List UInt8)) (h : CellsAt W W.heap.size cs l) (n cap : Nat) (hn : cs.length = n) (hn2 : n ≤ 1000) (hlen : l.flatten.length ≤ 1000000) (c : Nat) (hc : ckOf l.flatten = c) (k : Nat) :
    Calls Try.prog 10 #[.slice (some ⟨W.heap.size, 0, none⟩) n cap] ((W.alloc (.cells cs.toArray 22)).drewN k) fun e W' => e = .returned (.int .u16 (c : Int)) ∧ (W.alloc (.cells cs.toArray 22)).drewN k = W' := by
  subst hc
  exact sum_any _ n cap l hn2 hlen _ ((h.laid (Nat.le_refl _) n hn).drewN k)
theorem right_row (W : World) (cs : List Value) (l : List (List UInt8)) (h : CellsAt W W.heap.size cs l) (n cap : Nat) (hn : cs.length = n) (hn2 : n ≤ 1000) (hlen : l.flatten.length ≤ 1000000) (hc : ckOf l.flatten = 0) (k : Nat) :
    Calls Try.prog 12 #[.slice (some ⟨W.heap.size, 0, none⟩) n cap] ((W.alloc (.cells cs.toArray 22)).drewN k) fun e W' => e = .returned (.bool true) ∧ (W.alloc (.cells cs.toArray 22)).drewN k = W' :=
  right_yes _ n cap l hn2 hlen hc _ ((h.laid (Nat.le_refl _) n hn).drewN k)
theorem wrong_row (W : World) (cs : List Value) (l : List (List UInt8)) (h : CellsAt W W.heap.size cs l) (n cap : Nat) (hn : cs.length = n) (hn2 : n ≤ 1000) (hlen : l.flatten.length ≤ 1000000) (hc : ckOf l.flatten ≠ 0) (k : Nat) :
    Calls Try.prog 12 #[.slice (some ⟨W.heap.size, 0, none⟩) n cap] ((W.alloc (.cells cs.toArray 22)).drewN k) fun e W' => e = .returned (.bool false) ∧ (W.alloc (.cells cs.toArray 22)).drewN k = W' :=
  right_no _ n cap l hn2 hlen hc _ ((h.laid (Nat.le_refl _) n hn).drewN k)
/-- A part of a text that begins at byte 0 of a block. -/
theorem Rd.at0 {w : World} {B g n : Nat} {xs : List UInt8} (h : Rd w B (some ⟨g, 0, none⟩) n xs) {l m : Nat} (hl : l + m ≤ n) : Rd w B (some ⟨g, l, none⟩) m ((xs.drop l).take m) := by
  rcases Nat.eq_zero_or_pos m with rfl | hm
  · rw [List.take_zero]; exact Rd.nil_ _
  · have := h.part hl hm
    simpa [add_plain] using this

/-- b[:h] -/
theorem run_upto8 (A : Option Addr) (len cap h : Nat) (H : Int) (hH : H = (h : Int)) (h2 : h ≤ cap) (W : World) :
    (Instr.slice 22 (.slice A len cap) none (some (.int .i64 H)) none).run Try.prog W = .ok (.slice A h cap) W := by
  subst hH
  obtain ⟨i0, hi, hz0, hz1, hz2⟩ := info_parts info8
  have hc := run_sliceBound (P := Try.prog) (w := W) .i64 (h : Int) cap .sliceAcap (by omega) (by omega)
  cases A <;> simp [Instr.slice, hc, run_underlying Try.underlying22, Instr.sliceBounds, sizeOf, typeInfo, hi, Addr.add] <;> (try split) <;> simp_all

theorem drewN_one (w : World) : w.drewN 1 = w.drew := rfl
theorem CellsAt.one {w : World} {B n c : Nat} {A : Option Addr} {xs : List UInt8} (h : Rd w B A n xs) (hn : n ≤ c) (hc : c ≤ maxLen) : CellsAt w B [.slice A n c] [xs] := (CellsAt.nil_ w B).cons h hn hc
theorem CellsAt.two {w : World} {B n c n' c' : Nat} {A A' : Option Addr} {xs ys : List UInt8} (h : Rd w B A n xs) (hn : n ≤ c) (hc : c ≤ maxLen) (h' : Rd w B A' n' ys) (hn' : n' ≤ c') (hc' : c' ≤ maxLen) : CellsAt w B [.slice A n c, .slice A' n' c'] [xs, ys] := (CellsAt.one h' hn' hc').cons h hn hc
theorem small_max {n : Nat} (h : n ≤ 1000) : n ≤ maxLen := by unfold maxLen; omega

set_option maxRecDepth 100000 in
set_option maxHeartbeats 600000 in
theorem awake_any (w : World) : Calls Try.prog 9 #[] w fun e W' => e = .returned (.bool true) ∧ Below w.heap.size w W' := by
  go_enter Try.func9, Try.ntmps9
  go_wp2_with fail
  have hr : Rd (w.alloc (.cells #[.int .u8 0, .int .u8 1, .int .u8 242, .int .u8 3, .int .u8 244, .int .u8 245, .int .u8 246, .int .u8 247] 5)) (w.heap.size + 1) (some ⟨w.heap.size, 0, none⟩) 8 aw8 := Rd.laid w aw8 8 rfl
  have hz1 : (w.alloc (.cells #[.int .u8 0, .int .u8 1, .int .u8 242, .int .u8 3, .int .u8 244, .int .u8 245, .int .u8 246, .int .u8 247] 5)).heap.size = w.heap.size + 1 := by simp
  have hb1 : Below w.heap.size w (w.alloc (.cells #[.int .u8 0, .int .u8 1, .int .u8 242, .int .u8 3, .int .u8 244, .int .u8 245, .int .u8 246, .int .u8 247] 5)) := (Below.refl _ w).alloc (Nat.le_refl _) _
  generalize w.alloc (.cells #[.int .u8 0, .int .u8 1, .int .u8 242, .int .u8 3, .int .u8 244, .int .u8 245, .int .u8 246, .int .u8 247] 5) = w1 at hr hz1 hb1 ⊢
  rw [← hz1] at hr
  have z0 : w.heap.size ≤ w1.heap.size := by omega
  have q1 := sum_row w1 _ _ (CellsAt.one hr (c := 8) (by omega) (small_max (by omega))) 1 1 rfl (by omega) (by decide) 8717 aw_ck 1
  have hr2 := (hr.alloc (Nat.le_refl _) (.cells #[.slice (some ⟨w.heap.size, 0, none⟩) 8 8] 22)).more (B' := (w1.alloc (.cells #[.slice (some ⟨w.heap.size, 0, none⟩) 8 8] 22)).heap.size) (by simp)
  have b2 := hb1.alloc z0 (.cells #[.slice (some ⟨w.heap.size, 0, none⟩) 8 8] 22)
  have q2 := sum_row (w1.alloc (.cells #[.slice (some ⟨w.heap.size, 0, none⟩) 8 8] 22)) _ _ (CellsAt.two (hr2.at0 (l := 0) (m := 3) (by omega)) (c := 8) (by omega) (small_max (by omega)) (hr2.at0 (l := 3) (m := 5) (by omega)) (c' := 5) (by omega) (small_max (by omega))) 2 2 rfl (by omega) (by decide) 8717 aw_ck 1
  have hr3 := (hr2.alloc (Nat.le_refl _) (.cells #[.slice (some ⟨w.heap.size, 0, none⟩) 3 8, .slice (some ⟨w.heap.size, 3, none⟩) 5 5] 22)).more (B' := ((w1.alloc (.cells #[.slice (some ⟨w.heap.size, 0, none⟩) 8 8] 22)).alloc (.cells #[.slice (some ⟨w.heap.size, 0, none⟩) 3 8, .slice (some ⟨w.heap.size, 3, none⟩) 5 5] 22)).heap.size) (by simp)
  have b3 := b2.alloc b2.size (.cells #[.slice (some ⟨w.heap.size, 0, none⟩) 3 8, .slice (some ⟨w.heap.size, 3, none⟩) 5 5] 22)
  have he := Rd.laid ((w1.alloc (.cells #[.slice (some ⟨w.heap.size, 0, none⟩) 8 8] 22)).alloc (.cells #[.slice (some ⟨w.heap.size, 0, none⟩) 3 8, .slice (some ⟨w.heap.size, 3, none⟩) 5 5] 22)) [34, 13] 2 rfl
  have hr3b := (hr3.alloc (Nat.le_refl _) (.cells #[.int .u8 34, .int .u8 13] 5)).more (B' := (((w1.alloc (.cells #[.slice (some ⟨w.heap.size, 0, none⟩) 8 8] 22)).alloc (.cells #[.slice (some ⟨w.heap.size, 0, none⟩) 3 8, .slice (some ⟨w.heap.size, 3, none⟩) 5 5] 22)).alloc (.cells #[.int .u8 34, .int .u8 13] 5)).heap.size) (by simp)
  have b3b := b3.alloc b3.size (.cells #[.int .u8 34, .int .u8 13] 5)
  simp only [World.size_alloc, hz1] at he
  have q3 := right_row (((w1.alloc (.cells #[.slice (some ⟨w.heap.size, 0, none⟩) 8 8] 22)).alloc (.cells #[.slice (some ⟨w.heap.size, 0, none⟩) 3 8, .slice (some ⟨w.heap.size, 3, none⟩) 5 5] 22)).alloc (.cells #[.int .u8 34, .int .u8 13] 5)) _ _ (CellsAt.two hr3b (c := 8) (by omega) (small_max (by omega)) (he.more (B' := (((w1.alloc (.cells #[.slice (some ⟨w.heap.size, 0, none⟩) 8 8] 22)).alloc (.cells #[.slice (some ⟨w.heap.size, 0, none⟩) 3 8, .slice (some ⟨w.heap.size, 3, none⟩) 5 5] 22)).alloc (.cells #[.int .u8 34, .int .u8 13] 5)).heap.size) (by simp [hz1])) (c' := 2) (by omega) (small_max (by omega))) 2 2 rfl (by omega) (by decide) aw_ck2 1
  have hr4 := (hr3b.alloc (Nat.le_refl _) (.cells #[.slice (some ⟨w.heap.size, 0, none⟩) 8 8, .slice (some ⟨w.heap.size + 1 + 1 + 1, 0, none⟩) 2 2] 22)).more (B' := ((((w1.alloc (.cells #[.slice (some ⟨w.heap.size, 0, none⟩) 8 8] 22)).alloc (.cells #[.slice (some ⟨w.heap.size, 0, none⟩) 3 8, .slice (some ⟨w.heap.size, 3, none⟩) 5 5] 22)).alloc (.cells #[.int .u8 34, .int .u8 13] 5)).alloc (.cells #[.slice (some ⟨w.heap.size, 0, none⟩) 8 8, .slice (some ⟨w.heap.size + 1 + 1 + 1, 0, none⟩) 2 2] 22)).heap.size) (by simp)
  have b4 := b3b.alloc b3b.size (.cells #[.slice (some ⟨w.heap.size, 0, none⟩) 8 8, .slice (some ⟨w.heap.size + 1 + 1 + 1, 0, none⟩) 2 2] 22)
  have q4 := wrong_row ((((w1.alloc (.cells #[.slice (some ⟨w.heap.size, 0, none⟩) 8 8] 22)).alloc (.cells #[.slice (some ⟨w.heap.size, 0, none⟩) 3 8, .slice (some ⟨w.heap.size, 3, none⟩) 5 5] 22)).alloc (.cells #[.int .u8 34, .int .u8 13] 5)).alloc (.cells #[.slice (some ⟨w.heap.size, 0, none⟩) 8 8, .slice (some ⟨w.heap.size + 1 + 1 + 1, 0, none⟩) 2 2] 22)) _ _ (CellsAt.one hr4 (c := 8) (by omega) (small_max (by omega))) 1 1 rfl (by omega) (by decide) (by rw [show ([aw8] : List (List UInt8)).flatten = aw8 from rfl, aw_ck]; omega) 1
  have b5 := (b4.alloc b4.size (.cells #[.slice (some ⟨w.heap.size, 0, none⟩) 8 8] 22)).drew
  have q5 := sum_any none 0 0 [] (by omega) (by decide) ((((((w1.alloc (.cells #[.slice (some ⟨w.heap.size, 0, none⟩) 8 8] 22)).alloc (.cells #[.slice (some ⟨w.heap.size, 0, none⟩) 3 8, .slice (some ⟨w.heap.size, 3, none⟩) 5 5] 22)).alloc (.cells #[.int .u8 34, .int .u8 13] 5)).alloc (.cells #[.slice (some ⟨w.heap.size, 0, none⟩) 8 8, .slice (some ⟨w.heap.size + 1 + 1 + 1, 0, none⟩) 2 2] 22)).alloc (.cells #[.slice (some ⟨w.heap.size, 0, none⟩) 8 8] 22)).drewN 1) (B := 0) (LsAt.nil_ _)
  rw [show ckOf ([] : List (List UInt8)).flatten = 65535 from aw_nil] at q5
  have q6 := change_any 8717 1 1 (by omega) (by omega) (by omega) ((((((w1.alloc (.cells #[.slice (some ⟨w.heap.size, 0, none⟩) 8 8] 22)).alloc (.cells #[.slice (some ⟨w.heap.size, 0, none⟩) 3 8, .slice (some ⟨w.heap.size, 3, none⟩) 5 5] 22)).alloc (.cells #[.int .u8 34, .int .u8 13] 5)).alloc (.cells #[.slice (some ⟨w.heap.size, 0, none⟩) 8 8, .slice (some ⟨w.heap.size + 1 + 1 + 1, 0, none⟩) 2 2] 22)).alloc (.cells #[.slice (some ⟨w.heap.size, 0, none⟩) 8 8] 22)).drewN 1)
  rw [aw_chg] at q6
  have q7 := pseudo_four (List.replicate 16 0) (List.replicate 16 0) rfl rfl 6 258 (by omega) (by omega) ((((((w1.alloc (.cells #[.slice (some ⟨w.heap.size, 0, none⟩) 8 8] 22)).alloc (.cells #[.slice (some ⟨w.heap.size, 0, none⟩) 3 8, .slice (some ⟨w.heap.size, 3, none⟩) 5 5] 22)).alloc (.cells #[.int .u8 34, .int .u8 13] 5)).alloc (.cells #[.slice (some ⟨w.heap.size, 0, none⟩) 8 8, .slice (some ⟨w.heap.size + 1 + 1 + 1, 0, none⟩) 2 2] 22)).alloc (.cells #[.slice (some ⟨w.heap.size, 0, none⟩) 8 8] 22)).drewN 1)
  rw [← aw_zero] at q7
  simp only [drewN_one, World.size_alloc, hz1] at q1 q2 q3 q4 q5 q6 q7
  rw [show ((8717 : Nat) : Int) = 8717 from rfl] at q1 q2 q6
  rw [show ((65535 : Nat) : Int) = 65535 from rfl] at q5
  rw [show ((1 : Nat) : Int) = 1 from rfl] at q6
  rw [show ((6 : Nat) : Int) = 6 from rfl, show ((258 : Nat) : Int) = 258 from rfl] at q7
  have hs1 : ∀ W : World, (Instr.slice 22 (.slice (some ⟨w.heap.size, 0, none⟩) 8 8) none (some (.int .i64 3)) none).run Try.prog W = .ok (.slice (some ⟨w.heap.size, 0, none⟩) 3 8) W := fun W => by
    exact run_upto8 (some ⟨w.heap.size, 0, none⟩) 8 8 3 3 rfl (by omega) W
  have hs2 : ∀ W : World, (Instr.slice 22 (.slice (some ⟨w.heap.size, 0, none⟩) 8 8) (some (.int .i64 3)) none none).run Try.prog W = .ok (.slice (some ⟨w.heap.size, 3, none⟩) 5 5) W := fun W => by
    have := run_from8 (some ⟨w.heap.size, 0, none⟩) 8 8 3 (by omega) W
    simpa [cutA, add_plain] using this
  have Q1 := Lib.hid q1
  have Q2 := Lib.hid q2
  have Q3 := Lib.hid q3
  have Q4 := Lib.hid q4
  have Q5 := Lib.hid q5
  have Q6 := Lib.hid q6
  have Q7 := Lib.hid q7
  have HB := Lib.hid b5
  clear q1 q2 q3 q4 q5 q6 q7 b5 b4 b3b b3 b2 hr hr2 hr3 hr3b he hr4 hb1 z0
  go_region_held3 (fun _ => True) (trivial) (first
    | (go_at_call 10; (with_reducible refine Q1.out.mono ?_); rintro e W' ⟨rfl, rfl⟩)
    | (go_at_call 10; (with_reducible refine Q2.out.mono ?_); rintro e W' ⟨rfl, rfl⟩)
    | (go_at_call 10; (with_reducible refine Q5.out.mono ?_); rintro e W' ⟨rfl, rfl⟩)
    | (go_at_call 12; (with_reducible refine Q3.out.mono ?_); rintro e W' ⟨rfl, rfl⟩)
    | (go_at_call 12; (with_reducible refine Q4.out.mono ?_); rintro e W' ⟨rfl, rfl⟩)
    | (go_at_call 13; (with_reducible refine Q6.out.mono ?_); rintro e W' ⟨rfl, rfl⟩)
    | (go_at_call 17; (with_reducible refine Q7.out.mono ?_); rintro e W' ⟨v, rfl, ho, hB⟩; obtain ⟨A9, c9, rfl, _, _, _⟩ := ho.form (n := 12) rfl))
  go_wp2_with fail
  go_ret
  exact ⟨rfl, HB.out.trans (hB.mono HB.out.size)⟩
end Go.Proofs.Ytdfjdkbnbiglnaa
