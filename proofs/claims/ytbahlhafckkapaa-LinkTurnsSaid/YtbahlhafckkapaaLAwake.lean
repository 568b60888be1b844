/-
  The contract of wayleavelaw07.awake.
-/
import Derived.Test.YtbahlhafckkapaaLRead
import Derived.Test.YtbahlhafckkapaaLPut
import Derived.Test.YtbahlhafckkapaaLTurn
import Derived.Test.YtbahlhafckkapaaLSame
namespace Go.Proofs.Ytbahlhafckkapaa
open Go.RowKit Go.Lib

theorem run_upto8 (A : Option Addr) (len cap h : Nat) (H : Int) (hH : H = (h : Int)) (h2 : h ≤ cap) (W : World) :
    (Instr.slice 22 (.slice A len cap) none (some (.int .i64 H)) none).run Try.prog W = .ok (.slice A h cap) W := by
  subst hH
  obtain ⟨i0, hi, hz0, hz1, hz2⟩ := info_parts info8
  have hc := run_sliceBound (P := Try.prog) (w := W) .i64 (h : Int) cap .sliceAcap (by omega) (by omega)
  cases A <;> simp [Instr.slice, hc, run_underlying Try.underlying22, Instr.sliceBounds, sizeOf, typeInfo, hi, Addr.add] <;> (try split) <;> simp_all
theorem Own8.form {w : World} {base : Nat} {v : Value} {xs : List UInt8} (h : Own8 w base v xs) {n : Nat} (hn : xs.length = n) : ∃ A c, v = .slice A n c ∧ n ≤ c ∧ c ≤ maxLen ∧ Rd w w.heap.size A n xs := by
  subst hn
  obtain ⟨A, c, e, h1, h2, h3, _⟩ := h.rd
  exact ⟨A, c, e, h1, h2, h3⟩
theorem empty8 {base : Nat} (w : World) (h : base ≤ w.heap.size) : Own8 (w.alloc (.cells #[] 5)) base (.slice (some ⟨w.heap.size, 0, none⟩) 0 0) [] := by
  have h := Row8.own (w := w.alloc (.cells #[] 5)) (g := w.heap.size) (xs := []) (heap_alloc_new w _) (base := base) (n := 0) h (Nat.zero_le _) (by simp)
  simpa using h

/-- link.Read, of bytes whose reading is known. -/
theorem read_as {A : Option Addr} {len cap : Nat} {xs : List UInt8} {L : Lk} {k : Nat} (hr : rdOf xs = (L, k)) (z : Int) (hz : (k : Int) = z) (hlen : len ≤ 1000000) (hcap : len ≤ cap) (hcap2 : cap ≤ maxLen) {w : World} (hI : Rd w w.heap.size A len xs) :
    Calls Try.prog 10 #[.slice A len cap] w fun e w' => ∃ B m c, e = .returned (.tuple #[lkC L (.slice B m c), .int .i64 z]) ∧ m = L.ts.length ∧ m ≤ c ∧ TagsAt w' w'.heap.size B m L.ts ∧ (0 < m → ∃ g, B = some ⟨g, 0, none⟩ ∧ w.heap.size ≤ g) ∧ Below w.heap.size w w' := by
  subst hz
  refine (read_any A len cap xs hlen hcap hcap2 w hI).mono fun e w' ⟨tv, he, ho, hb⟩ => ?_
  rw [hr] at he ho
  obtain ⟨B, m, c, rfl, h1, h2, _, h4, h5⟩ := ho.sl
  exact ⟨B, m, c, he, h1, h2, h4, h5, hb⟩

/-- A header is stored into a cell that was just laid. -/
theorem wpList_storeNew {w : World} {ops : Array Oper} {rest : List Oper} {op : Oper} {a : Act} {Q : Exit → Act → World → Prop} (hgd : op.guard = none) (x y : Operand) (ho : op.op = .store 27 x y)
    (hx : a.eval x = .pointer (some ⟨w.heap.size, 0, none⟩)) (L : Lk) (h6 : L.Six) (tv : Value) (h1 : tv.oneCell' = true) (hy : a.eval y = lkC L tv)
    (h : ∀ w', Blk w' 27 w.heap.size (lkL L tv) → Below w.heap.size w w' → w'.heap.size = w.heap.size + 1 → wpList Try.prog ops Q rest (a.put op.dst undef) w') :
    wpList Try.prog ops Q (op :: rest) a (w.alloc (.cells #[.int .u8 0, .int .u8 0, .int .u8 0, .int .u8 0, .int .u8 0, .int .u8 0, .int .u8 0, .int .u8 0, .int .u8 0, .int .u8 0, .int .u8 0, .int .u8 0, .slice none 0 0, .int .i64 0, .int .i64 0] 27)) := by
  rw [zeroC]
  have hb := Blk.new w 27 (lkL Lk.zero (.slice none 0 0))
  refine wpList_storeR hgd 27 x y ho w.heap.size hx (lkL L tv) hy _ hb (by rw [lkL_len Lk.six_zero, lkL_len h6]) (sizeLkL h6 tv) (lkL_one _ _ h1) ?_
  refine h _ (hb.setRow_ _) (below_setRow ((Below.refl _ _).alloc (Nat.le_refl _) _) (Nat.le_refl _) _) ?_
  rw [World.setRow]; simp

/-- The header that awake lays. -/
def LA : Lk := ⟨[1, 0, 0, 0, 0, 0], [2, 0, 0, 0, 0, 0], [⟨33024, 258⟩], 2048, 0⟩
def LA1 : Lk := ⟨[1, 0, 0, 0, 0, 0], [2, 0, 0, 0, 0, 0], [⟨33024, 258⟩], 2048, 18⟩
/-- One that may not be. -/
def LB : Lk := ⟨zeros6, zeros6, [], 33024, 0⟩
theorem la6 : LA.Six := ⟨rfl, rfl⟩
theorem la16 : LA1.Six := ⟨rfl, rfl⟩
theorem lb6 : LB.Six := ⟨rfl, rfl⟩
theorem la_right : rightB LA = true := by decide
theorem lb_right : rightB LB = false := by decide
theorem la_len : (lkB LA).length = 18 := rfl
theorem la_back : rdOf (lkB LA ++ [9]) = (LA1, 0) := rdOf_back la6 la_right [9]
theorem la_cut : rdOf ((lkB LA).take 17) = (Lk.zero, 2) := rdOf_cut la6 la_right 17 (by decide)
theorem la_turn : (turnOf (lkB LA) [2, 0, 0, 0, 0, 0] [1, 0, 0, 0, 0, 0]).take 1 = [2] := by decide
/-- A header is stored into a block of one: the world behind. -/
theorem store_lk {w : World} {g : Nat} {cs ds : List Value} {T : TypeId} (_h : Blk w T g cs) {B : Nat} {w0 : World} (hb : Below B w0 w) (hg : B ≤ g) : Below B w0 (w.setRow g ds.toArray) := below_setRow hb hg _

set_option maxRecDepth 100000 in
set_option maxHeartbeats 4000000 in
theorem awake_any (w : World) : Calls Try.prog 9 #[] w fun e w' => e = .returned (.bool true) ∧ Below w.heap.size w w' := by
  have eA : ∀ tv, (.agg #[.int .u8 1, .int .u8 0, .int .u8 0, .int .u8 0, .int .u8 0, .int .u8 0, .int .u8 2, .int .u8 0, .int .u8 0, .int .u8 0, .int .u8 0, .int .u8 0, tv, .int .i64 2048, .int .i64 0] : Value) = .agg (lkL LA tv).toArray := fun _ => rfl
  have EA := Lib.hid eA
  obtain ⟨Z, hZ⟩ : ∃ Z : World, (w.alloc (.cells #[.int .i64 33024, .int .i64 258] 45)).alloc (.cells (lkL Lk.zero (.slice none 0 0)).toArray 27) = Z := ⟨_, rfl⟩
  have b1 : Blk Z 27 (w.heap.size + 1) (lkL Lk.zero (.slice none 0 0)) := by
    rw [← hZ]
    have := Blk.new (w.alloc (.cells #[.int .i64 33024, .int .i64 258] 45)) 27 (lkL Lk.zero (.slice none 0 0))
    simpa using this
  have t1 : TagsAt Z (w.heap.size + 1) (some ⟨w.heap.size, 0, none⟩) 1 LA.ts := by
    rw [← hZ]
    have h0 := (Blk.new w 45 [.int .i64 33024, .int .i64 258]).alloc (.cells (lkL Lk.zero (.slice none 0 0)).toArray 27)
    refine ⟨rfl, fun _ => ⟨w.heap.size, 0, rfl, by omega, fun j x hx => ?_⟩⟩
    match j, hx with
    | 0, hx => cases hx; exact ⟨h0.cell (i := 0) rfl, h0.cell (i := 1) rfl⟩
  have hB0 : Below w.heap.size w Z := by
    rw [← hZ]; exact ((Below.refl w.heap.size w).alloc (Nat.le_refl _) _).alloc (by simp) _
  have hz : Z.heap.size = w.heap.size + 2 := by rw [← hZ]; simp
  rw [← zeroC] at hZ
  have HZZ := Lib.hid hZ
  have B1 := Lib.hid b1
  have HB0 := Lib.hid hB0
  have HZ := Lib.hid hz
  obtain ⟨W1, hW1⟩ : ∃ W1, Z.setRow (w.heap.size + 1) (lkL LA (.slice (some ⟨w.heap.size, 0, none⟩) 1 1)).toArray = W1 := ⟨_, rfl⟩
  have l1 : Blk W1 27 (w.heap.size + 1) (lkL LA (.slice (some ⟨w.heap.size, 0, none⟩) 1 1)) := by rw [← hW1]; exact b1.setRow_ _
  have t1' : TagsAt W1 (w.heap.size + 1) (some ⟨w.heap.size, 0, none⟩) 1 LA.ts := by
    rw [← hW1]; exact t1.below (below_setRow (Below.refl _ _) (Nat.le_refl _) _)
  have hB1 : Below w.heap.size w W1 := by rw [← hW1]; exact below_setRow hB0 (Nat.le_succ _) _
  have hz1 : w.heap.size + 2 ≤ W1.heap.size := by rw [← hW1, World.setRow]; simp [hz]
  have HP := Lib.hid (put_yes LA la6 1 (t1'.more (by omega)) la_right)
  have HW1 := Lib.hid hW1
  have L1 := Lib.hid l1
  have T1 := Lib.hid t1'
  have HB1 := Lib.hid hB1
  clear hZ b1 t1 t1' hB0 hz eA hW1 l1 hB1
  go_enter Try.func9, Try.ntmps9
  go_wp2_with (first
    | ((with_reducible show wpList _ _ _ _ _ _); rw [HZZ.out]; refine wpList_storeR rfl 27 _ _ rfl (w.heap.size + 1) (by rfl) (lkL LA (.slice (some ⟨w.heap.size, 0, none⟩) 1 1)) (EA.out _) _ B1.out (by rfl) (sizeLkL la6 _) (lkL_one _ _ rfl) ?_; rw [HW1.out])
    | ((with_reducible show wpList _ _ _ _ _ _); refine wpList_loadL rfl _ rfl (w.heap.size + 1) (by rfl) LA la6 (.slice (some ⟨w.heap.size, 0, none⟩) 1 1) L1.out ?_))
  refine HP.out.mono ?_
  rintro e w2 ⟨v2, rfl, ho2, hb2⟩
  have z2 := hb2.size
  have L2 := Lib.hid (L1.out.below (by omega) hb2)
  have T2 := Lib.hid (T1.out.below (hb2.mono (by omega)))
  have HB2 := Lib.hid (HB1.out.trans (hb2.mono HB1.out.size))
  obtain ⟨A2, c2, rfl, hc2, hm2, hr2⟩ := ho2.form la_len
  -- the bytes, and one behind
  have o0 := empty8 (base := w2.heap.size) w2 (Nat.le_refl _)
  have O0 := Lib.hid o0
  have HR2 := Lib.hid hr2
  clear o0 hr2 ho2 hb2
  go_wp2_with (first
    | (at_builtin; refine wpList_append8 (o := ⟨some 23, _, _, _, _, _⟩) rfl _ _ rfl w2.heap.size _ [] (by rfl) O0.out _ _ _ _ (lkB LA) (by rfl) (HR2.out.alloc (Nat.le_refl _) _) (by decide) (by simp) ?_; intro v3 w3 ho3 hg3 hob3; rw [List.nil_append] at ho3; have r9 : Rd (w3.alloc (.cells #[.int .u8 9] 5)) (w3.heap.size + 1) (some ⟨w3.heap.size, 0, none⟩) 1 [9] := Rd.one w3 9; have z3 := hg3.size)
    | (at_builtin; refine wpList_append8 (o := ⟨some 25, _, _, _, _, _⟩) rfl _ _ rfl w2.heap.size _ (lkB LA) (by rfl) (ho3.alloc _) _ _ _ _ [9] (by rfl) r9 (by decide) (by simp at z3 ⊢; omega) ?_; intro v4 w4 ho4 hg4 hob4; obtain ⟨A4, c4, rfl, hc4, hm4, hr4⟩ := ho4.form (n := 19) rfl))
  have e4 : Below w2.heap.size w2 w4 := ((((Below.refl _ w2).alloc (Nat.le_refl _) (.cells #[] 5)).grown hg3 (by simp) (fun g hg => by simp [Value.ownBlock] at hg; omega)).alloc (by simp at z3; omega) (.cells #[.int .u8 9] 5)).grown hg4 (by simp at z3 ⊢; omega) (fun g hg => ho3.lt g hg)
  have L4 := Lib.hid (L2.out.below (by omega) e4)
  have T4 := Lib.hid (T2.out.below (e4.mono (by omega)))
  have HB4 := Lib.hid (HB2.out.trans (e4.mono HB2.out.size))
  have HR4 := Lib.hid (HR2.out.below e4)
  have z4 : w2.heap.size ≤ w4.heap.size := e4.size
  clear hg3 hob3 ho3 r9 z3 hg4 hob4 ho4 e4
  refine (read_as (xs := lkB LA ++ [9]) la_back 0 rfl (by decide) hc4 hm4 hr4).mono ?_
  rintro e w5 ⟨B5, m5, c5, rfl, hm5, hmc5, ht5, hg5, hb5⟩
  obtain rfl : m5 = 1 := hm5
  obtain ⟨g5, rfl, hgl5⟩ := hg5 (by omega)
  have L5 := Lib.hid (L4.out.below (by omega) hb5)
  have HB5 := Lib.hid (HB4.out.trans (hb5.mono HB4.out.size))
  have HR5 := Lib.hid (HR4.out.below (hb5.mono z4))
  have HT5 := Lib.hid ht5
  have z5 := hb5.size
  have hs17 := run_upto8 A2 18 c2 17 17 rfl (by omega)
  clear ht5 hb5 hr4
  go_wp2_with ((with_reducible show wpList _ _ _ _ _ _); refine wpList_storeNew rfl _ _ rfl (by rfl) LA1 la16 (.slice (some ⟨g5, 0, none⟩) 1 c5) rfl (by rfl) ?_; intro w6 hM6 hb6 hz6)
  have L6 := Lib.hid (L5.out.below (by omega) hb6)
  have HB6 := Lib.hid (HB5.out.trans (hb6.mono HB5.out.size))
  have HR6 := Lib.hid (HR5.out.below (hb6.mono (by omega)))
  have HT6 := Lib.hid (HT5.out.below hb6)
  have HM6 := Lib.hid hM6
  have hr17 : Rd w6 w6.heap.size A2 17 ((lkB LA).take 17) := ((HR6.out).more (by omega)).take (by omega)
  clear hb6 hM6 hs17
  refine (read_as la_cut 2 rfl (by decide) (by omega) hm2 hr17).mono ?_
  rintro e w7 ⟨B7, m7, c7, rfl, hm7, hmc7, ht7, hg7, hb7⟩
  have L7 := Lib.hid (L6.out.below (by omega) hb7)
  have HB7 := Lib.hid (HB6.out.trans (hb7.mono HB6.out.size))
  have HR7 := Lib.hid (HR6.out.below (hb7.mono (by omega)))
  have HT7 := Lib.hid (HT6.out.below (hb7.mono (by omega)))
  have HM7 := Lib.hid (HM6.out.below (by omega) hb7)
  have z7 := hb7.size
  clear hr17 hb7 hm7 hmc7 ht7 hg7
  go_wp2_with ((with_reducible show wpList _ _ _ _ _ _); refine wpList_storeNew rfl _ _ rfl (by rfl) Lk.zero Lk.six_zero (.slice B7 m7 c7) rfl (by rfl) ?_; intro w8 _ hb8 hz8)
  have L8 := Lib.hid (L7.out.below (by omega) hb8)
  have HB8 := Lib.hid (HB7.out.trans (hb8.mono HB7.out.size))
  have HR8 := Lib.hid (HR7.out.below (hb8.mono (by omega)))
  have HT8 := Lib.hid (HT7.out.below (hb8.mono (by omega)))
  have HM8 := Lib.hid (HM7.out.below (by omega) hb8)
  have hp := put_no LB lb6 (A := none) (n := 0) 0 (by omega) (w := w8) (TagsAt.nil_ _) lb_right
  rw [show lkC LB (.slice none 0 0) = .agg #[.int .u8 0, .int .u8 0, .int .u8 0, .int .u8 0, .int .u8 0, .int .u8 0, .int .u8 0, .int .u8 0, .int .u8 0, .int .u8 0, .int .u8 0, .int .u8 0, .slice none 0 0, .int .i64 33024, .int .i64 0] from rfl] at hp
  clear hb8
  refine hp.mono ?_
  rintro e w9 ⟨rfl, hb9⟩
  clear hp
  have L9 := L8.out.below (by omega) hb9
  have HB9 := Lib.hid (HB8.out.trans (hb9.mono HB8.out.size))
  have R9 := HR8.out.below (hb9.mono (by omega))
  have T9 := HT8.out.below (hb9.mono (by omega))
  have M9 := HM8.out.below (by omega) hb9
  have hl9 : w2.heap.size ≤ w9.heap.size := by have := hb9.size; omega
  have k14 : w9.cell? ⟨w5.heap.size, 14, none⟩ = some (.int .i64 18) := M9.cell (lkL_at la16 _)
  have k13 : w9.cell? ⟨w5.heap.size, 13, none⟩ = some (.int .i64 2048) := M9.cell (lkL_ty la16 _)
  have k12 : w9.cell? ⟨w5.heap.size, 12, none⟩ = some (.slice (some ⟨g5, 0, none⟩) 1 c5) := M9.cell (lkL_tags la16 _)
  have kt : w9.cell? ⟨g5, 1, none⟩ = some (.int .i64 258) := (T9.cell (k := 0) (x := ⟨33024, 258⟩) rfl).2
  have k0 : w9.cell? ⟨w5.heap.size, 0, none⟩ = some (.int .u8 1) := M9.cell (i := 0) rfl
  have k1 : w9.cell? ⟨w5.heap.size, 1, none⟩ = some (.int .u8 0) := M9.cell (i := 1) rfl
  have k2 : w9.cell? ⟨w5.heap.size, 2, none⟩ = some (.int .u8 0) := M9.cell (i := 2) rfl
  have k3 : w9.cell? ⟨w5.heap.size, 3, none⟩ = some (.int .u8 0) := M9.cell (i := 3) rfl
  have k4 : w9.cell? ⟨w5.heap.size, 4, none⟩ = some (.int .u8 0) := M9.cell (i := 4) rfl
  have k5 : w9.cell? ⟨w5.heap.size, 5, none⟩ = some (.int .u8 0) := M9.cell (i := 5) rfl
  have p0 : w9.cell? ⟨w.heap.size + 1, 0, none⟩ = some (.int .u8 1) := L9.cell (i := 0) rfl
  have p1 : w9.cell? ⟨w.heap.size + 1, 1, none⟩ = some (.int .u8 0) := L9.cell (i := 1) rfl
  have p2 : w9.cell? ⟨w.heap.size + 1, 2, none⟩ = some (.int .u8 0) := L9.cell (i := 2) rfl
  have p3 : w9.cell? ⟨w.heap.size + 1, 3, none⟩ = some (.int .u8 0) := L9.cell (i := 3) rfl
  have p4 : w9.cell? ⟨w.heap.size + 1, 4, none⟩ = some (.int .u8 0) := L9.cell (i := 4) rfl
  have p5 : w9.cell? ⟨w.heap.size + 1, 5, none⟩ = some (.int .u8 0) := L9.cell (i := 5) rfl
  have p6 : w9.cell? ⟨w.heap.size + 1, 6, none⟩ = some (.int .u8 2) := L9.cell (i := 6) rfl
  have p7 : w9.cell? ⟨w.heap.size + 1, 7, none⟩ = some (.int .u8 0) := L9.cell (i := 7) rfl
  have p8 : w9.cell? ⟨w.heap.size + 1, 8, none⟩ = some (.int .u8 0) := L9.cell (i := 8) rfl
  have p9 : w9.cell? ⟨w.heap.size + 1, 9, none⟩ = some (.int .u8 0) := L9.cell (i := 9) rfl
  have p10 : w9.cell? ⟨w.heap.size + 1, 10, none⟩ = some (.int .u8 0) := L9.cell (i := 10) rfl
  have p11 : w9.cell? ⟨w.heap.size + 1, 11, none⟩ = some (.int .u8 0) := L9.cell (i := 11) rfl
  have n1 : ∀ W : World, (binOp .eql 24 (.agg #[.int .u8 1, .int .u8 0, .int .u8 0, .int .u8 0, .int .u8 0, .int .u8 0]) (.agg #[.int .u8 1, .int .u8 0, .int .u8 0, .int .u8 0, .int .u8 0, .int .u8 0])).run Try.prog W = .ok (.bool true) W := fun W => run_eql6 W (xs := [1, 0, 0, 0, 0, 0]) rfl
  have ht : ∀ W : World, Rd W W.heap.size A2 18 (lkB LA) → Calls Try.prog 17 #[.slice A2 18 c2, .agg #[.int .u8 2, .int .u8 0, .int .u8 0, .int .u8 0, .int .u8 0, .int .u8 0], .agg #[.int .u8 1, .int .u8 0, .int .u8 0, .int .u8 0, .int .u8 0, .int .u8 0]] W fun e W' => ∃ v, e = .returned v ∧ Own8 W' W.heap.size v (turnOf (lkB LA) [2, 0, 0, 0, 0, 0] [1, 0, 0, 0, 0, 0]) ∧ Below W.heap.size W W' :=
    fun W hW => turnlk_any A2 18 c2 (lkB LA) (by decide) [2, 0, 0, 0, 0, 0] [1, 0, 0, 0, 0, 0] rfl rfl W hW
  have HT := Lib.hid ht
  have HL9 := Lib.hid L9
  have HR9 := Lib.hid R9
  clear ht L9 R9 T9 M9 hb9
  go_wp2_with fail
  refine (HT.out _ (HR9.out.more (by omega))).mono ?_
  rintro e w10 ⟨v10, rfl, ho10, hb10⟩
  obtain ⟨A10, c10, rfl, _, _, _⟩ := ho10.form (n := 18) rfl
  have hbx : w.heap.size + 1 < w9.heap.size := by omega
  have q0 : w10.cell? ⟨w.heap.size + 1, 0, none⟩ = some (.int .u8 1) := (HL9.out.below hbx hb10).cell (i := 0) rfl
  have q1 : w10.cell? ⟨w.heap.size + 1, 1, none⟩ = some (.int .u8 0) := (HL9.out.below hbx hb10).cell (i := 1) rfl
  have q2 : w10.cell? ⟨w.heap.size + 1, 2, none⟩ = some (.int .u8 0) := (HL9.out.below hbx hb10).cell (i := 2) rfl
  have q3 : w10.cell? ⟨w.heap.size + 1, 3, none⟩ = some (.int .u8 0) := (HL9.out.below hbx hb10).cell (i := 3) rfl
  have q4 : w10.cell? ⟨w.heap.size + 1, 4, none⟩ = some (.int .u8 0) := (HL9.out.below hbx hb10).cell (i := 4) rfl
  have q5 : w10.cell? ⟨w.heap.size + 1, 5, none⟩ = some (.int .u8 0) := (HL9.out.below hbx hb10).cell (i := 5) rfl
  have q6 : w10.cell? ⟨w.heap.size + 1, 6, none⟩ = some (.int .u8 2) := (HL9.out.below hbx hb10).cell (i := 6) rfl
  have q7 : w10.cell? ⟨w.heap.size + 1, 7, none⟩ = some (.int .u8 0) := (HL9.out.below hbx hb10).cell (i := 7) rfl
  have q8 : w10.cell? ⟨w.heap.size + 1, 8, none⟩ = some (.int .u8 0) := (HL9.out.below hbx hb10).cell (i := 8) rfl
  have q9 : w10.cell? ⟨w.heap.size + 1, 9, none⟩ = some (.int .u8 0) := (HL9.out.below hbx hb10).cell (i := 9) rfl
  have q10 : w10.cell? ⟨w.heap.size + 1, 10, none⟩ = some (.int .u8 0) := (HL9.out.below hbx hb10).cell (i := 10) rfl
  have q11 : w10.cell? ⟨w.heap.size + 1, 11, none⟩ = some (.int .u8 0) := (HL9.out.below hbx hb10).cell (i := 11) rfl
  have HR10 := Lib.hid (HR9.out.below (hb10.mono hl9))
  have HB10 := Lib.hid (HB9.out.trans (hb10.mono HB9.out.size))
  have z10 := hb10.size
  clear ho10 hb10
  go_wp2_with fail
  refine (HT.out _ (HR10.out.more (by omega))).mono ?_
  rintro e w11 ⟨v11, rfl, ho11, hb11⟩
  obtain ⟨A11, c11, rfl, hc11, _, hr11⟩ := ho11.form (n := 18) rfl
  have hs1 := run_upto8 A11 18 c11 1 1 rfl (by omega)
  have hstr := run_str8 (hr11.take (k := 1) (by omega)) c11
  rw [la_turn] at hstr
  have HB11 := Lib.hid (HB10.out.trans (hb11.mono HB10.out.size))
  clear ho11 hb11 hr11 hc11
  go_wp2_with fail
  go_ret
  exact ⟨rfl, HB11.out⟩
end Go.Proofs.Ytbahlhafckkapaa
