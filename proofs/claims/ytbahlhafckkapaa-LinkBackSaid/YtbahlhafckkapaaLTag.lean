/-
  The contracts of link.isWrong, slices.IndexFunc and slices.ContainsFunc on tags, link.mayBe; the document's Right.
-/
import Derived.Test.YtbahlhafckkapaaLSmall
namespace Go.Proofs.Ytbahlhafckkapaa
open Go.RowKit Go.Lib

theorem ret_bool {a b : Bool} (h : a = b) : Ending.returned (.bool a) = .returned (.bool b) := by rw [h]

set_option maxHeartbeats 1000000 in
theorem wrong_any (x : Tg) (w : World) : Calls Try.prog 27 #[.agg #[.int .i64 x.t, .int .i64 x.c]] w fun e w' => e = .returned (.bool (!tgOk x)) ∧ Below w.heap.size w w' := by
  obtain ⟨t, c⟩ := x
  have HT := Lib.hid (fun W => istag_any t W)
  have HF := Lib.hid (fun W => fits_any c W)
  unfold tgOk
  by_cases ht : isTg t = true
  · rw [ht] at HT
    simp only [ht, Bool.true_and]
    obtain ⟨f, hf⟩ : ∃ f, fitsB c = f := ⟨_, rfl⟩
    rw [hf] at HF ⊢
    clear hf ht
    go_enter Try.func27, Try.ntmps27
    go_wp2_with (first
      | (go_at_call 20; refine (HT.out _).mono ?_; rintro e w5 ⟨rfl, rfl⟩)
      | (go_at_call 28; refine (HF.out _).mono ?_; rintro e w5 ⟨rfl, rfl⟩))
    go_ret
    exact ⟨rfl, (Below.refl _ _).alloc (Nat.le_refl _) _⟩
  · have ht : isTg t = false := by simpa using ht
    rw [ht] at HT
    simp only [ht, Bool.false_and, Bool.not_false]
    clear ht
    go_enter Try.func27, Try.ntmps27
    go_wp2_with (first
      | (go_at_call 20; refine (HT.out _).mono ?_; rintro e w5 ⟨rfl, rfl⟩)
      | (go_at_call 28; refine (HF.out _).mono ?_; rintro e w5 ⟨rfl, rfl⟩))
    go_ret
    exact ⟨rfl, (Below.refl _ _).alloc (Nat.le_refl _) _⟩

/-- The place of the first tag that may not be, or -1. -/
def idxOf : List Tg → Nat → Int
  | [], _ => -1
  | x :: ts, k => if tgOk x = true then idxOf ts (k + 1) else (k : Int)
theorem idx_neg : ∀ (ts : List Tg) (k : Nat), (idxOf ts k < 0) = (ts.all tgOk = true)
  | [], k => by simp [idxOf]
  | x :: ts, k => by
    unfold idxOf
    by_cases h : tgOk x = true
    · rw [if_pos h, idx_neg ts (k + 1), List.all_cons, h, Bool.true_and]
    · rw [if_neg h, List.all_cons]
      have : tgOk x = false := by simpa using h
      rw [this]
      simp only [Bool.false_and, Bool.false_eq_true, eq_iff_iff, iff_false]
      omega
set_option maxRecDepth 100000 in
set_option maxHeartbeats 1000000 in
theorem index_any {A : Option Addr} {len : Nat} {ts : List Tg} (cap : Nat) (hlen : len ≤ 1000000) {w : World} (hT : TagsAt w w.heap.size A len ts) :
    Calls Try.prog 32 #[.slice A len cap, .func (.func 27) #[] #[]] w fun e w' => e = .returned (.int .i64 (idxOf ts 0)) ∧ Below w.heap.size w w' := by
  have HL := Lib.hid hT.size
  go_enter Try.func32, Try.ntmps32
  go_wp2_with fail
  go_loopw [8] (fun i wr => ∃ k : Nat, k ≤ len ∧ i = .int .i64 (k : Int) ∧ idxOf (ts.drop k) k = idxOf ts 0 ∧ Below w.heap.size w wr) (fun i _ => len - (intOf i).toNat)
  case atStart => exact ⟨0, by omega, rfl, by rw [List.drop_zero], Below.refl _ _⟩
  case round =>
    obtain ⟨k, hk, rfl, hi, B⟩ := hrel
    have HI := Lib.hid hi
    clear hi
    by_cases hlt : k < len
    · have hlt' : (k : Int) < (len : Int) := by omega
      obtain ⟨b, off, rfl, _⟩ := hT.addr (by omega)
      obtain ⟨x, hx⟩ : ∃ x, ts[k]? = some x := ⟨_, List.getElem?_eq_getElem (by rw [HL.out]; exact hlt)⟩
      obtain ⟨c1, c2⟩ := (hT.below B).cell hx
      have hd : ts.drop k = x :: ts.drop (k + 1) := by
        obtain ⟨h1, h2⟩ := List.getElem?_eq_some_iff.1 hx
        rw [← h2]; exact List.drop_eq_getElem_cons h1
      have HD := Lib.hid hd
      have HW := Lib.hid (fun W => wrong_any x W)
      clear hd hx
      by_cases ho : tgOk x = true
      · rw [ho] at HW
        have HO := Lib.hid ho
        clear ho
        go_wp2_with fail
        refine (HW.out _).mono ?_
        rintro e w1 ⟨rfl, hb1⟩
        have B1 := B.trans (hb1.mono B.size)
        go_wp2_with fail
        go_roundw
        case rel => exact ⟨k + 1, by omega, by go_num, by rw [← HI.out, HD.out, idxOf, if_pos HO.out], B1⟩
        case measure => simp [intOf]; omega
      · have ho : tgOk x = false := by simpa using ho
        rw [ho] at HW
        have HO := Lib.hid ho
        clear ho
        go_wp2_with fail
        refine (HW.out _).mono ?_
        rintro e w1 ⟨rfl, hb1⟩
        have B1 := B.trans (hb1.mono B.size)
        go_wp2_with fail
        go_ret
        exact ⟨by rw [← HI.out, HD.out, idxOf, if_neg (by rw [HO.out]; decide)]; rfl, B1⟩
    · obtain rfl : k = len := by omega
      have hn : ts.drop k = [] := List.drop_eq_nil_of_le (by rw [HL.out]; exact Nat.le_refl _)
      have HN := Lib.hid hn
      clear hn
      go_wp2_with fail
      go_ret
      exact ⟨by rw [← HI.out, HN.out]; rfl, B⟩

set_option maxHeartbeats 1000000 in
theorem contains_any {A : Option Addr} {len : Nat} {ts : List Tg} (cap : Nat) (hlen : len ≤ 1000000) {w : World} (hT : TagsAt w w.heap.size A len ts) (r : Bool) (hr : ts.all tgOk = r) :
    Calls Try.prog 26 #[.slice A len cap, .func (.func 27) #[] #[]] w fun e w' => e = .returned (.bool (!r)) ∧ Below w.heap.size w w' := by
  have HI := Lib.hid (index_any cap hlen hT)
  have hneg := idx_neg ts 0
  rw [hr] at hneg
  obtain ⟨z, hz⟩ : ∃ z, idxOf ts 0 = z := ⟨_, rfl⟩
  rw [hz] at HI hneg
  clear hz hr
  cases r
  · have h0 : 0 ≤ z := by simpa using hneg
    clear hneg
    go_enter Try.func26, Try.ntmps26
    go_wp2_with fail
    refine (HI.out).mono ?_
    rintro e w1 ⟨rfl, hb1⟩
    go_wp2_with fail
    go_ret
    exact ⟨rfl, hb1⟩
  · have h0 : z < 0 := by simpa using hneg
    have h1 : decide (0 ≤ z) = false := decide_eq_false (by omega)
    clear hneg
    go_enter Try.func26, Try.ntmps26
    go_wp2_with fail
    refine (HI.out).mono ?_
    rintro e w1 ⟨rfl, hb1⟩
    go_wp2_with fail
    go_ret
    exact ⟨rfl, hb1⟩

set_option maxRecDepth 100000 in
set_option maxHeartbeats 1000000 in
theorem maybe_any (L : Lk) (h6 : L.Six) {A : Option Addr} {n : Nat} (cap : Nat) (hn : n ≤ 1000000) {w : World} (hT : TagsAt w w.heap.size A n L.ts) :
    Calls Try.prog 23 #[lkC L (.slice A n cap)] w fun e w' => e = .returned (.bool (rightB L)) ∧ Below w.heap.size w w' := by
  have k12 := lkL_tags h6 (.slice A n cap)
  have k13 := lkL_ty h6 (.slice A n cap)
  have hB1 := (Below.refl w.heap.size w).alloc (Nat.le_refl _) (.cells (lkL L (.slice A n cap)).toArray 27)
  have hb1 := Blk.new w 27 (lkL L (.slice A n cap))
  have hlen := hT.size
  obtain ⟨r, hr⟩ : ∃ r, L.ts.all tgOk = r := ⟨_, rfl⟩
  have hT1 := (hT.below hB1).more hB1.size
  have HC := Lib.hid (contains_any cap hn hT1 r hr)
  have HF := Lib.hid (fun W => fits_any L.ty W)
  have HI := Lib.hid (fun W => istag_any L.ty W)
  have hres : rightB L = (decide (n ≤ 2) && (r && (fitsB L.ty && !isTg L.ty))) := by unfold rightB; rw [hr, hlen]
  rw [hres]
  obtain ⟨f, hf⟩ : ∃ f, fitsB L.ty = f := ⟨_, rfl⟩
  obtain ⟨g, hg⟩ : ∃ g, isTg L.ty = g := ⟨_, rfl⟩
  rw [hf] at HF ⊢
  rw [hg] at HI ⊢
  generalize L.ty = ty at *
  unfold lkC
  generalize lkL L (.slice A n cap) = C at *
  have c12 := hb1.cell k12
  have c13 := hb1.cell k13
  have HB := Lib.hid hB1
  have HBB := Lib.hid hb1
  clear hf hg hr hres hlen hT hT1 hB1 hb1
  by_cases h2 : n ≤ 2
  · have h2' : (n : Int) ≤ 2 := by omega
    have e2 : decide (n ≤ 2) = true := decide_eq_true h2
    rw [e2, Bool.true_and]
    clear e2
    cases r
    · rw [Bool.false_and]
      go_enter Try.func23, Try.ntmps23
      go_wp2_with fail
      refine HC.out.mono ?_
      rintro e w2 ⟨rfl, hb2⟩
      go_wp2_with fail
      go_ret
      exact ⟨rfl, HB.out.trans (hb2.mono HB.out.size)⟩
    · rw [Bool.true_and]
      cases f
      · rw [Bool.false_and]
        go_enter Try.func23, Try.ntmps23
        go_wp2_with fail
        refine HC.out.mono ?_
        rintro e w2 ⟨rfl, hb2⟩
        have d13 := (HBB.out.below (by simp) hb2).cell k13
        go_wp2_with (go_at_call 28; refine (HF.out _).mono ?_; rintro e w5 ⟨rfl, rfl⟩)
        go_ret
        exact ⟨rfl, HB.out.trans (hb2.mono HB.out.size)⟩
      · rw [Bool.true_and]
        go_enter Try.func23, Try.ntmps23
        go_wp2_with fail
        refine HC.out.mono ?_
        rintro e w2 ⟨rfl, hb2⟩
        have d13 := (HBB.out.below (by simp) hb2).cell k13
        go_wp2_with (first
          | (go_at_call 28; refine (HF.out _).mono ?_; rintro e w5 ⟨rfl, rfl⟩)
          | (go_at_call 20; refine (HI.out _).mono ?_; rintro e w5 ⟨rfl, rfl⟩))
        go_ret
        exact ⟨rfl, HB.out.trans (hb2.mono HB.out.size)⟩
  · have e2 : decide (n ≤ 2) = false := decide_eq_false h2
    have h2' : ¬ (n : Int) ≤ 2 := by omega
    rw [e2, Bool.false_and]
    go_enter Try.func23, Try.ntmps23
    go_wp2_with fail
    go_ret
    exact ⟨rfl, HB.out⟩
end Go.Proofs.Ytbahlhafckkapaa
