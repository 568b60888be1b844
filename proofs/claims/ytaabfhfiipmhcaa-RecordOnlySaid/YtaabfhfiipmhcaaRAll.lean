/-
  The contract of record's All.
-/
import Derived.Test.YtaabfhfiipmhcaaRNext
import Derived.WalkMore
namespace Go.Proofs.Ytaabfhfiipmhcaa
open Go.RowKit Go.Lib

theorem OwnL.alloc {w : World} {base : Nat} {v : Value} {l : List (List UInt8)} (h : OwnL w base v l) (o : Obj) : OwnL (w.alloc o) base v l := h.below ((Below.refl _ w).alloc (Nat.le_refl _) o)
theorem own_apart {w w' : World} {base : Nat} {v u : Value} {l : List (List UInt8)} {xs : List UInt8} (h : OwnL w base v l) (hu : Own8 w' w.heap.size u xs) : u.ownBlock = none ∨ u.ownBlock ≠ v.ownBlock := by
  cases hb : u.ownBlock with
  | none => exact .inl rfl
  | some g => exact .inr (fun e => by have := hu.lt g hb; have := (h.lt g e.symm).2; omega)

/-- What All answers. -/
def AllGave (w : World) (r : AL) (e : Ending) (w' : World) : Prop :=
  ∃ v, e = .returned (.tuple #[v, .int .i64 (r.n : Int), .int .i64 (r.e : Int)]) ∧ OwnL w' w.heap.size v r.l ∧ Below w.heap.size w w'

/-- What was read, and what is to be read. -/
def AllAt (xs : List UInt8) (k : Nat) (pre : List (List UInt8)) : Prop :=
  allOf xs = ⟨pre ++ (allOf (xs.drop k)).l, k + (allOf (xs.drop k)).n, (allOf (xs.drop k)).e⟩
theorem AllAt.begin (xs : List UInt8) : AllAt xs 0 [] := by simp [AllAt]
theorem AllAt.more {xs : List UInt8} {k : Nat} {pre : List (List UInt8)} (h : AllAt xs k pre) (hk : k < xs.length) (he : (nextOf (xs.drop k)).e = 0) : AllAt xs (k + (nextOf (xs.drop k)).n) (pre ++ [(nextOf (xs.drop k)).body]) := by
  have h0 : xs.drop k ≠ [] := fun e => by have := congrArg List.length e; rw [List.length_drop, List.length_nil] at this; omega
  unfold AllAt at h ⊢
  rw [h, allOf_more h0 he, List.drop_drop]
  simp [Nat.add_assoc]
theorem AllAt.bad {xs : List UInt8} {k : Nat} {pre : List (List UInt8)} (h : AllAt xs k pre) (hk : k < xs.length) (he : (nextOf (xs.drop k)).e ≠ 0) : allOf xs = ⟨pre, k, (nextOf (xs.drop k)).e⟩ := by
  have h0 : xs.drop k ≠ [] := fun e => by have := congrArg List.length e; rw [List.length_drop, List.length_nil] at this; omega
  unfold AllAt at h
  rw [h, allOf_bad h0 he]
  simp
theorem AllAt.done {xs : List UInt8} {k : Nat} {pre : List (List UInt8)} (h : AllAt xs k pre) (hk : xs.length ≤ k) : allOf xs = ⟨pre, k, 0⟩ := by
  unfold AllAt at h
  rw [h, List.drop_of_length_le hk, allOf_nil]
  simp

set_option maxRecDepth 100000 in
set_option maxHeartbeats 2000000 in
/-- record.All -/
theorem all_any (A : Option Addr) (len cap : Nat) (xs : List UInt8) (hlen : len ≤ 100000) (hcap : len ≤ cap) (hcm : cap ≤ maxLen) (w : World) (hI : Rd w w.heap.size A len xs) :
    Calls Try.prog 18 #[.slice A len cap] w (AllGave w (allOf xs)) := by
  have HL := Lib.hid hI.len
  obtain ⟨R, hR⟩ : ∃ R, allOf xs = R := ⟨_, rfl⟩
  rw [hR]
  have HR := Lib.hid hR
  clear hR
  go_enter Try.func18, Try.ntmps18
  go_wp2_with fail
  go_step3
  go_wp2_with fail
  go_step3
  go_wp2_with fail
  go_loopw [5, 6, 7] (fun v i y wr => ∃ (k : Nat) (pre : List (List UInt8)), k ≤ len ∧ pre.length ≤ k ∧ i = .int .i64 (k : Int) ∧ y = .int .i64 0 ∧ OwnL wr w.heap.size v pre ∧ Below w.heap.size w wr ∧ AllAt xs k pre) (fun _ i _ _ => len - (intOf i).toNat)
  case atStart => exact ⟨0, [], Nat.zero_le _, Nat.le_refl _, rfl, rfl, OwnL.nil_ _ _, Below.refl _ _, AllAt.begin xs⟩
  case round =>
    obtain ⟨k, pre, hk, hpl, rfl, rfl, hown, hbel, hat⟩ := hrel
    have hsz := hbel.size
    by_cases hlt : k < len
    · have hlt' : (k : Int) < (len : Int) := by omega
      have hcut := run_from8 A len cap k hk
      have hr := ((hI.below hbel).more hsz).from hk cap hcap
      have hmore := hat.more (by rw [HL.out]; exact hlt)
      have hbad := hat.bad (by rw [HL.out]; exact hlt)
      have hok := next_ok (b := xs.drop k)
      have hnb := next_bad (b := xs.drop k)
      have hpos := next_pos (b := xs.drop k)
      have HV := Lib.hid (next_any (cutA A cap k) (len - k) (cap - k) (xs.drop k) (by omega) (by omega) (by omega) wr hr)
      obtain ⟨⟨body, n, e⟩, hx⟩ : ∃ x, nextOf (xs.drop k) = x := ⟨_, rfl⟩
      rw [hx] at HV hmore hbad hok hnb hpos
      simp only at hmore hbad hok hpos
      rw [List.length_drop, HL.out] at hok
      clear hx hr
      by_cases he : e = 0
      · subst he
        have hnl := (hok rfl).2.2.1
        have hp5 := hpos rfl
        have HM := Lib.hid (hmore rfl)
        clear hmore hbad hok hnb hpos hat
        go_wp2_with fail
        refine HV.out.mono ?_
        rintro e w1 ⟨v, rfl, ho, hb⟩
        have hap := own_apart hown ho
        have ho1 := ho.base_le hsz
        have hb1 := hbel.trans (hb.mono hsz)
        have how1 := hown.below hb
        obtain ⟨Av, mv, cv, rfl, hmv, hmc, hcv, _⟩ := ho.sl
        clear hmv hmc hcv ho hown
        have z1 := hb1.size
        have hp1 : pre.length ≤ 100000 := by omega
        go_wp2_with (at_builtin; refine wpList_appendL rfl _ _ rfl w.heap.size _ pre body (.slice Av mv cv) (by rfl) w1.heap.size (by rfl) (ho1.alloc _) hap (how1.alloc _) (by omega) (by simp; omega) (heap_alloc_new _ _) ?_; intro v2 w2 ho2 hg2 _)
        have hb2 := (hb1.alloc z1 (.cells #[.slice Av mv cv] 22)).grown hg2 (by simp; omega) (fun g hg => (how1.lt g hg).1)
        go_wp2_with fail
        go_roundw
        case rel => exact ⟨k + n, pre ++ [body], by omega, by rw [List.length_append]; simp; omega, by go_num, rfl, ho2, hb2, HM.out⟩
        case measure => simp [intOf]; omega
      · have hfin := hbad he
        have hne : ((e : Int) == 0) = false := beq_eq_false_iff_ne.2 (by omega)
        have hne2 : (e == 0) = false := beq_eq_false_iff_ne.2 he
        obtain ⟨rfl⟩ : R = ⟨pre, k, e⟩ := by rw [← HR.out]; exact hfin
        clear hmore hbad hok hnb hpos hat hfin HR
        go_wp2_with fail
        refine HV.out.mono ?_
        rintro e' w1 ⟨v, rfl, ho, hb⟩
        have hb1 := hbel.trans (hb.mono hsz)
        have how1 := hown.below hb
        go_wp2_with fail
        (try rw [Exit.noGoto_ret])
        go_ret3
        exact ⟨_, rfl, how1, hb1⟩
    · obtain rfl : k = len := by omega
      have hfin := hat.done (by rw [HL.out]; exact Nat.le_refl _)
      obtain ⟨rfl⟩ : R = ⟨pre, k, 0⟩ := by rw [← HR.out]; exact hfin
      clear hfin hat HR
      go_wp2_with fail
      (try rw [Exit.noGoto_ret])
      go_ret3
      exact ⟨_, rfl, hown, hbel⟩
end Go.Proofs.Ytaabfhfiipmhcaa
