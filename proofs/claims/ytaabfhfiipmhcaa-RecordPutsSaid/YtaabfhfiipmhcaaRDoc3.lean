/-
  The contract of the document's All of records.
-/
import Derived.Test.YtaabfhfiipmhcaaRDoc2
namespace Go.Proofs.Ytaabfhfiipmhcaa
open Go.RowKit Go.Lib

set_option maxRecDepth 100000 in
set_option maxHeartbeats 2000000 in
/-- All -/
theorem dall_any (A : Option Addr) (len cap : Nat) (xs : List UInt8) (hlen : len ≤ 100000) (hcap : len ≤ cap) (w : World) (hI : Rd w w.heap.size A len xs) :
    Calls Try.prog 19 #[.slice A len cap] w (AllGave w (allOf xs)) := by
  have HL := Lib.hid hI.len
  obtain ⟨R, hR⟩ : ∃ R, allOf xs = R := ⟨_, rfl⟩
  rw [hR]
  have HR := Lib.hid hR
  clear hR
  go_enter Try.func19, Try.ntmps19
  go_wp2_with fail
  go_loopw [5, 6] (fun v i wr => ∃ (k : Nat) (pre : List (List UInt8)), k ≤ len ∧ pre.length ≤ k ∧ i = .int .i64 (k : Int) ∧ OwnL wr w.heap.size v pre ∧ Below w.heap.size w wr ∧ AllAt xs k pre) (fun _ i _ => len - (intOf i).toNat)
  case atStart => exact ⟨0, [], Nat.zero_le _, Nat.le_refl _, rfl, OwnL.nil_ _ _, Below.refl _ _, AllAt.begin xs⟩
  case round =>
    obtain ⟨k, pre, hk, hpl, rfl, hown, hbel, hat⟩ := hrel
    have hsz := hbel.size
    by_cases hlt : k < len
    · have hlt' : (k : Int) < (len : Int) := by omega
      have hcut := run_from8 A len cap k hk
      have hr := ((hI.below hbel).more hsz).from hk cap hcap
      have hmore := hat.more (by rw [HL.out]; exact hlt)
      have hbad := hat.bad (by rw [HL.out]; exact hlt)
      have hok := next_ok (b := xs.drop k)
      have hnb := next_bad (b := xs.drop k)
      have hpos := next_pos (b := xs.drop k)
      have HV := Lib.hid (dnext_any (cutA A cap k) (len - k) (cap - k) (xs.drop k) (by omega) (by omega) wr hr)
      obtain ⟨⟨body, n, e⟩, hx⟩ : ∃ x, nextOf (xs.drop k) = x := ⟨_, rfl⟩
      rw [hx] at HV hmore hbad hok hnb hpos
      simp only at hmore hbad hok hpos
      rw [List.length_drop, HL.out] at hok
      clear hx hr
      by_cases he : e = 0
      · subst he
        have hnl := (hok rfl).2.2.1
        have hp5 := hpos rfl
        have HM := Lib.hid (hmore rfl)
        clear hmore hbad hok hnb hpos hat
        go_wp2_with fail
        refine HV.out.mono ?_
        rintro e w1 ⟨v, rfl, ho, hb⟩
        have hap := own_apart hown ho
        have ho1 := ho.base_le hsz
        have hb1 := hbel.trans (hb.mono hsz)
        have how1 := hown.below hb
        obtain ⟨Av, mv, cv, rfl, hmv, hmc, hcv, _⟩ := ho.sl
        clear hmv hmc hcv ho hown
        have z1 := hb1.size
        have hp1 : pre.length ≤ 100000 := by omega
        go_wp2_with (at_builtin; refine wpList_appendL rfl _ _ rfl w.heap.size _ pre body (.slice Av mv cv) (by rfl) w1.heap.size (by rfl) (ho1.alloc _) hap (how1.alloc _) (by omega) (by simp; omega) (heap_alloc_new _ _) ?_; intro v2 w2 ho2 hg2 _)
        have hb2 := (hb1.alloc z1 (.cells #[.slice Av mv cv] 22)).grown hg2 (by simp; omega) (fun g hg => (how1.lt g hg).1)
        go_wp2_with fail
        go_roundw
        case rel => exact ⟨k + n, pre ++ [body], by omega, by rw [List.length_append]; simp; omega, by go_num, ho2, hb2, HM.out⟩
        case measure => simp [intOf]; omega
      · have hfin := hbad he
        have hne : ((e : Int) != 0) = true := bne_iff_ne.2 (by omega)
        have hne2 : (e != 0) = true := bne_iff_ne.2 he
        obtain ⟨rfl⟩ : R = ⟨pre, k, e⟩ := by rw [← HR.out]; exact hfin
        clear hmore hbad hok hnb hpos hat hfin HR
        go_wp2_with fail
        refine HV.out.mono ?_
        rintro e' w1 ⟨v, rfl, ho, hb⟩
        have hb1 := hbel.trans (hb.mono hsz)
        have how1 := hown.below hb
        go_wp2_with fail
        go_ret3
        exact ⟨_, rfl, how1, hb1⟩
    · obtain rfl : k = len := by omega
      have hfin := hat.done (by rw [HL.out]; exact Nat.le_refl _)
      obtain ⟨rfl⟩ : R = ⟨pre, k, 0⟩ := by rw [← HR.out]; exact hfin
      clear hfin hat HR
      go_wp2_with fail
      go_ret3
      exact ⟨_, rfl, hown, hbel⟩
end Go.Proofs.Ytaabfhfiipmhcaa
