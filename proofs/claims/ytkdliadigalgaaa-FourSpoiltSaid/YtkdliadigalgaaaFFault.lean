/-
  The contract of four.fault.
-/
import Derived.Test.YtkdliadigalgaaaFSmall
import Derived.Test.YtkdliadigalgaaaFSum
namespace Go.Proofs.Ytkdliadigalgaaa
open Go.RowKit Go.Lib

set_option maxRecDepth 100000 in
set_option maxHeartbeats 2000000 in
theorem fault_any (A : Option Addr) (len cap : Nat) (xs : List UInt8) (hlen : len ≤ 1000000) (hcap : len ≤ cap) (hcap2 : cap ≤ maxLen) (w : World) (hI : Rd w w.heap.size A len xs) :
    Calls Try.prog 18 #[.slice A len cap] w fun e w' => e = .returned (.int .i64 (faultN xs : Nat)) ∧ Below w.heap.size w w' := by
  have HL := Lib.hid hI.len
  by_cases h20 : 20 ≤ len
  · have h20' : ¬ (len : Int) < 20 := by omega
    obtain ⟨b, off, rfl, _⟩ := hI.addr (by omega)
    have c0 := hI.cellD (k := 0) (by omega)
    rw [Nat.add_zero] at c0
    have hx := batN_lt xs 0
    have HN := Lib.hid (num_any (p := 2) 2 rfl (by omega) hcap hcap2 (by omega) hI)
    have HH := Lib.hid (fun W (hW : Below w.heap.size w W) => head_any (cap := cap) (by omega) (hI.below hW))
    have hit := wat_lt xs 2
    have hih := ihl_le xs
    have HI := Lib.hid hI
    have F1 := Lib.hid (fun (h : batN xs 0 / 16 ≠ 4 ∨ ihl xs < 20) => fault_form (xs := xs) (by rw [HL.out]; exact h20) h)
    have F2 := Lib.hid (fun h1 h2 (h3 : len < ihl xs) => fault_head (xs := xs) (by rw [HL.out]; exact h20) h1 h2 (by rw [HL.out]; exact h3))
    have F3 := Lib.hid (fun h1 h2 (h3 : ihl xs ≤ len) h4 => fault_less (xs := xs) (by rw [HL.out]; exact h20) h1 h2 (by rw [HL.out]; exact h3) h4)
    have F4 := Lib.hid (fun h1 h2 (h3 : ihl xs ≤ len) h4 (h5 : len < wat xs 2) => fault_more (xs := xs) (by rw [HL.out]; exact h20) h1 h2 (by rw [HL.out]; exact h3) h4 (by rw [HL.out]; exact h5))
    have F5 := Lib.hid (fun h1 h2 (h3 : ihl xs ≤ len) h4 (h5 : wat xs 2 ≤ len) h6 => fault_sum (xs := xs) (by rw [HL.out]; exact h20) h1 h2 (by rw [HL.out]; exact h3) h4 (by rw [HL.out]; exact h5) h6)
    have F6 := Lib.hid (fun h1 h2 (h3 : ihl xs ≤ len) h4 (h5 : wat xs 2 ≤ len) h6 => fault_no (xs := xs) (by rw [HL.out]; exact h20) h1 h2 (by rw [HL.out]; exact h3) h4 (by rw [HL.out]; exact h5) h6)
    have HT := Lib.hid (fun (h3 : ihl xs ≤ len) => hI.take h3)
    generalize batN xs 0 = x at *
    generalize wat xs 2 = T at *
    generalize ihl xs = H at *
    generalize faultN xs = F at *
    have hwx : IntKind.u8.wrap ((x : Int) / 16) = (x : Int) / 16 := by rw [IntKind.wrap_u8]; omega
    clear hI
    go_enter Try.func18, Try.ntmps18
    go_wp2_with fail
    refine HN.out.mono ?_
    rintro e w1 ⟨rfl, hb1⟩
    have k0 := (hb1.cell (p := ⟨b, off, none⟩) (by obtain ⟨b', off', e, h, _⟩ := HI.out.2 (by omega); cases e; exact h)).trans c0
    have HB1 := Lib.hid hb1
    clear c0 hb1
    by_cases hv : x / 16 = 4
    · have v1 : ((x : Int) / 16 != 4) = false := by simp; omega
      have hv' := Lib.hid hv
      clear hv
      by_cases hh : H < 20
      · have hh' : (H : Int) < 20 := by omega
        have hF := F1.out (.inr hh)
        subst hF
        go_wp2_with fail
        refine (HH.out _ HB1.out).mono ?_
        rintro e w2 ⟨rfl, rfl⟩
        go_wp2_with fail
        go_ret
        exact ⟨rfl, HB1.out⟩
      · have hh' : ¬ (H : Int) < 20 := by omega
        go_wp2_with fail
        refine (HH.out _ HB1.out).mono ?_
        rintro e w2 ⟨rfl, rfl⟩
        go_wp2_with fail
        refine (HH.out _ HB1.out).mono ?_
        rintro e w2 ⟨rfl, rfl⟩
        by_cases h3 : len < H
        · have h3' : (len : Int) < (H : Int) := by omega
          have hF := F2.out hv'.out (by omega) h3
          subst hF
          go_wp2_with fail
          go_ret
          exact ⟨rfl, HB1.out⟩
        · have h3' : ¬ (len : Int) < (H : Int) := by omega
          go_wp2_with fail
          refine (HH.out _ HB1.out).mono ?_
          rintro e w2 ⟨rfl, rfl⟩
          by_cases h4 : T < H
          · have h4' : (T : Int) < (H : Int) := by omega
            have hF := F3.out hv'.out (by omega) (by omega) h4
            subst hF
            go_wp2_with fail
            go_ret
            exact ⟨rfl, HB1.out⟩
          · have h4' : ¬ (T : Int) < (H : Int) := by omega
            by_cases h5 : len < T
            · have h5' : (len : Int) < (T : Int) := by omega
              have hF := F4.out hv'.out (by omega) (by omega) (by omega) h5
              subst hF
              go_wp2_with fail
              go_ret
              exact ⟨rfl, HB1.out⟩
            · have h5' : ¬ (len : Int) < (T : Int) := by omega
              have hr := ((HT.out (by omega)).below HB1.out).more HB1.out.size
              have hcut := run_upto8 (some ⟨b, off, none⟩) len cap H (H : Int) rfl (by omega)
              have hc := CellsAt.one hr (c := cap) (by omega) hcap2
              have hB2 := Lib.hid (HB1.out.alloc HB1.out.size (.cells #[.slice (some ⟨b, off, none⟩) H cap] 62))
              have hB2' := Lib.hid (HB1.out.alloc HB1.out.size (.cells #[.slice (some ⟨b, off, none⟩) H cap] 22))
              by_cases h6 : ckOf (xs.take H) = 0
              · have hF := F6.out hv'.out (by omega) (by omega) (by omega) (by omega) h6
                subst hF
                have HR := Lib.hid (right_row w1 _ _ hc 1 1 rfl (by omega) (by simp [HL.out]; omega) (by simpa using h6) 0)
                clear h6 hc hr
                go_wp2_with fail
                refine (HH.out _ HB1.out).mono ?_
                rintro e w2 ⟨rfl, rfl⟩
                go_wp2_with fail
                refine HR.out.mono ?_
                rintro e w2 ⟨rfl, rfl⟩
                go_wp2_with fail
                go_ret
                exact ⟨rfl, hB2'.out⟩
              · have hF := F5.out hv'.out (by omega) (by omega) (by omega) (by omega) h6
                subst hF
                have HR := Lib.hid (wrong_row w1 _ _ hc 1 1 rfl (by omega) (by simp [HL.out]; omega) (by simpa using h6) 0)
                clear h6 hc hr
                go_wp2_with fail
                refine (HH.out _ HB1.out).mono ?_
                rintro e w2 ⟨rfl, rfl⟩
                go_wp2_with fail
                refine HR.out.mono ?_
                rintro e w2 ⟨rfl, rfl⟩
                go_wp2_with fail
                go_ret
                exact ⟨rfl, hB2'.out⟩
    · have v1 : ((x : Int) / 16 != 4) = true := by simp; omega
      have hF := F1.out (.inl hv)
      subst hF
      clear hv
      go_wp2_with fail
      go_ret
      exact ⟨rfl, HB1.out⟩
  · have h20' : (len : Int) < 20 := by omega
    have hF : faultN xs = 2 := fault_short (by rw [HL.out]; omega)
    rw [hF]
    clear hF
    go_enter Try.func18, Try.ntmps18
    go_wp2_with fail
    go_ret
    exact ⟨rfl, Below.refl _ _⟩
end Go.Proofs.Ytkdliadigalgaaa
