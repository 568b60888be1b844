/-
  The statements' 'awake', which answers true.
-/
import Derived.Test.YtagfhephbjinmaaJC
namespace Go.Proofs.Ytagfhephbjinmaa
set_option maxRecDepth 100000
open Go.RowKit Go.Lib

def K0 : List UInt8 := List.replicate 16 0
theorem size_two : SizeN 2 := ⟨by decide, by decide⟩
theorem size_five : SizeN 5 := ⟨by decide, by decide⟩
theorem size_seven : SizeN 7 := ⟨by decide, by decide⟩
theorem n_none : nextN 65538 = 0 := by decide
theorem n_big : nextN 65536 = 65537 := by decide +kernel
set_option maxHeartbeats 8000000 in
theorem awake_any (S : PermC) (w : World) : Calls Try.prog 9 #[] w fun e w' => e = .returned (.bool true) ∧ Below w.heap.size w w' := by
  obtain ⟨o, ho, ho2⟩ : ∃ o, offN K0 [97] 2 = o ∧ o < 2 := ⟨_, rfl, offN_lt size_two _ _⟩
  have hs1 : skN K0 [97] 2 = 1 := by have := skN_lt size_two K0 [97]; omega
  have PO : Hid (∀ W : World, Calls Try.prog 14 #[.agg (K0.map v8).toArray, .string ⟨#[97]⟩, .int .i64 2] W fun e w' => e = .returned (.tuple #[.int .i64 (o : Int), .int .i64 1]) ∧ Below W.heap.size W w') := Lib.hid (fun W => by
    have := S.of K0 rfl ⟨#[97]⟩ (by decide) 2 size_two W
    rw [show (ByteArray.mk #[97]).data.toList = [97] from rfl, ho, hs1] at this
    exact this)
  have hch : chN 3 2 5 4 = 1 := by decide
  have P53 : Hid (∀ W : World, Calls Try.prog 19 #[.int .i64 3, .int .i64 2, .int .i64 5, .int .i64 4] W fun e w' => e = .returned (.int .i64 1) ∧ Below W.heap.size W w') := Lib.hid (fun W => by
    have := S.choice 3 2 5 4 size_five (by decide) (by decide) (by decide) (by decide) W
    rw [hch] at this
    exact this)
  have P58 : Hid (∀ W : World, Calls Try.prog 17 #[.agg (K0.map v8).toArray, .string ⟨#[97]⟩, .int .i64 7] W fun e W' => ∃ v, e = .returned v ∧ OwnG eZ W' W.heap.size v (allZ (offN K0 [97] 7) (skN K0 [97] 7) 7) ∧ Below W.heap.size W W') := Lib.hid (fun W => S.all K0 rfl ⟨#[97]⟩ (by decide) 7 size_seven W)
  have P8 : Hid (∀ W : World, Calls Try.prog 10 #[.int .i64 2] W fun e w' => e = .returned (.bool true) ∧ Below W.heap.size W w') := Lib.hid (fun W => by
    have := S.prime 2 (by decide) (by decide) W
    rw [show primeB (2 : Int).toNat = true from by decide] at this
    exact this)
  have P10 : Hid (∀ W : World, Calls Try.prog 10 #[.int .i64 65537] W fun e w' => e = .returned (.bool true) ∧ Below W.heap.size W w') := Lib.hid (fun W => by
    have := S.prime 65537 (by decide) (by decide) W
    rw [show primeB (65537 : Int).toNat = true from p_big] at this
    exact this)
  have P13 : Hid (∀ W : World, Calls Try.prog 10 #[.int .i64 1] W fun e w' => e = .returned (.bool false) ∧ Below W.heap.size W w') := Lib.hid (fun W => by
    have := S.prime 1 (by decide) (by decide) W
    rw [show primeB (1 : Int).toNat = false from by decide] at this
    exact this)
  have P17 : Hid (∀ W : World, Calls Try.prog 10 #[.int .i64 (-7)] W fun e w' => e = .returned (.bool false) ∧ Below W.heap.size W w') := Lib.hid (fun W => by
    have := S.prime (-7) (by decide) (by decide) W
    rw [show primeB ((-7) : Int).toNat = false from by decide] at this
    exact this)
  have P21 : Hid (∀ W : World, Calls Try.prog 10 #[.int .i64 9] W fun e w' => e = .returned (.bool false) ∧ Below W.heap.size W w') := Lib.hid (fun W => by
    have := S.prime 9 (by decide) (by decide) W
    rw [show primeB (9 : Int).toNat = false from by decide] at this
    exact this)
  have P25 : Hid (∀ W : World, Calls Try.prog 12 #[.int .i64 8] W fun e w' => e = .returned (.int .i64 11) ∧ Below W.heap.size W w') := Lib.hid (fun W => by
    have := S.next 8 (by decide) (by decide) W
    rw [show nextN 8 = 11 from by decide] at this
    exact this)
  have P29 : Hid (∀ W : World, Calls Try.prog 12 #[.int .i64 65536] W fun e w' => e = .returned (.int .i64 65537) ∧ Below W.heap.size W w') := Lib.hid (fun W => by
    have := S.next 65536 (by decide) (by decide) W
    rw [show nextN 65536 = 65537 from n_big] at this
    exact this)
  have P33 : Hid (∀ W : World, Calls Try.prog 12 #[.int .i64 65538] W fun e w' => e = .returned (.int .i64 0) ∧ Below W.heap.size W w') := Lib.hid (fun W => by
    have := S.next 65538 (by decide) (by decide) W
    rw [show nextN 65538 = 0 from n_none] at this
    exact this)
  have P37 : Hid (∀ W : World, Calls Try.prog 12 #[.int .i64 (-5)] W fun e w' => e = .returned (.int .i64 2) ∧ Below W.heap.size W w') := Lib.hid (fun W => by
    have := S.next (-5) (by decide) (by decide) W
    rw [show nextN (-5) = 2 from by decide] at this
    exact this)
  obtain ⟨L7, hL7⟩ : ∃ L, allZ (offN K0 [97] 7) (skN K0 [97] 7) 7 = L := ⟨_, rfl⟩
  have HL7 := Lib.hid (show L7.length = 7 by rw [← hL7, allZ_len])
  rw [hL7] at P58
  have HB0 := Lib.hid (Below.refl w.heap.size w)
  clear ho hs1 hch hL7
  go_enter Try.func9, Try.ntmps9
  go_wp2_with (first
    | ((with_reducible show wpList _ _ _ (⟨some 4, _, _, _, _, _⟩ :: _) _ _); refine wpList_buildw (op := ⟨some 4, _, _, _, _, _⟩) 28 #[] rfl (by rfl) [] (by simp) (K0.map v8).toArray (by kernel_rfl) ?_)
    | ((with_reducible show wpList _ _ _ (⟨some 57, _, _, _, _, _⟩ :: _) _ _); refine wpList_buildw (op := ⟨some 57, _, _, _, _, _⟩) 28 #[] rfl (by rfl) [] (by simp) (K0.map v8).toArray (by kernel_rfl) ?_)
    | (with_reducible refine (PO.out w).mono ?_; rintro e w1 ⟨rfl, hb⟩; have HB1 := Lib.hid (HB0.out.trans (hb.mono HB0.out.size)); clear hb)
    | (with_reducible refine (P8.out w1).mono ?_; rintro e w2 ⟨rfl, hb⟩; have HB2 := Lib.hid (HB1.out.trans (hb.mono HB1.out.size)); clear hb)
    | (with_reducible refine (P10.out w2).mono ?_; rintro e w3 ⟨rfl, hb⟩; have HB3 := Lib.hid (HB2.out.trans (hb.mono HB2.out.size)); clear hb)
    | (with_reducible refine (P13.out w3).mono ?_; rintro e w4 ⟨rfl, hb⟩; have HB4 := Lib.hid (HB3.out.trans (hb.mono HB3.out.size)); clear hb)
    | (with_reducible refine (P17.out w4).mono ?_; rintro e w5 ⟨rfl, hb⟩; have HB5 := Lib.hid (HB4.out.trans (hb.mono HB4.out.size)); clear hb)
    | (with_reducible refine (P21.out w5).mono ?_; rintro e w6 ⟨rfl, hb⟩; have HB6 := Lib.hid (HB5.out.trans (hb.mono HB5.out.size)); clear hb)
    | (with_reducible refine (P25.out w6).mono ?_; rintro e w7 ⟨rfl, hb⟩; have HB7 := Lib.hid (HB6.out.trans (hb.mono HB6.out.size)); clear hb)
    | (with_reducible refine (P29.out w7).mono ?_; rintro e w8 ⟨rfl, hb⟩; have HB8 := Lib.hid (HB7.out.trans (hb.mono HB7.out.size)); clear hb)
    | (with_reducible refine (P33.out w8).mono ?_; rintro e w9 ⟨rfl, hb⟩; have HB9 := Lib.hid (HB8.out.trans (hb.mono HB8.out.size)); clear hb)
    | (with_reducible refine (P37.out w9).mono ?_; rintro e w10 ⟨rfl, hb⟩; have HB10 := Lib.hid (HB9.out.trans (hb.mono HB9.out.size)); clear hb)
    | (with_reducible refine (P53.out w10).mono ?_; rintro e w11 ⟨rfl, hb⟩; have HB11 := Lib.hid (HB10.out.trans (hb.mono HB10.out.size)); clear hb)
    | (with_reducible refine (P58.out w11).mono ?_; rintro e w12 ⟨v, rfl, hown, hb⟩; have HB12 := Lib.hid (HB11.out.trans (hb.mono HB11.out.size)); obtain ⟨A7, m7, c7, rfl, hm7, _⟩ := hown.sl; rw [HL7.out] at hm7; subst hm7; clear hb hown))
  go_ret
  exact ⟨rfl, HB12.out⟩
end Go.Proofs.Ytagfhephbjinmaa
