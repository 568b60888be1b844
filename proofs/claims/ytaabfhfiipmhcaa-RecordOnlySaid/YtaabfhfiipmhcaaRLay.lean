/-
  The contracts of record's Size and lay.
-/
import Derived.Test.YtaabfhfiipmhcaaRList
namespace Go.Proofs.Ytaabfhfiipmhcaa
open Go.RowKit Go.Lib

set_option maxHeartbeats 400000 in
/-- record.Size -/
theorem rsize_any (n : Nat) (hn : n ≤ 1000000000) (w : World) :
    Calls Try.prog 14 #[.int .i64 (n : Int)] w fun e w' => e = .returned (.int .i64 (((uvarint n).length + n + 4 : Nat) : Int)) ∧ w = w' := by
  have h10 := uvarint_length64 (x := n) (by omega)
  have HV := Lib.hid (fun W => size_any n (by omega) W)
  obtain ⟨U, hU⟩ : ∃ U, (uvarint n).length = U := ⟨_, rfl⟩
  rw [hU] at h10 HV ⊢
  clear hU
  go_enter Try.func14, Try.ntmps14
  go_wp2_with fail
  refine (HV.out _).mono ?_
  rintro e w' ⟨rfl, rfl⟩
  go_wp2_with fail
  go_ret
  exact ⟨rfl, rfl⟩

theorem bytes4 (n : Nat) : bytesOf n (sizeOf8 4) false = dig n 4 := rfl

set_option maxRecDepth 100000 in
set_option maxHeartbeats 2000000 in
/-- record.lay: the record behind what an owned slice has. -/
theorem lay_any (base : Nat) (v : Value) (ys : List UInt8) (A : Option Addr) (len cap : Nat) (xs : List UInt8) (hys : ys.length ≤ 900000000) (hlen : len ≤ 1048576) (w : World) (hown : Own8 w base v ys) (hbase : base ≤ w.heap.size) (hI : Rd w base A len xs) :
    Calls Try.prog 27 #[v, .slice A len cap] w fun e W' => ∃ v', e = .returned v' ∧ Own8 W' base v' (ys ++ recOf xs) ∧ Below base w W' := by
  have hxl := hI.len
  have h3 := uvarint_max hlen
  have HV := Lib.hid (fun W => vput_any len (by omega) W)
  have hrec : recOf xs = (uvarint len ++ xs) ++ dig (sumOn 0 (uvarint len ++ xs)) 4 := by rw [recOf, headOf, tailOf, hxl]
  have hassoc : ys ++ recOf xs = ys ++ uvarint len ++ xs ++ dig (sumOn 0 (uvarint len ++ xs)) 4 := by rw [hrec]; simp
  rw [hassoc]
  clear hrec hassoc
  obtain ⟨U, hU⟩ : ∃ U, uvarint len = U := ⟨_, rfl⟩
  rw [hU] at h3 HV ⊢
  have hsl := sumOn_lt 0 (U ++ xs) (by decide)
  have hul : (U ++ xs).length ≤ 1048579 := by rw [List.length_append]; omega
  obtain ⟨S, hS⟩ : ∃ S, sumOn 0 (U ++ xs) = S := ⟨_, rfl⟩
  rw [hS] at hsl ⊢
  have HS := Lib.hid hS
  have HX := Lib.hid hxl
  have HU := Lib.hid hul
  obtain ⟨A0, m0, c0, rfl, hm0, hmc0, hcm0, _⟩ := hown.sl
  have HM0 := Lib.hid hm0
  clear hS hU hxl hm0 hul
  go_enter Try.func27, Try.ntmps27
  go_wp2_with fail
  refine (HV.out _).mono ?_
  rintro e w1 ⟨u, rfl, hou, hb1⟩
  have z1 := hb1.size
  have how1 := hown.below hb1
  obtain ⟨A1, m1, c1, rfl, hm1, hmc1, hcm1, hr1⟩ := hou.sl
  have HM1 := Lib.hid hm1
  clear hm1 hou hmc1 hcm1
  have B1 : Below base w w1 := hb1.mono hbase
  have hI1 := hI.below B1
  have y1 : base ≤ w1.heap.size := by omega
  go_wp2_with (first
    | (at_builtin; refine wpList_append8 (o := ⟨some 13, _, _, _, _, _⟩) rfl _ _ rfl base _ ys (by rfl) how1 _ _ _ _ U (by rfl) hr1 (by have := HM1.out; omega) y1 ?_; intro v2 w2 how2 hg2 _; have B2 := B1.grown hg2 y1 how1.lt; have z2 := Nat.le_trans hbase B2.size; have hI2 := hI.below B2)
    | (at_builtin; refine wpList_append8 (o := ⟨some 16, _, _, _, _, _⟩) rfl _ _ rfl base _ (ys ++ U) (by rfl) how2 _ _ _ _ xs (by rfl) hI2 (by rw [List.length_append]; omega) z2 ?_; intro v3 w3 how3 hg3 _; have B3 := B2.grown hg3 z2 how2.lt; have z3 := Nat.le_trans hbase B3.size; obtain ⟨A3, m3, c3, rfl, hm3, hmc3, hcm3, hr3⟩ := how3.sl; have HM3 := Lib.hid hm3; have e4 : m0 ≤ m3 := (by have := HM0.out; rw [hm3, List.length_append, List.length_append]; omega); have hcut := run_from8 A3 m3 c3 m0 e4; clear hm3))
  have hm3 := HM3.out
  have e3 : m3 - m0 = (U ++ xs).length := by
    have := HM0.out
    rw [hm3, List.length_append, List.length_append, List.length_append]; omega
  clear hcut
  have hrc := hr3.from e4 c3 hmc3
  have ed : (ys ++ U ++ xs).drop m0 = U ++ xs := by rw [HM0.out, List.append_assoc, List.drop_left]
  rw [ed] at hrc
  have HE3 := Lib.hid e3
  clear how2 hg3 hI2 B2 z2 ed e3 hm3 hr3 how1 hg2 hr1 hb1 z1 hI1
  refine (of_any _ _ _ _ (by rw [HE3.out]; have := HU.out; omega) w3 hrc (Nat.le_refl _)).mono ?_
  rintro e w4 ⟨rfl, hb4⟩
  rw [HS.out]
  go_wp2_with fail
  refine (put_any S 4 false w4).mono ?_
  rintro e w5 ⟨u5, rfl, ho5, hb5⟩
  rw [bytes4] at ho5
  obtain ⟨A5, m5, c5, rfl, hm5, hmc5, hcm5, hr5⟩ := ho5.sl
  rw [dig_length] at hm5
  subst hm5
  have B45 : Below w3.heap.size w3 w5 := hb4.trans (hb5.mono hb4.size)
  have how5 := how3.below B45
  have z5 : base ≤ w5.heap.size := by have := B45.size; omega
  clear ho5 hmc5 hcm5 hb4 hb5
  go_wp2_with (at_builtin; refine wpList_append8 rfl _ _ rfl base _ (ys ++ U ++ xs) (by rfl) how5 _ _ _ _ (dig S 4) (by rfl) hr5 (by have := HU.out; rw [List.length_append] at this; rw [List.length_append, List.length_append]; omega) z5 ?_; intro v6 w6 how6 hg6 _)
  have B6 : Below base w w6 := (B3.trans (B45.mono z3)).grown hg6 z5 how5.lt
  go_wp2_with fail
  go_ret
  exact ⟨_, rfl, how6, B6⟩

end Go.Proofs.Ytaabfhfiipmhcaa
