/-
  The contracts of the document's Next and All of records.
-/
import Derived.Test.YtaabfhfiipmhcaaRDoc
namespace Go.Proofs.Ytaabfhfiipmhcaa
open Go.RowKit Go.Lib

set_option maxRecDepth 100000 in
set_option maxHeartbeats 2000000 in
/-- Next -/
theorem dnext_any (A : Option Addr) (len cap : Nat) (xs : List UInt8) (hlen : len ≤ 100000) (hcap : len ≤ cap) (w : World) (hI : Rd w w.heap.size A len xs) :
    Calls Try.prog 17 #[.slice A len cap] w (NextGave w (nextOf xs)) := by
  have n1 := nextOf_1 (b := xs)
  have n2 := nextOf_2 (b := xs)
  have n3 := nextOf_3 (b := xs)
  have n4 := nextOf_4 (b := xs)
  have n5 := nextOf_5 (b := xs)
  have hrt := rec_there (b := xs)
  have hk := vget_k xs
  have he3 := vget_e xs
  have HV := Lib.hid (fun W (h : Rd W w.heap.size A len xs) => rvget_any A len cap xs hlen W h)
  obtain ⟨⟨n, k, e⟩, hg⟩ : ∃ g, vget xs = g := ⟨_, rfl⟩
  rw [hg] at n1 n2 n3 n4 n5 hrt hk he3 HV
  simp only at n1 n2 n3 n4 n5 hrt hk he3
  have hxl := hI.len
  clear hg
  by_cases he : e = 0
  · subst he
    have b0 : ((0 : Int) != 0) = false := rfl
    by_cases hn : 1048576 < n
    · rw [n2 rfl hn]
      have hn' : (1048576 : Int) < (n : Int) := by omega
      clear n1 n2 n3 n4 n5 hxl hrt
      go_enter Try.func17, Try.ntmps17
      go_wp2_with fail
      refine (HV.out _ hI).mono ?_
      rintro e w' ⟨rfl, rfl⟩
      go_wp2_with fail
      go_ret3
      exact ⟨_, rfl, Own8.nil_ _ _, Below.refl _ _⟩
    · have hn' : decide ((1048576 : Int) < (n : Int)) = false := decide_eq_false (by omega)
      have hnb : n ≤ 1048576 := by omega
      have hkb : k ≤ 100000 := by omega
      by_cases hs : xs.length < k + n + 4
      · rw [n3 rfl hn hs]
        have hs' : (len : Int) < (k : Int) + (n : Int) + 4 := by omega
        clear n1 n2 n3 n4 n5 hxl hs hn hrt
        go_enter Try.func17, Try.ntmps17
        go_wp2_with fail
        refine (HV.out _ hI).mono ?_
        rintro e w' ⟨rfl, rfl⟩
        go_wp2_with fail
        go_ret3
        exact ⟨_, rfl, Own8.nil_ _ _, Below.refl _ _⟩
      · have hs' : decide ((len : Int) < (k : Int) + (n : Int) + 4) = false := decide_eq_false (by omega)
        have hcut1 := run_upto8 A len cap (k + n + 4) ((k : Int) + (n : Int) + 4) (by omega) (by omega)
        have hcut3 := run_cut8 A len cap k n (k : Int) ((k : Int) + (n : Int)) (by omega) (by omega) (by omega)
        have hwr : IntKind.i64.wrap ((k : Int) + (n : Int) + 4) = (k : Int) + (n : Int) + 4 := by rw [IntKind.wrap_i64]; omega
        have r2 := hI.take (k := k + n + 4) (by omega)
        have r3 := hI.cut (l := k) (n := n) (by omega) cap hcap
        have hbl := r3.len
        have hP : ∀ W A1 c1, Rd W W.heap.size A1 n ((xs.drop k).take n) → Calls Try.prog 13 #[.slice A1 n c1] W fun e W' => ∃ v, e = .returned v ∧ Own8 W' W.heap.size v (recOf ((xs.drop k).take n)) ∧ Below W.heap.size W W' := fun W A1 c1 h =>
          dput_any A1 n c1 _ (by omega) W h (Nat.le_refl _)
        have hrl : (recOf ((xs.drop k).take n)).length ≤ 1000000000 := by
          rw [recOf_len, hbl]
          have := uvarint_max hnb
          omega
        have R3 := Lib.hid r3
        have how0 := empty8 (base := w.heap.size) w (Nat.le_refl _)
        have hb0 := (Below.refl w.heap.size w).alloc (Nat.le_refl _) (.cells #[] 5)
        by_cases hq : tailOf (xs.take (k + n)) = (xs.drop (k + n)).take 4
        · have hbody := n5 rfl hn hs hq
          rw [hbody]
          rw [(hrt rfl (by omega)).2 hq] at hP
          obtain ⟨Z, hZ⟩ : ∃ Z, xs.take (k + n + 4) = Z := ⟨_, rfl⟩
          rw [hZ] at hP r2
          have HP := Lib.hid hP
          have HR2 := Lib.hid r2
          obtain ⟨Y, hY⟩ : ∃ Y, (xs.drop k).take n = Y := ⟨_, rfl⟩
          rw [hY] at HP R3 hbl ⊢
          have HB := Lib.hid hbl
          clear hbody n1 n2 n3 n4 n5 hs hn hxl hrt hq hP hZ r2 r3 hrl hY hbl
          go_enter Try.func17, Try.ntmps17
          go_wp2_with fail
          refine (HV.out _ hI).mono ?_
          rintro e w' ⟨rfl, rfl⟩
          go_wp2_with (at_builtin; refine wpList_append8 rfl _ _ rfl w.heap.size _ [] (by rfl) how0 _ _ _ _ Y (by rfl) (R3.out.alloc (Nat.le_refl _) _) (by simp; omega) (by simp) ?_; intro v2 w2 ho2 hg2 _; rw [List.nil_append] at ho2; obtain ⟨A2, m2, c2, rfl, hm2, _, _, hr2⟩ := ho2.sl; rw [HB.out] at hm2; subst hm2)
          have hb2 := hb0.grown hg2 (by simp) how0.lt
          have K0 : (convert 22 9 (.slice A (k + m2 + 4) cap)).run Try.prog w2.drew = .ok (.string ⟨Z.toArray⟩) w2.drew := run_str8 (HR2.out.below hb2).drew cap
          go_wp2_with fail
          go_region_with (first | (go_at_call 13; refine (HP.out w2.drew _ _ hr2.drew).mono ?_; rintro e W3 ⟨v3, rfl, ho3, hb3⟩; obtain ⟨A3, m3, c3, rfl, hm3, _, _, hr3⟩ := ho3.sl; clear hm3; have K4 := run_str8 hr3 c3; have B3 : Below w.heap.size w W3 := hb2.trans ((Below.refl _ w2).drew.trans hb3 |>.mono hb2.size); have K3 : (convert 22 9 (.slice A (k + m2 + 4) cap)).run Try.prog W3 = .ok (.string ⟨Z.toArray⟩) W3 := run_str8 (HR2.out.below B3) cap))
          all_goals
            go_wp2_with fail
            go_ret3
            exact ⟨_, rfl, ho2.below ((Below.refl _ w2).drew.trans hb3), B3⟩
        · have hbody := n4 rfl hn hs hq
          rw [hbody]
          have hne : recOf ((xs.drop k).take n) ≠ xs.take (k + n + 4) := fun h => hq ((hrt rfl (by omega)).1 h)
          obtain ⟨Z, hZ⟩ : ∃ Z, xs.take (k + n + 4) = Z := ⟨_, rfl⟩
          rw [hZ] at hne r2
          obtain ⟨T, hT⟩ : ∃ T, recOf ((xs.drop k).take n) = T := ⟨_, rfl⟩
          rw [hT] at hP hne
          have t1 : (T != Z) = true := bne_iff_ne.2 hne
          have t2 : (T == Z) = false := beq_eq_false_iff_ne.2 hne
          have t3 : decide (T = Z) = false := decide_eq_false hne
          have HP := Lib.hid hP
          have HR2 := Lib.hid r2
          obtain ⟨Y, hY⟩ : ∃ Y, (xs.drop k).take n = Y := ⟨_, rfl⟩
          rw [hY] at HP R3 hbl
          have HB := Lib.hid hbl
          clear hbody n1 n2 n3 n4 n5 hs hn hxl hrt hq hP hZ r2 r3 hrl hY hbl hT hne
          go_enter Try.func17, Try.ntmps17
          go_wp2_with fail
          refine (HV.out _ hI).mono ?_
          rintro e w' ⟨rfl, rfl⟩
          go_wp2_with (at_builtin; refine wpList_append8 rfl _ _ rfl w.heap.size _ [] (by rfl) how0 _ _ _ _ Y (by rfl) (R3.out.alloc (Nat.le_refl _) _) (by simp; omega) (by simp) ?_; intro v2 w2 ho2 hg2 _; rw [List.nil_append] at ho2; obtain ⟨A2, m2, c2, rfl, hm2, _, _, hr2⟩ := ho2.sl; rw [HB.out] at hm2; subst hm2)
          have hb2 := hb0.grown hg2 (by simp) how0.lt
          have K0 : (convert 22 9 (.slice A (k + m2 + 4) cap)).run Try.prog w2.drew = .ok (.string ⟨Z.toArray⟩) w2.drew := run_str8 (HR2.out.below hb2).drew cap
          go_wp2_with fail
          go_region_with (first | (go_at_call 13; refine (HP.out w2.drew _ _ hr2.drew).mono ?_; rintro e W3 ⟨v3, rfl, ho3, hb3⟩; obtain ⟨A3, m3, c3, rfl, hm3, _, _, hr3⟩ := ho3.sl; clear hm3; have K4 := run_str8 hr3 c3; have B3 : Below w.heap.size w W3 := hb2.trans ((Below.refl _ w2).drew.trans hb3 |>.mono hb2.size); have K3 : (convert 22 9 (.slice A (k + m2 + 4) cap)).run Try.prog W3 = .ok (.string ⟨Z.toArray⟩) W3 := run_str8 (HR2.out.below B3) cap))
          all_goals
            go_wp2_with fail
            go_ret3
            exact ⟨_, rfl, Own8.nil_ _ _, B3⟩
  · rw [n1 he]
    have b0 : ((e : Int) != 0) = true := bne_iff_ne.2 (by omega)
    have b1 : (e != 0) = true := bne_iff_ne.2 he
    clear n1 n2 n3 n4 n5 hxl he hrt
    go_enter Try.func17, Try.ntmps17
    go_wp2_with fail
    refine (HV.out _ hI).mono ?_
    rintro e w' ⟨rfl, rfl⟩
    go_wp2_with fail
    go_ret3
    exact ⟨_, rfl, Own8.nil_ _ _, Below.refl _ _⟩
end Go.Proofs.Ytaabfhfiipmhcaa
