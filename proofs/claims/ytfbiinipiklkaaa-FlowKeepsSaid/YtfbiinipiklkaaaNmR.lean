/-
  The document's Name (chapter 18).
-/
import Derived.Test.YtfbiinipiklkaaaNmB
import Derived.Test.YtfbiinipiklkaaaQ10
namespace Go.Proofs.Ytfbiinipiklkaaa
set_option maxRecDepth 100000
open Go.RowKit Go.Lib

theorem name_to {s : List UInt8} (h1 : 1 ≤ s.length) (h2 : s.length ≤ 24) (h : ∀ k x, k < s.length → s[k]? = some x → nmC x = true) : nameB s = true := by
  unfold nameB
  rw [decide_eq_true ⟨h1, h2⟩, Bool.true_and, List.all_eq_true]
  intro x hx
  obtain ⟨k, hk⟩ := List.getElem?_of_mem hx
  exact h k x (List.getElem?_eq_some_iff.1 hk).1 hk
theorem name_not {s : List UInt8} {k : Nat} {x : UInt8} (hx : s[k]? = some x) (h : nmC x = false) : nameB s = false := by
  apply Bool.eq_false_iff.2
  intro h2
  unfold nameB at h2
  rw [Bool.and_eq_true, List.all_eq_true] at h2
  rw [h2.2 x (List.mem_of_getElem? hx)] at h
  cases h
theorem name_len {s : List UInt8} (h : ¬ (1 ≤ s.length ∧ s.length ≤ 24)) : nameB s = false := by
  unfold nameB
  rw [decide_eq_false h, Bool.false_and]
set_option maxHeartbeats 4000000 in
theorem rname_any (s : List UInt8) (hs : s.length ≤ 1000000) (w : World) : Calls Try.prog 36 #[.string ⟨s.toArray⟩] w fun e w' => e = .returned (.bool (nameB s)) ∧ w = w' := by
  have hsz : (ByteArray.mk s.toArray).size = s.length := by simp [ByteArray.size]
  obtain ⟨r, hr⟩ : ∃ r, nameB s = r := ⟨_, rfl⟩
  have HR := Lib.hid hr
  rw [hr]
  obtain ⟨n, hn⟩ : ∃ n, s.length = n := ⟨_, rfl⟩
  have HN := Lib.hid hn
  rw [hn] at hsz hs
  clear hr hn
  by_cases h1 : n < 1
  · have h1i : (n : Int) < 1 := by omega
    have hf := name_len (s := s) (by rw [HN.out]; omega)
    rw [HR.out] at hf
    subst hf
    go_enter Try.func36, Try.ntmps36
    go_wp2_with fail
    go_ret
    exact ⟨rfl, rfl⟩
  · have h1i : ¬ (n : Int) < 1 := by omega
    by_cases h2 : 24 < n
    · have h2i : (n : Int) > 24 := by omega
      have h2j : 24 < (n : Int) := by omega
      have hf := name_len (s := s) (by rw [HN.out]; omega)
      rw [HR.out] at hf
      subst hf
      go_enter Try.func36, Try.ntmps36
      go_wp2_with fail
      go_ret
      exact ⟨rfl, rfl⟩
    · have h2i : ¬ (n : Int) > 24 := by omega
      have h2j : ¬ 24 < (n : Int) := by omega
      go_enter Try.func36, Try.ntmps36
      go_wp2_with fail
      go_loopw [3] (fun i wr => ∃ j : Nat, j ≤ n ∧ i = .int .i64 (j : Int) ∧ (∀ k x, k < j → s[k]? = some x → nmC x = true) ∧ wr = w)
        (fun i _ => n - (intOf i).toNat)
      case atStart => exact ⟨0, Nat.zero_le _, rfl, fun k x h => absurd h (by omega), rfl⟩
      case round =>
        obtain ⟨j, hj, rfl, hall, rfl⟩ := hrel
        by_cases hlt : j < n
        · have hji : (j : Int) < (n : Int) := by omega
          have hj0 : (0 : Int) ≤ (j : Int) := by omega
          obtain ⟨x, hx⟩ : ∃ x, s[j]? = some x := ⟨_, List.getElem?_eq_getElem (by rw [HN.out]; exact hlt)⟩
          have hxb : ∀ h : j < (ByteArray.mk s.toArray).size, (ByteArray.mk s.toArray)[j] = x := fun h => by
            have h9 := (List.getElem?_eq_some_iff.1 hx).2
            rw [← h9]
            rfl
          have HX := Lib.hid hx
          have HAL := Lib.hid hall
          have HLT := Lib.hid hlt
          obtain ⟨c, hc⟩ : ∃ c, x.toNat = c := ⟨_, rfl⟩
          have HC := Lib.hid hc
          have hc9 : c < 256 := by rw [← hc]; exact x.toNat_lt
          have HMC : Hid (nmC x = (decide (97 ≤ c ∧ c ≤ 122) || decide (48 ≤ c ∧ c ≤ 57) || decide (c = 45) || decide (c = 46))) := Lib.hid (by rw [← hc]; rfl)
          clear hx hall hlt hj h1 h2
          by_cases p1 : 97 ≤ c
          · by_cases p2 : c ≤ 122
            · skip
              have g0 : (97 : Int) ≤ (c : Int) := by omega
              have g1 : (c : Int) ≤ 122 := by omega
              have HY : Hid (nmC x = true) := Lib.hid (by rw [HMC.out]; simp; try omega)
              go_wp2_with fail
              go_roundw
              case rel => exact ⟨j + 1, HLT.out, (by have := HLT.out; go_num), (fun k y hk hy => by
                by_cases e : k = j
                · subst e
                  rw [HX.out] at hy
                  cases hy
                  exact HY.out
                · exact HAL.out k y (by omega) hy), trivial⟩
              case measure =>
                have := HLT.out
                simp [intOf]
                omega
            · skip
              have g0 : (97 : Int) ≤ (c : Int) := by omega
              have g1 : ¬ (c : Int) ≤ 122 := by omega
              have g2 : (48 : Int) ≤ (c : Int) := by omega
              have g3 : ¬ (c : Int) ≤ 57 := by omega
              have g4 : ¬ (c : Int) = 45 := by omega
              have gb4 : ((c : Int) == 45) = false := by simp; omega
              have g5 : ¬ (c : Int) = 46 := by omega
              have gb5 : ((c : Int) == 46) = false := by simp; omega
              have g6 : ¬ c = 45 := by omega
              have g7 : ¬ c = 46 := by omega
              have hnn : nmC x = false := by rw [HMC.out]; simp; try omega
              have hff := name_not HX.out hnn
              rw [HR.out] at hff
              subst hff
              clear hnn
              go_wp2_with fail
              go_ret
              exact ⟨rfl, rfl⟩
          · by_cases p2 : 48 ≤ c
            · by_cases p3 : c ≤ 57
              · skip
                have g0 : ¬ (97 : Int) ≤ (c : Int) := by omega
                have g1 : (48 : Int) ≤ (c : Int) := by omega
                have g2 : (c : Int) ≤ 57 := by omega
                have HY : Hid (nmC x = true) := Lib.hid (by rw [HMC.out]; simp; try omega)
                go_wp2_with fail
                go_roundw
                case rel => exact ⟨j + 1, HLT.out, (by have := HLT.out; go_num), (fun k y hk hy => by
                  by_cases e : k = j
                  · subst e
                    rw [HX.out] at hy
                    cases hy
                    exact HY.out
                  · exact HAL.out k y (by omega) hy), trivial⟩
                case measure =>
                  have := HLT.out
                  simp [intOf]
                  omega
              · skip
                have g0 : ¬ (97 : Int) ≤ (c : Int) := by omega
                have g1 : (48 : Int) ≤ (c : Int) := by omega
                have g2 : ¬ (c : Int) ≤ 57 := by omega
                have g3 : ¬ (c : Int) = 45 := by omega
                have gb3 : ((c : Int) == 45) = false := by simp; omega
                have g4 : ¬ (c : Int) = 46 := by omega
                have gb4 : ((c : Int) == 46) = false := by simp; omega
                have g5 : ¬ c = 45 := by omega
                have g6 : ¬ c = 46 := by omega
                have hnn : nmC x = false := by rw [HMC.out]; simp; try omega
                have hff := name_not HX.out hnn
                rw [HR.out] at hff
                subst hff
                clear hnn
                go_wp2_with fail
                go_ret
                exact ⟨rfl, rfl⟩
            · by_cases p3 : c = 45
              · subst p3
                skip
                have HY : Hid (nmC x = true) := Lib.hid (by rw [HMC.out]; simp; try omega)
                go_wp2_with fail
                go_roundw
                case rel => exact ⟨j + 1, HLT.out, (by have := HLT.out; go_num), (fun k y hk hy => by
                  by_cases e : k = j
                  · subst e
                    rw [HX.out] at hy
                    cases hy
                    exact HY.out
                  · exact HAL.out k y (by omega) hy), trivial⟩
                case measure =>
                  have := HLT.out
                  simp [intOf]
                  omega
              · by_cases p4 : c = 46
                · subst p4
                  skip
                  have HY : Hid (nmC x = true) := Lib.hid (by rw [HMC.out]; simp; try omega)
                  go_wp2_with fail
                  go_roundw
                  case rel => exact ⟨j + 1, HLT.out, (by have := HLT.out; go_num), (fun k y hk hy => by
                    by_cases e : k = j
                    · subst e
                      rw [HX.out] at hy
                      cases hy
                      exact HY.out
                    · exact HAL.out k y (by omega) hy), trivial⟩
                  case measure =>
                    have := HLT.out
                    simp [intOf]
                    omega
                · skip
                  have g0 : ¬ (97 : Int) ≤ (c : Int) := by omega
                  have g1 : ¬ (48 : Int) ≤ (c : Int) := by omega
                  have g2 : ¬ (c : Int) = 45 := by omega
                  have gb2 : ((c : Int) == 45) = false := by simp; omega
                  have g3 : ¬ (c : Int) = 46 := by omega
                  have gb3 : ((c : Int) == 46) = false := by simp; omega
                  have hnn : nmC x = false := by rw [HMC.out]; simp; try omega
                  have hff := name_not HX.out hnn
                  rw [HR.out] at hff
                  subst hff
                  clear hnn
                  go_wp2_with fail
                  go_ret
                  exact ⟨rfl, rfl⟩
        · obtain rfl : n = j := by omega
          have hji : ¬ (n : Int) < (n : Int) := by omega
          have hyes := name_to (s := s) (by rw [HN.out]; omega) (by rw [HN.out]; omega) (fun k x hk hx => hall k x (by rw [HN.out] at hk; exact hk) hx)
          rw [HR.out] at hyes
          subst hyes
          clear hlt hj hall
          go_wp2_with fail
          go_ret
          exact ⟨rfl, rfl⟩
end Go.Proofs.Ytfbiinipiklkaaa
