/-
  The program: mayBe, Name.
-/
import Derived.Test.YtfbiinipiklkaaaNmR
namespace Go.Proofs.Ytfbiinipiklkaaa
set_option maxRecDepth 100000
open Go.RowKit Go.Lib

set_option maxHeartbeats 4000000 in
theorem pmay_any (x : UInt8) (w : World) : Calls Try.prog 50 #[v8 x] w fun e w' => e = .returned (.bool (nmC x)) ∧ w = w' := by
  obtain ⟨c, hc⟩ : ∃ c, x.toNat = c := ⟨_, rfl⟩
  have hv : nmC x = (decide (97 ≤ c ∧ c ≤ 122) || decide (48 ≤ c ∧ c ≤ 57) || decide (c = 45) || decide (c = 46)) := by rw [← hc]; rfl
  have h9 : c < 256 := by rw [← hc]; exact x.toNat_lt
  unfold v8
  rw [hc, hv]
  clear hv hc
  by_cases p1 : 97 ≤ c
  · by_cases p2 : c ≤ 122
    · have g0 : (97 : Int) ≤ (c : Int) := by omega
      have g1 : (c : Int) ≤ 122 := by omega
      rw [show (decide (97 ≤ c ∧ c ≤ 122) || decide (48 ≤ c ∧ c ≤ 57) || decide (c = 45) || decide (c = 46)) = true by simp; omega]
      go_enter Try.func50, Try.ntmps50
      go_wp2_with fail
      go_ret
      exact ⟨rfl, rfl⟩
    · have g0 : (97 : Int) ≤ (c : Int) := by omega
      have g1 : ¬ (c : Int) ≤ 122 := by omega
      have g2 : (48 : Int) ≤ (c : Int) := by omega
      have g3 : ¬ (c : Int) ≤ 57 := by omega
      have g4 : ((c : Int) == 45) = false := by simp; omega
      have g5 : ((c : Int) == 46) = false := by simp; omega
      have g6 : (c == 45) = false := by simp; omega
      have g7 : (c == 46) = false := by simp; omega
      have g8 : ¬ c = 45 := by omega
      have g9 : ¬ c = 46 := by omega
      rw [show (decide (97 ≤ c ∧ c ≤ 122) || decide (48 ≤ c ∧ c ≤ 57) || decide (c = 45) || decide (c = 46)) = false by simp; omega]
      go_enter Try.func50, Try.ntmps50
      go_wp2_with fail
      go_ret
      exact ⟨rfl, rfl⟩
  · by_cases p2 : 48 ≤ c
    · by_cases p3 : c ≤ 57
      · have g0 : ¬ (97 : Int) ≤ (c : Int) := by omega
        have g1 : (48 : Int) ≤ (c : Int) := by omega
        have g2 : (c : Int) ≤ 57 := by omega
        rw [show (decide (97 ≤ c ∧ c ≤ 122) || decide (48 ≤ c ∧ c ≤ 57) || decide (c = 45) || decide (c = 46)) = true by simp; omega]
        go_enter Try.func50, Try.ntmps50
        go_wp2_with fail
        go_ret
        exact ⟨rfl, rfl⟩
      · have g0 : ¬ (97 : Int) ≤ (c : Int) := by omega
        have g1 : (48 : Int) ≤ (c : Int) := by omega
        have g2 : ¬ (c : Int) ≤ 57 := by omega
        have g4 : ((c : Int) == 45) = false := by simp; omega
        have g5 : ((c : Int) == 46) = false := by simp; omega
        have g6 : (c == 45) = false := by simp; omega
        have g7 : (c == 46) = false := by simp; omega
        have g8 : ¬ c = 45 := by omega
        have g9 : ¬ c = 46 := by omega
        rw [show (decide (97 ≤ c ∧ c ≤ 122) || decide (48 ≤ c ∧ c ≤ 57) || decide (c = 45) || decide (c = 46)) = false by simp; omega]
        go_enter Try.func50, Try.ntmps50
        go_wp2_with fail
        go_ret
        exact ⟨rfl, rfl⟩
    · by_cases p3 : c = 45
      · subst p3
        go_enter Try.func50, Try.ntmps50
        go_wp2_with fail
        go_ret
        exact ⟨rfl, rfl⟩
      · by_cases p4 : c = 46
        · subst p4
          go_enter Try.func50, Try.ntmps50
          go_wp2_with fail
          go_ret
          exact ⟨rfl, rfl⟩
        · have g0 : ¬ (97 : Int) ≤ (c : Int) := by omega
          have g1 : ¬ (48 : Int) ≤ (c : Int) := by omega
          have g4 : ((c : Int) == 45) = false := by simp; omega
          have g5 : ((c : Int) == 46) = false := by simp; omega
          have g6 : (c == 45) = false := by simp; omega
          have g7 : (c == 46) = false := by simp; omega
          rw [show (decide (97 ≤ c ∧ c ≤ 122) || decide (48 ≤ c ∧ c ≤ 57) || decide (c = 45) || decide (c = 46)) = false by simp; omega]
          go_enter Try.func50, Try.ntmps50
          go_wp2_with fail
          go_ret
          exact ⟨rfl, rfl⟩
set_option maxHeartbeats 4000000 in
theorem pname_any (s : List UInt8) (hs : s.length ≤ 1000000) (w : World) : Calls Try.prog 34 #[.string ⟨s.toArray⟩] w fun e w' => e = .returned (.bool (nameB s)) ∧ w = w' := by
  have hsz : (ByteArray.mk s.toArray).size = s.length := by simp [ByteArray.size]
  obtain ⟨r, hr⟩ : ∃ r, nameB s = r := ⟨_, rfl⟩
  have HR := Lib.hid hr
  rw [hr]
  obtain ⟨n, hn⟩ : ∃ n, s.length = n := ⟨_, rfl⟩
  have HN := Lib.hid hn
  rw [hn] at hsz hs
  clear hr hn
  by_cases h1 : n = 0
  · subst h1
    have hf := name_len (s := s) (by rw [HN.out]; omega)
    rw [HR.out] at hf
    subst hf
    go_enter Try.func34, Try.ntmps34
    go_wp2_with fail
    go_ret
    exact ⟨rfl, rfl⟩
  · have h1i : ((n : Int) == 0) = false := by simp; omega
    have h1j : (n == 0) = false := by simp; omega
    by_cases h2 : 24 < n
    · have h2i : (n : Int) > 24 := by omega
      have h2j : 24 < (n : Int) := by omega
      have hf := name_len (s := s) (by rw [HN.out]; omega)
      rw [HR.out] at hf
      subst hf
      go_enter Try.func34, Try.ntmps34
      go_wp2_with fail
      go_ret
      exact ⟨rfl, rfl⟩
    · have h2i : ¬ (n : Int) > 24 := by omega
      have h2j : ¬ 24 < (n : Int) := by omega
      go_enter Try.func34, Try.ntmps34
      go_wp2_with fail
      clear h1i h1j h2i h2j
      go_loopw [14] (fun i wr => ∃ j : Nat, j ≤ n ∧ i = .int .i64 (j : Int) ∧ (∀ k x, k < j → s[k]? = some x → nmC x = true) ∧ wr = w)
        (fun i _ => n - (intOf i).toNat)
      case atStart => exact ⟨0, Nat.zero_le _, rfl, fun k x h => absurd h (by omega), rfl⟩
      case round =>
        obtain ⟨j, hj, rfl, hall, rfl⟩ := hrel
        by_cases hlt : j < n
        · have hji : (j : Int) < (n : Int) := by omega
          have hj0 : (0 : Int) ≤ (j : Int) := by omega
          obtain ⟨x, hx⟩ : ∃ x, s[j]? = some x := ⟨_, List.getElem?_eq_getElem (by rw [HN.out]; exact hlt)⟩
          have hxb : ∀ h : j < (ByteArray.mk s.toArray).size, (ByteArray.mk s.toArray)[j] = x := fun h => by
            have h9 := (List.getElem?_eq_some_iff.1 hx).2
            rw [← h9]
            rfl
          have HX := Lib.hid hx
          have HAL := Lib.hid hall
          have HLT := Lib.hid hlt
          have HM := Lib.hid (pmay_any x wr)
          unfold v8 at HM
          obtain ⟨q, hq⟩ : ∃ q, nmC x = q := ⟨_, rfl⟩
          rw [hq] at HM
          have HQ := Lib.hid hq
          clear hx hall hlt hj h1 h2 hq
          cases q
          · have hff := name_not HX.out HQ.out
            rw [HR.out] at hff
            subst hff
            go_wp2_with (go_at_call 50; refine HM.out.mono ?_; rintro e w' ⟨rfl, rfl⟩)
            go_ret
            exact ⟨rfl, rfl⟩
          · go_wp2_with (go_at_call 50; refine HM.out.mono ?_; rintro e w' ⟨rfl, rfl⟩)
            go_roundw
            case rel => exact ⟨j + 1, HLT.out, (by have := HLT.out; go_num), (fun k y hk hy => by
              by_cases e : k = j
              · subst e
                rw [HX.out] at hy
                cases hy
                exact HQ.out
              · exact HAL.out k y (by omega) hy), trivial⟩
            case measure =>
              have := HLT.out
              simp [intOf]
              omega
        · obtain rfl : n = j := by omega
          have hji : ¬ (n : Int) < (n : Int) := by omega
          have hyes := name_to (s := s) (by rw [HN.out]; omega) (by rw [HN.out]; omega) (fun k x hk hx => hall k x (by rw [HN.out] at hk; exact hk) hx)
          rw [HR.out] at hyes
          subst hyes
          clear hlt hj hall
          go_wp2_with fail
          go_ret
          exact ⟨rfl, rfl⟩
end Go.Proofs.Ytfbiinipiklkaaa
