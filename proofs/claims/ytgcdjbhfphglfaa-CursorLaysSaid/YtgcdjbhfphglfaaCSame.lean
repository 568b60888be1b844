/-
  The contracts of the document's Same and Few, on pieces.
-/
import Derived.Test.YtgcdjbhfphglfaaCPcs
namespace Go.Proofs.Ytgcdjbhfphglfaa
open Go.RowKit Go.Lib

theorem PcsAt.drewN {w : World} {B len : Nat} {A : Option Addr} {ps : List Pc} (h : PcsAt w B A len ps) (k : Nat) : PcsAt (w.drewN k) B A len ps := h.keep fun _ _ => rfl

set_option maxRecDepth 100000 in
set_option maxHeartbeats 2000000 in
/-- Same: true of two slices of the same pieces. -/
theorem rsame_any {w : World} {B B' len : Nat} {A A' : Option Addr} (c c' : Nat) {ps : List Pc} (hlen : len ≤ 1000) (h : PcsAt w B A len ps) (h' : PcsAt w B' A' len ps) :
    Calls Try.prog 13 #[.slice A len c, .slice A' len c'] w fun e w' => e = .returned (.bool true) ∧ ∃ n, w' = w.drewN n := by
  have HL := Lib.hid h.size
  have b1 : ((len : Int) != (len : Int)) = false := by simp
  have b2 : (len != len) = false := by simp
  go_enter Try.func13, Try.ntmps13
  go_wp2_with fail
  go_loopw [5] (fun i wr => ∃ k m : Nat, k ≤ len ∧ i = .int .i64 (k : Int) ∧ wr = w.drewN m) (fun i _ => len - (intOf i).toNat)
  case atStart => exact ⟨0, 0, Nat.zero_le _, rfl, rfl⟩
  case round =>
    obtain ⟨k, m, hk, rfl, rfl⟩ := hrel
    by_cases hlt : k < len
    · have hlt' : (k : Int) < (len : Int) := by omega
      have hk0 : (0 : Int) ≤ (k : Int) := by omega
      obtain ⟨b, off, rfl, _, hc⟩ := h.2 (by omega)
      obtain ⟨b', off', rfl, _, hc'⟩ := h'.2 (by omega)
      obtain ⟨p, hp⟩ : ∃ p, ps[k]? = some p := ⟨_, List.getElem?_eq_getElem (by rw [HL.out]; exact hlt)⟩
      obtain ⟨x0, A1, l1, c1, x1, hr1⟩ := hc k p hp
      obtain ⟨y0, A2, l2, c2, y1, hr2⟩ := hc' k p hp
      have s1 : ∀ n, (convert 22 9 (.slice A1 l1 c1)).run Try.prog (w.drewN n) = .ok (.string ⟨p.bs.toArray⟩) (w.drewN n) := fun n => run_str8 (hr1.drewN n) c1
      have s2 : ∀ n, (convert 22 9 (.slice A2 l2 c2)).run Try.prog (w.drewN n) = .ok (.string ⟨p.bs.toArray⟩) (w.drewN n) := fun n => run_str8 (hr2.drewN n) c2
      have e1 : ((p.n : Int) != (p.n : Int)) = false := by simp
      have e2 : (p.n != p.n) = false := by simp
      clear hc hc' hr1 hr2 hp
      go_wp2_with fail
      go_quiet (fail)
      go_wp2_with fail
      go_roundw
      case rel => exact ⟨k + 1, _, by omega, by go_num, rfl⟩
      case measure => simp [intOf]; omega
    · obtain rfl : k = len := by omega
      go_wp2_with fail
      go_ret
      exact ⟨rfl, _, rfl⟩

/-- Few, and short? -/
def fewB (ps : List Pc) : Bool := decide ((∀ p ∈ ps.take 100, p.bs.length ≤ 300) ∧ ps.length ≤ 40)
theorem fewB_yes {ps : List Pc} (h : fewB ps = true) : (∀ p ∈ ps, p.bs.length ≤ 300) ∧ ps.length ≤ 40 := by
  obtain ⟨h1, h2⟩ := of_decide_eq_true h
  rw [List.take_of_length_le (by omega)] at h1
  exact ⟨h1, h2⟩

set_option maxRecDepth 100000 in
set_option maxHeartbeats 2000000 in
theorem few_any {w : World} {B len : Nat} {A : Option Addr} (c : Nat) {ps : List Pc} (hcm : len ≤ maxLen) (h : PcsAt w B A len ps) :
    Calls Try.prog 14 #[.slice A len c] w fun e w' => e = .returned (.bool (fewB ps)) ∧ w = w' := by
  have HL := Lib.hid h.size
  unfold maxLen at hcm
  obtain ⟨F, hF⟩ : ∃ F, fewB ps = F := ⟨_, rfl⟩
  rw [hF]
  have HF := Lib.hid hF
  clear hF
  go_enter Try.func14, Try.ntmps14
  go_wp2_with fail
  go_loop [3] (fun i => ∃ k : Nat, k ≤ len ∧ k ≤ 100 ∧ i = .int .i64 (k : Int) ∧ ∀ p ∈ ps.take k, p.bs.length ≤ 300) (fun i => 100 - (intOf i).toNat)
  case atStart => exact ⟨0, Nat.zero_le _, Nat.zero_le _, rfl, by simp⟩
  case round =>
    obtain ⟨k, hk, hk1, rfl, ha⟩ := hrel
    by_cases hlt : k < len ∧ k < 100
    · obtain ⟨l1, l2⟩ := hlt
      have l1' : (k : Int) < (len : Int) := by omega
      have l2' : (k : Int) < 100 := by omega
      have hk0 : (0 : Int) ≤ (k : Int) := by omega
      obtain ⟨b, off, rfl, _, hc⟩ := h.2 (by omega)
      obtain ⟨p, hp⟩ : ∃ p, ps[k]? = some p := ⟨_, List.getElem?_eq_getElem (by rw [HL.out]; exact l1)⟩
      obtain ⟨x0, A1, q1, c1, x1, hr1⟩ := hc k p hp
      have htk : ps.take (k + 1) = ps.take k ++ [p] := by rw [List.take_add_one, hp]; rfl
      have hql := hr1.len
      by_cases hbig : 300 < q1
      · have hb' : (300 : Int) < (q1 : Int) := by omega
        have hfin : fewB ps = false := decide_eq_false (fun hx => by
          have := hx.1 p (by
            have h1 : ps.take 100 = ps.take (k + 1) ++ (ps.drop (k + 1)).take (100 - (k + 1)) := by
              rw [← List.take_add]; congr 1; omega
            rw [h1, htk]; simp)
          omega)
        obtain rfl : F = false := by rw [← HF.out]; exact hfin
        clear hfin hc hr1 hp ha htk hql
        go_wp2_with fail
        go_ret
        exact ⟨rfl, rfl⟩
      · have hb' : decide ((300 : Int) < (q1 : Int)) = false := decide_eq_false (by omega)
        have ha2 : ∀ x ∈ ps.take (k + 1), x.bs.length ≤ 300 := by
          intro x hx
          rw [htk] at hx
          rcases List.mem_append.1 hx with hx | hx
          · exact ha x hx
          · rw [List.mem_singleton.1 hx]; omega
        have HA := Lib.hid ha2
        clear hc hr1 hp ha htk hql ha2 hbig
        go_wp2_with fail
        go_round
        case rel => exact ⟨k + 1, by omega, by omega, by go_num, HA.out⟩
        case measure => simp [intOf]; omega
    · have HA := Lib.hid ha
      clear ha
      by_cases h40 : len ≤ 40
      · have h40' : (len : Int) ≤ 40 := by omega
        obtain rfl : k = len := by omega
        have hfin : fewB ps = true := decide_eq_true ⟨by
          have := HA.out
          rw [List.take_of_length_le (by rw [HL.out]; omega)] at this
          intro p hp
          exact this p (List.mem_of_mem_take hp), by rw [HL.out]; exact h40⟩
        obtain rfl : F = true := by rw [← HF.out]; exact hfin
        clear hfin hlt
        go_wp2_with fail
        go_ret
        exact ⟨rfl, rfl⟩
      · have h40' : decide ((len : Int) ≤ 40) = false := decide_eq_false (by omega)
        have hfin : fewB ps = false := decide_eq_false (fun hx => by have := hx.2; rw [HL.out] at this; omega)
        obtain rfl : F = false := by rw [← HF.out]; exact hfin
        clear hfin
        by_cases hl : k < len
        · have l1' : (k : Int) < (len : Int) := by omega
          have l2' : decide ((k : Int) < 100) = false := decide_eq_false (by omega)
          clear hlt
          go_wp2_with fail
          go_ret
          exact ⟨rfl, rfl⟩
        · have l1' : decide ((k : Int) < (len : Int)) = false := decide_eq_false (by omega)
          have l1'' : decide (k < len) = false := decide_eq_false hl
          clear hlt
          go_wp2_with fail
          go_ret
          exact ⟨rfl, rfl⟩
end Go.Proofs.Ytgcdjbhfphglfaa
