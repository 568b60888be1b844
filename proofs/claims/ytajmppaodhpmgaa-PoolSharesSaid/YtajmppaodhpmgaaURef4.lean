/-
  The document's Few of a pool.
-/
import Derived.Test.YtajmppaodhpmgaaURef3
namespace Go.Proofs.Ytajmppaodhpmgaa
set_option maxRecDepth 100000
open Go.RowKit Go.Lib

def fewU (l : List Bk) : Bool := decide (l.length ≤ 40) && l.all fun x => decide (x.nm.length ≤ 60)
theorem fewU_iff (l : List Bk) : fewU l = true ↔ l.length ≤ 40 ∧ ∀ x, x ∈ l → x.nm.length ≤ 60 := by
  unfold fewU
  simp
theorem fewU_long {l : List Bk} {j : Nat} {x : Bk} (hx : l[j]? = some x) (h : ¬ x.nm.length ≤ 60) : fewU l = false := by
  apply Bool.eq_false_iff.2
  intro h2
  exact h (((fewU_iff l).1 h2).2 x (List.mem_of_getElem? hx))
theorem fewU_end {l : List Bk} {k : Nat} (hk : ∀ j x, j < k → l[j]? = some x → x.nm.length ≤ 60) (h : l.length ≤ k ∨ 60 ≤ k ∧ k ≤ l.length) : fewU l = decide ((l.length : Int) ≤ 40) := by
  by_cases h1 : l.length ≤ 40
  · rw [decide_eq_true (by omega)]
    refine (fewU_iff l).2 ⟨h1, fun x hx => ?_⟩
    obtain ⟨j, hj⟩ := List.getElem?_of_mem hx
    have := (List.getElem?_eq_some_iff.1 hj).1
    exact hk j x (by omega) hj
  · rw [decide_eq_false (by omega)]
    apply Bool.eq_false_iff.2
    intro h2
    exact h1 ((fewU_iff l).1 h2).1
set_option maxHeartbeats 4000000 in
theorem rfewU_any {A : Option Addr} {n B : Nat} (c : Nat) {l : List Bk} (hn : n ≤ 9223372036854775807) (v : Int) (w : World) (hB : B ≤ w.heap.size) (h : RdG eB w B A n l) :
    Calls Try.prog 11 #[.agg #[.int .i64 v, .slice A n c]] w fun e w' => e = .returned (.bool (fewU l)) ∧ Below w.heap.size w w' := by
  obtain ⟨Y, hY⟩ : ∃ Y, w.alloc (.cells #[.int .i64 v, .slice A n c] 24) = Y := ⟨_, rfl⟩
  have HT := Lib.hid (show Blk Y 24 w.heap.size [.int .i64 v, .slice A n c] by rw [← hY]; exact Blk_10.new w _ [.int .i64 v, .slice A n c])
  have HB := Lib.hid (show Below w.heap.size w Y by rw [← hY]; exact (Below.refl w.heap.size w).alloc (Nat.le_refl _) _)
  have HX : Hid (RdG eB Y B A n l) := Lib.hid (by rw [← hY]; exact h.alloc hB _)
  have HL := Lib.hid h.len
  have HY := Lib.hid hY
  obtain ⟨R, hRR⟩ : ∃ R, fewU l = R := ⟨_, rfl⟩
  rw [hRR]
  have HF := Lib.hid hRR
  clear h hRR hY hB
  go_enter Try.func11, Try.ntmps11
  go_wp2_with fail
  rw [HY.out]
  go_loopw [3] (fun i wr => ∃ k : Nat, k ≤ n ∧ k ≤ 60 ∧ i = .int .i64 (k : Int) ∧ Hid (∀ j x, j < k → l[j]? = some x → x.nm.length ≤ 60) ∧ wr = Y)
    (fun i _ => 100 - (intOf i).toNat)
  case atStart => exact ⟨0, Nat.zero_le _, by omega, rfl, Lib.hid (fun j x hj _ => absurd hj (by omega)), rfl⟩
  case round =>
    obtain ⟨k, hk, hk5, rfl, HK, rfl⟩ := hrel
    have q1 := Blk_10.cell HT.out (i := 1) (v := .slice A n c) rfl
    by_cases hlt : k < n ∧ k < 60
    · obtain ⟨hlt, hl5⟩ := hlt
      have h1 : (k : Int) < (n : Int) := by omega
      have h2 : (k : Int) < 60 := by omega
      have h0 : (0 : Int) ≤ (k : Int) := by omega
      obtain ⟨b, off, rfl, _⟩ := HX.out.addr (by omega)
      obtain ⟨x, hx⟩ : ∃ x, l[k]? = some x := ⟨_, List.getElem?_eq_getElem (by rw [HL.out]; exact hlt)⟩
      have q3 : wr.cell? ⟨b, off + k * 27, none⟩ = some (.string ⟨x.nm.toArray⟩) := HX.out.cell hx 0 (bk_nm x)
      obtain ⟨m, hm⟩ : ∃ m, x.nm.length = m := ⟨_, rfl⟩
      have hs : (ByteArray.mk x.nm.toArray).size = m := by rw [← hm]; rfl
      have HM := Lib.hid hm
      have HXX := Lib.hid hx
      clear hm hx
      by_cases h3 : m ≤ 60
      · have h4 : ¬ 60 < (m : Int) := by omega
        clear hlt hl5
        go_wp2_with fail
        go_roundw
        case rel =>
          refine ⟨k + 1, by omega, by omega, by go_num, Lib.hid (fun j y hj hy => ?_), trivial⟩
          rcases Nat.lt_or_ge j k with h5 | h5
          · exact HK.out j y h5 hy
          · obtain rfl : j = k := by omega
            rw [HXX.out] at hy
            cases hy
            rw [HM.out]
            exact h3
        case measure => simp [intOf]; omega
      · have h4 : 60 < (m : Int) := by omega
        have hv : R = false := by
          rw [← HF.out]
          exact fewU_long HXX.out (by rw [HM.out]; exact h3)
        subst hv
        clear hlt hl5
        go_wp2_with fail
        go_ret
        exact ⟨rfl, HB.out⟩
    · have hv : R = decide ((n : Int) ≤ 40) := by
        rw [← HF.out, ← HL.out]
        exact fewU_end HK.out (by rw [HL.out]; omega)
      subst hv
      by_cases h5 : k < n
      · have h1 : (k : Int) < (n : Int) := by omega
        have h2 : ¬ (k : Int) < 60 := by omega
        go_wp2_with fail
        go_ret
        exact ⟨rfl, HB.out⟩
      · have h1 : ¬ (k : Int) < (n : Int) := by omega
        go_wp2_with fail
        go_ret
        exact ⟨rfl, HB.out⟩
end Go.Proofs.Ytajmppaodhpmgaa
