/-
  The document's May.
-/
import Derived.Test.YtmngagcekhlppaaVSh
namespace Go.Proofs.Ytmngagcekhlppaa
set_option maxRecDepth 100000
open Go.RowKit Go.Lib

def mayB (l : List Shr) : Bool := decide (l.length ≤ 1024 ∧ (∀ x, x ∈ l → 0 ≤ x.q ∧ x.q ≤ 1024000) ∧ l.Pairwise fun a b => a.nm ≠ b.nm)
theorem mayB_iff (l : List Shr) : mayB l = true ↔ MayS l := by
  unfold mayB
  rw [decide_eq_true_eq]
  exact ⟨fun ⟨h1, h2, h3⟩ => ⟨h1, h2, h3⟩, fun h => ⟨h.few, h.qu, h.apart⟩⟩
theorem mayB_no {l : List Shr} (h : ¬ MayS l) : mayB l = false := Bool.eq_false_iff.2 fun h2 => h ((mayB_iff l).1 h2)
/-- The first i are as they should be. -/
structure MayTo (l : List Shr) (i : Nat) : Prop where
  qu : ∀ j x, j < i → l[j]? = some x → 0 ≤ x.q ∧ x.q ≤ 1024000
  ne : ∀ j k x y, k < j → j < i → l[j]? = some x → l[k]? = some y → y.nm ≠ x.nm
theorem MayTo.zero (l : List Shr) : MayTo l 0 := ⟨fun j _ h => absurd h (by omega), fun j _ _ _ _ h => absurd h (by omega)⟩
theorem MayTo.succ {l : List Shr} {i : Nat} {x : Shr} (h : MayTo l i) (hx : l[i]? = some x) (hq : 0 ≤ x.q ∧ x.q ≤ 1024000) (hn : ∀ k y, k < i → l[k]? = some y → y.nm ≠ x.nm) : MayTo l (i + 1) := by
  refine ⟨fun j y hj hy => ?_, fun j k y z hk hj hy hz => ?_⟩
  · rcases Nat.lt_or_ge j i with h1 | h1
    · exact h.qu j y h1 hy
    · obtain rfl : j = i := by omega
      rw [hx] at hy
      cases hy
      exact hq
  · rcases Nat.lt_or_ge j i with h1 | h1
    · exact h.ne j k y z hk h1 hy hz
    · obtain rfl : j = i := by omega
      rw [hx] at hy
      cases hy
      exact hn k z hk hz
theorem MayTo.done {l : List Shr} (h : MayTo l l.length) (hl : l.length ≤ 1024) : mayB l = true := by
  refine (mayB_iff l).2 ⟨hl, fun x hx => ?_, ?_⟩
  · obtain ⟨j, hj⟩ := List.getElem?_of_mem hx
    exact h.qu j x (List.getElem?_eq_some_iff.1 hj).1 hj
  · rw [Apart, List.pairwise_iff_getElem]
    intro i j hi hj hij
    exact h.ne j i _ _ hij hj (List.getElem?_eq_getElem hj) (List.getElem?_eq_getElem hi)
theorem mayB_quanta {l : List Shr} {i : Nat} {x : Shr} (hx : l[i]? = some x) (h : ¬ (0 ≤ x.q ∧ x.q ≤ 1024000)) : mayB l = false := mayB_no fun h2 => h (h2.qu x (List.mem_of_getElem? hx))
theorem mayB_twin {l : List Shr} {i k : Nat} {x y : Shr} (hx : l[i]? = some x) (hy : l[k]? = some y) (hk : k < i) (h : y.nm = x.nm) : mayB l = false := mayB_no fun h2 => by
  have h3 := h2.apart
  rw [Apart, List.pairwise_iff_getElem] at h3
  obtain ⟨hi, he⟩ := List.getElem?_eq_some_iff.1 hx
  obtain ⟨hi2, he2⟩ := List.getElem?_eq_some_iff.1 hy
  have := h3 k i hi2 hi hk
  rw [he, he2] at this
  exact this h
theorem mayB_many {l : List Shr} (h : ¬ l.length ≤ 1024) : mayB l = false := mayB_no fun h2 => h h2.few
set_option maxHeartbeats 4000000 in
theorem rmay_any {B n : Nat} {A : Option Addr} (c : Nat) {xs : List Shr} (w : World) (h : RdG eS w B A n xs) :
    Calls Try.prog 14 #[.slice A n c] w fun e w' => e = .returned (.bool (mayB xs)) ∧ Below w.heap.size w w' := by
  have HR := Lib.hid h
  obtain ⟨R, hRR⟩ : ∃ R, mayB xs = R := ⟨_, rfl⟩
  rw [hRR]
  have HF := Lib.hid hRR
  clear h hRR
  by_cases hn : n ≤ 1024
  · have hn2 : ¬ 1024 < (n : Int) := by omega
    go_enter Try.func14, Try.ntmps14
    go_wp2_with fail
    go_loopw [3] (fun i wr => ∃ k : Nat, k ≤ n ∧ i = .int .i64 (k : Int) ∧ Hid (MayTo xs k) ∧ Below w.heap.size w wr ∧ wr.heap = w.heap)
      (fun i _ => n - (intOf i).toNat)
    case atStart => exact ⟨0, Nat.zero_le _, rfl, Lib.hid (MayTo.zero xs), Below.refl _ _, rfl⟩
    case round =>
      obtain ⟨k, hk, rfl, HK, hbel, hheap⟩ := hrel
      obtain ⟨wo, hwo⟩ : ∃ z, z = wr := ⟨_, rfl⟩
      subst hwo
      have HBE := Lib.hid hbel
      have HHE := Lib.hid hheap
      clear hbel hheap
      by_cases hlt : k < n
      · have h1 : (k : Int) < (n : Int) := by omega
        have h0 : (0 : Int) ≤ (k : Int) := by omega
        obtain ⟨b, off, rfl, _⟩ := HR.out.addr (by omega)
        obtain ⟨x, hx⟩ : ∃ x, xs[k]? = some x := ⟨_, List.getElem?_eq_getElem (by rw [HR.out.len]; exact hlt)⟩
        have ec : ∀ p : Addr, wo.cell? p = w.cell? p := fun p => by unfold World.cell?; rw [HHE.out]
        have c1 := (ec _).trans (HR.out.quanta hx)
        have HX := Lib.hid hx
        have HN := Lib.hid hn
        obtain ⟨q, hq⟩ : ∃ q, x.q = q := ⟨_, rfl⟩
        rw [hq] at c1
        have HQ := Lib.hid hq
        clear ec hx hn hq hn2
        by_cases hq0 : q < 0
        · have hv : R = false := by
            rw [← HF.out]
            exact mayB_quanta HX.out (by rw [HQ.out]; omega)
          subst hv
          go_wp2_with fail
          go_ret
          exact ⟨rfl, HBE.out⟩
        · by_cases hq1 : 1024000 < q
          · have hv : R = false := by
              rw [← HF.out]
              exact mayB_quanta HX.out (by rw [HQ.out]; omega)
            subst hv
            go_wp2_with fail
            go_ret
            exact ⟨rfl, HBE.out⟩
          · have HQQ := Lib.hid (show 0 ≤ x.q ∧ x.q ≤ 1024000 by rw [HQ.out]; omega)
            go_wp2_with fail
            clear c1 hq0 hq1 h1
            have hk3 : k < n := hlt
            clear hlt hk
            go_loopw [4] (fun i wr => ∃ m : Nat, m ≤ k ∧ i = .int .i64 (m : Int) ∧ Hid (∀ j y, j < m → xs[j]? = some y → y.nm ≠ x.nm) ∧ Below w.heap.size w wr ∧ wr.heap = w.heap)
              (fun i _ => k - (intOf i).toNat)
            case atStart => exact ⟨0, Nat.zero_le _, rfl, Lib.hid (fun j y hj _ => absurd hj (by omega)), HBE.out, HHE.out⟩
            case round =>
              obtain ⟨m, hm, rfl, HM, hbel, hheap⟩ := hrel
              have HB2 := Lib.hid hbel
              have HH2 := Lib.hid hheap
              clear hbel hheap
              by_cases hmk : m < k
              · have h1 : (m : Int) < (k : Int) := by omega
                have h2 : (0 : Int) ≤ (m : Int) := by omega
                have h3 : (m : Int) < (n : Int) := by omega
                have h4 : (k : Int) < (n : Int) := by omega
                have h6 : m < 1024 := by have := HN.out; omega
                obtain ⟨y, hy⟩ : ∃ y, xs[m]? = some y := ⟨_, List.getElem?_eq_getElem (by rw [HR.out.len]; omega)⟩
                have ec : ∀ p : Addr, wr.cell? p = w.cell? p := fun p => by unfold World.cell?; rw [HH2.out]
                have c1 := (ec _).trans (HR.out.name hy)
                have c2 := (ec _).trans (HR.out.name HX.out)
                have HY := Lib.hid hy
                clear ec hy
                by_cases he : y.nm = x.nm
                · have hv : R = false := by
                    rw [← HF.out]
                    exact mayB_twin HX.out HY.out hmk he
                  subst hv
                  rw [he] at c1
                  clear he hmk hm
                  go_wp2_with fail
                  go_quiet (fail)
                  go_wp2_with fail
                  go_ret
                  exact ⟨rfl, ⟨HB2.out.os, HB2.out.tape, HB2.out.output, HB2.out.size, HB2.out.block⟩⟩
                · have hb : (y.nm == x.nm) = false := beq_eq_false_iff_ne.2 he
                  have HE := Lib.hid he
                  clear he hm
                  have HMK := Lib.hid hmk
                  clear hmk
                  go_wp2_with fail
                  go_quiet (fail)
                  go_wp2_with fail
                  go_roundw
                  case rel =>
                    refine ⟨m + 1, HMK.out, (by have := HN.out; go_num), Lib.hid (fun j z hj hz => ?_), ⟨HB2.out.os, HB2.out.tape, HB2.out.output, HB2.out.size, HB2.out.block⟩, HH2.out⟩
                    rcases Nat.lt_or_ge j m with h5 | h5
                    · exact HM.out j z h5 hz
                    · obtain rfl : j = m := by omega
                      rw [HY.out] at hz
                      cases hz
                      exact HE.out
                  case measure =>
                    have := HMK.out
                    have := HN.out
                    simp [intOf]
                    omega
              · obtain rfl : m = k := by omega
                have h1 : ¬ (m : Int) < (m : Int) := by omega
                clear hmk hm
                have HL := Lib.hid hk3
                have h6 : m < 1024 := by have := HN.out; omega
                clear hk3
                go_wp2_with fail
                go_roundw
                case rel => exact ⟨m + 1, HL.out, (by have := HN.out; have := HL.out; go_num), Lib.hid (HK.out.succ HX.out HQQ.out HM.out), HB2.out, HH2.out⟩
                case measure =>
                  have := HL.out
                  have := HN.out
                  simp [intOf]
                  omega
      · obtain rfl : k = n := by omega
        have h1 : ¬ (k : Int) < (k : Int) := by omega
        have hv : R = true := by
          rw [← HF.out]
          refine MayTo.done ?_ (by rw [HR.out.len]; exact hn)
          rw [HR.out.len]
          exact HK.out
        subst hv
        clear hlt hk hn hn2
        go_wp2_with fail
        go_ret
        exact ⟨rfl, HBE.out⟩
  · have hn2 : 1024 < (n : Int) := by omega
    have hv : R = false := by
      rw [← HF.out]
      exact mayB_many (by rw [HR.out.len]; exact hn)
    subst hv
    clear hn
    go_enter Try.func14, Try.ntmps14
    go_wp2_with fail
    go_ret
    exact ⟨rfl, Below.refl _ _⟩
end Go.Proofs.Ytmngagcekhlppaa
