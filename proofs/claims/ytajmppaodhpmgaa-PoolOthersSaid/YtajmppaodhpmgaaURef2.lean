/-
  The document's Name, plain, Find and Has.
  The document's plain, Find and Has.
-/
import Derived.Test.YtajmppaodhpmgaaUCell
import Derived.Test.YtajmppaodhpmgaaTK
import Derived.Test.YtajmppaodhpmgaaNmR
namespace Go.Proofs.Ytajmppaodhpmgaa
set_option maxRecDepth 100000
open Go.RowKit Go.Lib

end Go.Proofs.Ytajmppaodhpmgaa
namespace Go.Proofs.Ytajmppaodhpmgaa
set_option maxRecDepth 100000
open Go.RowKit Go.Lib

/-- The place of a name, or -1. -/
def placeB (l : List Bk) (s : List UInt8) : Int := match l.findIdx? (fun b => decide (b.nm = s)) with
  | some k => (k : Int)
  | none => -1
theorem place_at {l : List Bk} {s : List UInt8} {k : Nat} {b : Bk} (hb : l[k]? = some b) (h : b.nm = s) (hn : ∀ j c, j < k → l[j]? = some c → c.nm ≠ s) : placeB l s = (k : Int) := by
  have e : l.findIdx? (fun b => decide (b.nm = s)) = some k := by
    rw [List.findIdx?_eq_some_iff_getElem]
    obtain ⟨hk, hk2⟩ := List.getElem?_eq_some_iff.1 hb
    refine ⟨hk, by rw [hk2]; exact decide_eq_true h, fun j hj => ?_⟩
    have h9 := hn j _ hj (List.getElem?_eq_getElem (Nat.lt_trans hj hk))
    simp [h9]
  unfold placeB
  rw [e]
theorem place_no {l : List Bk} {s : List UInt8} (hn : ∀ b, b ∈ l → b.nm ≠ s) : placeB l s = -1 := by
  have e : l.findIdx? (fun b => decide (b.nm = s)) = none := by
    rw [List.findIdx?_eq_none_iff]
    exact fun b hb => decide_eq_false (hn b hb)
  unfold placeB
  rw [e]
set_option maxHeartbeats 4000000 in
theorem rhas_any {A : Option Addr} {n B : Nat} (c : Nat) {xs : List (List UInt8)} (hn : n ≤ 9223372036854775807) (s : List UInt8) (w : World) (h : RdG eN w B A n xs) :
    Calls Try.prog 26 #[.slice A n c, .string ⟨s.toArray⟩] w fun e w' => e = .returned (.bool (decide (s ∈ xs))) ∧ w' = w := by
  have HX := Lib.hid h
  have HL := Lib.hid h.len
  obtain ⟨r, hr⟩ : ∃ r, decide (s ∈ xs) = r := ⟨_, rfl⟩
  have HR := Lib.hid hr
  rw [hr]
  clear h hr
  go_enter Try.func26, Try.ntmps26
  go_wp2_with fail
  go_loopw [5] (fun i wr => ∃ j : Nat, j ≤ n ∧ i = .int .i64 (j : Int) ∧ (∀ k y, k < j → xs[k]? = some y → y ≠ s) ∧ wr = w)
    (fun i _ => n - (intOf i).toNat)
  case atStart => exact ⟨0, Nat.zero_le _, rfl, fun k y h => absurd h (by omega), rfl⟩
  case round =>
    obtain ⟨j, hj, rfl, hall, rfl⟩ := hrel
    have HAL := Lib.hid hall
    clear hall
    by_cases hlt : j < n
    · have h1 : (j : Int) < (n : Int) := by omega
      have h0 : (0 : Int) ≤ (j : Int) := by omega
      obtain ⟨x, hx⟩ : ∃ x, xs[j]? = some x := ⟨_, List.getElem?_eq_getElem (by rw [HL.out]; exact hlt)⟩
      obtain ⟨b, off, rfl, _⟩ := HX.out.addr (by omega)
      have q3 : wr.cell? ⟨b, off + j, none⟩ = some (.string ⟨x.toArray⟩) := HX.out.cell1 hx rfl
      have HXX := Lib.hid hx
      have HLT := Lib.hid hlt
      have hj9 : j < 9223372036854775807 := by omega
      clear hx hlt hj
      by_cases he : x = s
      · subst he
        have hf : decide (x ∈ xs) = true := decide_eq_true (List.mem_of_getElem? HXX.out)
        rw [HR.out] at hf
        subst hf
        go_wp2_with fail
        go_ret
        exact ⟨rfl, rfl⟩
      · have hne : (x == s) = false := beq_eq_false_iff_ne.2 he
        have HE := Lib.hid he
        clear he
        go_wp2_with fail
        go_roundw
        case rel => exact ⟨j + 1, HLT.out, (by have := HLT.out; go_num), (fun k y hk hy => by
          by_cases e : k = j
          · subst e
            rw [HXX.out] at hy
            cases hy
            exact HE.out
          · exact HAL.out k y (by omega) hy), trivial⟩
        case measure =>
          have := HLT.out
          simp [intOf]
          omega
    · obtain rfl : n = j := by omega
      have h1 : ¬ (n : Int) < (n : Int) := by omega
      have hf : decide (s ∈ xs) = false := decide_eq_false (fun hm => by
        obtain ⟨k, hk⟩ := List.getElem?_of_mem hm
        have := (List.getElem?_eq_some_iff.1 hk).1
        exact HAL.out k s (by rw [← HL.out]; exact this) hk rfl)
      rw [HR.out] at hf
      subst hf
      clear hlt hj
      go_wp2_with fail
      go_ret
      exact ⟨rfl, rfl⟩
set_option maxHeartbeats 1000000 in
theorem rplain18_any {u : Nat} (hu : u < T64) (w : World) : Calls Try.prog 39 #[.float .f64 u] w fun e w' => e = .returned (.float .f64 (plainW u)) ∧ w = w' := by
  have hz := zero_order hu
  unfold plainW
  by_cases h : rgW u = 0
  · rw [if_pos h]
    rw [decide_eq_true h] at hz
    clear h hu
    go_enter Try.func39, Try.ntmps39
    go_wp2_with fail
    go_ret
    exact ⟨rfl, rfl⟩
  · rw [if_neg h]
    rw [decide_eq_false h] at hz
    clear h hu
    go_enter Try.func39, Try.ntmps39
    go_wp2_with fail
    go_ret
    exact ⟨rfl, rfl⟩
set_option maxHeartbeats 4000000 in
theorem rfindU_any {A : Option Addr} {n B : Nat} (c : Nat) {l : List Bk} (hn : n ≤ 9223372036854775807) (v : Int) (s : List UInt8) (w : World) (hB : B ≤ w.heap.size) (h : RdG eB w B A n l) :
    Calls Try.prog 38 #[.agg #[.int .i64 v, .slice A n c], .string ⟨s.toArray⟩] w fun e w' => e = .returned (.int .i64 (placeB l s)) ∧ Below w.heap.size w w' := by
  obtain ⟨Y, hY⟩ : ∃ Y, w.alloc (.cells #[.int .i64 v, .slice A n c] 24) = Y := ⟨_, rfl⟩
  have HT := Lib.hid (show Blk Y 24 w.heap.size [.int .i64 v, .slice A n c] by rw [← hY]; exact Blk_10.new w _ [.int .i64 v, .slice A n c])
  have HB := Lib.hid (show Below w.heap.size w Y by rw [← hY]; exact (Below.refl w.heap.size w).alloc (Nat.le_refl _) _)
  have HX : Hid (RdG eB Y B A n l) := Lib.hid (by rw [← hY]; exact h.alloc hB _)
  have HL := Lib.hid h.len
  have HY := Lib.hid hY
  obtain ⟨r, hr⟩ : ∃ r, placeB l s = r := ⟨_, rfl⟩
  have HR := Lib.hid hr
  rw [hr]
  clear h hr hY hB
  go_enter Try.func38, Try.ntmps38
  go_wp2_with fail
  rw [HY.out]
  go_loopw [5] (fun i wr => ∃ j : Nat, j ≤ n ∧ i = .int .i64 (j : Int) ∧ (∀ k y, k < j → l[k]? = some y → y.nm ≠ s) ∧ wr = Y)
    (fun i _ => n - (intOf i).toNat)
  case atStart => exact ⟨0, Nat.zero_le _, rfl, fun k y h => absurd h (by omega), rfl⟩
  case round =>
    obtain ⟨j, hj, rfl, hall, rfl⟩ := hrel
    have HAL := Lib.hid hall
    clear hall
    have q1 := Blk_10.cell HT.out (i := 1) (v := .slice A n c) rfl
    by_cases hlt : j < n
    · have h1 : (j : Int) < (n : Int) := by omega
      have h0 : (0 : Int) ≤ (j : Int) := by omega
      obtain ⟨x, hx⟩ : ∃ x, l[j]? = some x := ⟨_, List.getElem?_eq_getElem (by rw [HL.out]; exact hlt)⟩
      obtain ⟨b, off, rfl, _⟩ := HX.out.addr (by omega)
      have q3 : wr.cell? ⟨b, off + j * 27, none⟩ = some (.string ⟨x.nm.toArray⟩) := HX.out.cell hx 0 (bk_nm x)
      have HXX := Lib.hid hx
      have HLT := Lib.hid hlt
      have hj9 : j < 9223372036854775807 := by omega
      clear hx hlt hj
      by_cases he : x.nm = s
      · have hf := place_at HXX.out he (fun k y hk hy => HAL.out k y hk hy)
        rw [HR.out] at hf
        subst hf
        have hbe : (x.nm == s) = true := beq_iff_eq.2 he
        clear he
        go_wp2_with fail
        go_ret
        exact ⟨rfl, HB.out⟩
      · have hne : (x.nm == s) = false := beq_eq_false_iff_ne.2 he
        have HE := Lib.hid he
        clear he
        go_wp2_with fail
        go_roundw
        case rel => exact ⟨j + 1, HLT.out, (by have := HLT.out; go_num), (fun k y hk hy => by
          by_cases e : k = j
          · subst e
            rw [HXX.out] at hy
            cases hy
            exact HE.out
          · exact HAL.out k y (by omega) hy), trivial⟩
        case measure =>
          have := HLT.out
          simp [intOf]
          omega
    · obtain rfl : n = j := by omega
      have h1 : ¬ (n : Int) < (n : Int) := by omega
      have hf := place_no (l := l) (s := s) (fun b hm => by
        obtain ⟨k, hk⟩ := List.getElem?_of_mem hm
        have := (List.getElem?_eq_some_iff.1 hk).1
        exact HAL.out k b (by rw [← HL.out]; exact this) hk)
      rw [HR.out] at hf
      subst hf
      clear hlt hj
      go_wp2_with fail
      go_ret
      exact ⟨rfl, HB.out⟩
end Go.Proofs.Ytajmppaodhpmgaa
