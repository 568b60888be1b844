/-
  The document's Few, Short, Find, Texts and Down.
-/
import Derived.Test.YteljijjebocbiaaYCell
namespace Go.Proofs.Yteljijjebocbiaa
set_option maxRecDepth 100000
open Go.RowKit Go.Lib

def fewK (l : List (List UInt8)) : Bool := decide (l.length ≤ 50) && l.all fun x => decide (x.length ≤ 60)
theorem fewK_iff (l : List (List UInt8)) : fewK l = true ↔ l.length ≤ 50 ∧ ∀ x, x ∈ l → x.length ≤ 60 := by
  unfold fewK
  simp
theorem fewK_long {l : List (List UInt8)} {j : Nat} {x : List UInt8} (hx : l[j]? = some x) (h : ¬ x.length ≤ 60) : fewK l = false := by
  apply Bool.eq_false_iff.2
  intro h2
  exact h (((fewK_iff l).1 h2).2 x (List.mem_of_getElem? hx))
theorem fewK_end {l : List (List UInt8)} {k : Nat} (hk : ∀ j x, j < k → l[j]? = some x → x.length ≤ 60) (h : l.length ≤ k ∨ 60 ≤ k ∧ k ≤ l.length) : fewK l = decide ((l.length : Int) ≤ 50) := by
  by_cases h1 : l.length ≤ 50
  · rw [decide_eq_true (by omega)]
    refine (fewK_iff l).2 ⟨h1, fun x hx => ?_⟩
    obtain ⟨j, hj⟩ := List.getElem?_of_mem hx
    have := (List.getElem?_eq_some_iff.1 hj).1
    exact hk j x (by omega) hj
  · rw [decide_eq_false (by omega)]
    apply Bool.eq_false_iff.2
    intro h2
    exact h1 ((fewK_iff l).1 h2).1
def nmsH (l : List Hl) : List (List UInt8) := l.map (·.nm)
theorem nms_at {l : List Hl} {k : Nat} {x : Hl} (h : l[k]? = some x) : (nmsH l)[k]? = some x.nm := by unfold nmsH; rw [List.getElem?_map, h]; rfl
theorem nms_len (l : List Hl) : (nmsH l).length = l.length := List.length_map _
/-- The place of a name's first health, or -1. -/
def placeH (l : List (List UInt8)) (s : List UInt8) : Int := match l.findIdx? (fun b => decide (b = s)) with
  | some k => (k : Int)
  | none => -1
theorem placeH_at {l : List (List UInt8)} {s : List UInt8} {k : Nat} (hb : l[k]? = some s) (hn : ∀ j c, j < k → l[j]? = some c → c ≠ s) : placeH l s = (k : Int) := by
  have e : l.findIdx? (fun b => decide (b = s)) = some k := by
    rw [List.findIdx?_eq_some_iff_getElem]
    obtain ⟨hk, hk2⟩ := List.getElem?_eq_some_iff.1 hb
    refine ⟨hk, by rw [hk2]; exact decide_eq_true rfl, fun j hj => ?_⟩
    have h9 := hn j _ hj (List.getElem?_eq_getElem (Nat.lt_trans hj hk))
    simp [h9]
  unfold placeH
  rw [e]
theorem placeH_no {l : List (List UInt8)} {s : List UInt8} (hn : ∀ b, b ∈ l → b ≠ s) : placeH l s = -1 := by
  have e : l.findIdx? (fun b => decide (b = s)) = none := by
    rw [List.findIdx?_eq_none_iff]
    exact fun b hb => decide_eq_false (hn b hb)
  unfold placeH
  rw [e]
set_option maxHeartbeats 4000000 in
theorem rfewH_any {A : Option Addr} {n B : Nat} (c : Nat) {l : List Hl} (hn : n ≤ 9223372036854775807) (w : World) (h : RdG eH w B A n l) :
    Calls Try.prog 15 #[.slice A n c] w fun e w' => e = .returned (.bool (fewK (nmsH l))) ∧ w' = w := by
  have HX := Lib.hid h
  have HL := Lib.hid h.len
  obtain ⟨R, hRR⟩ : ∃ R, fewK (nmsH l) = R := ⟨_, rfl⟩
  rw [hRR]
  have HF := Lib.hid hRR
  clear h hRR
  go_enter Try.func15, Try.ntmps15
  go_wp2_with fail
  go_loop [3] (fun i => ∃ k : Nat, k ≤ n ∧ k ≤ 60 ∧ i = .int .i64 (k : Int) ∧ Hid (∀ j x, j < k → (nmsH l)[j]? = some x → x.length ≤ 60))
    (fun i => 100 - (intOf i).toNat)
  case atStart => exact ⟨0, Nat.zero_le _, by omega, rfl, Lib.hid (fun j x hj _ => absurd hj (by omega))⟩
  case round =>
    obtain ⟨k, hk, hk5, rfl, HK⟩ := hrel
    by_cases hlt : k < n ∧ k < 60
    · obtain ⟨hlt, hl5⟩ := hlt
      have h1 : (k : Int) < (n : Int) := by omega
      have h2 : (k : Int) < 60 := by omega
      have h0 : (0 : Int) ≤ (k : Int) := by omega
      obtain ⟨b, off, rfl, _⟩ := HX.out.addr (by omega)
      obtain ⟨x, hx⟩ : ∃ x, l[k]? = some x := ⟨_, List.getElem?_eq_getElem (by rw [HL.out]; exact hlt)⟩
      have q3 : w.cell? ⟨b, off + k * 3, none⟩ = some (.string ⟨x.nm.toArray⟩) := HX.out.cell hx 0 rfl
      obtain ⟨m, hm⟩ : ∃ m, x.nm.length = m := ⟨_, rfl⟩
      have hs : (ByteArray.mk x.nm.toArray).size = m := by rw [← hm]; rfl
      have HXX := Lib.hid (nms_at hx)
      have HM := Lib.hid hm
      clear hm hx
      by_cases h3 : m ≤ 60
      · have h4 : ¬ 60 < (m : Int) := by omega
        clear hlt hl5
        go_wp2_with fail
        go_round
        case rel =>
          refine ⟨k + 1, by omega, by omega, by go_num, Lib.hid (fun j y hj hy => ?_)⟩
          rcases Nat.lt_or_ge j k with h5 | h5
          · exact HK.out j y h5 hy
          · obtain rfl : j = k := by omega
            rw [HXX.out] at hy
            cases hy
            rw [HM.out]
            exact h3
        case measure => simp [intOf]; omega
      · have h4 : 60 < (m : Int) := by omega
        have hv : R = false := by
          rw [← HF.out]
          exact fewK_long HXX.out (by rw [HM.out]; exact h3)
        subst hv
        clear hlt hl5
        go_wp2_with fail
        go_ret
        exact ⟨rfl, rfl⟩
    · have hv : R = decide ((n : Int) ≤ 50) := by
        rw [← HF.out, ← HL.out, ← nms_len]
        exact fewK_end HK.out (by rw [nms_len, HL.out]; omega)
      subst hv
      by_cases h5 : k < n
      · have h1 : (k : Int) < (n : Int) := by omega
        have h2 : ¬ (k : Int) < 60 := by omega
        go_wp2_with fail
        go_ret
        exact ⟨rfl, rfl⟩
      · have h1 : ¬ (k : Int) < (n : Int) := by omega
        go_wp2_with fail
        go_ret
        exact ⟨rfl, rfl⟩
set_option maxHeartbeats 4000000 in
theorem rshort_any {A : Option Addr} {n B : Nat} (c : Nat) {l : List (List UInt8)} (hn : n ≤ 9223372036854775807) (w : World) (h : RdG eN w B A n l) :
    Calls Try.prog 16 #[.slice A n c] w fun e w' => e = .returned (.bool (fewK l)) ∧ w' = w := by
  have HX := Lib.hid h
  have HL := Lib.hid h.len
  obtain ⟨R, hRR⟩ : ∃ R, fewK l = R := ⟨_, rfl⟩
  rw [hRR]
  have HF := Lib.hid hRR
  clear h hRR
  go_enter Try.func16, Try.ntmps16
  go_wp2_with fail
  go_loop [3] (fun i => ∃ k : Nat, k ≤ n ∧ k ≤ 60 ∧ i = .int .i64 (k : Int) ∧ Hid (∀ j x, j < k → l[j]? = some x → x.length ≤ 60))
    (fun i => 100 - (intOf i).toNat)
  case atStart => exact ⟨0, Nat.zero_le _, by omega, rfl, Lib.hid (fun j x hj _ => absurd hj (by omega))⟩
  case round =>
    obtain ⟨k, hk, hk5, rfl, HK⟩ := hrel
    by_cases hlt : k < n ∧ k < 60
    · obtain ⟨hlt, hl5⟩ := hlt
      have h1 : (k : Int) < (n : Int) := by omega
      have h2 : (k : Int) < 60 := by omega
      have h0 : (0 : Int) ≤ (k : Int) := by omega
      obtain ⟨b, off, rfl, _⟩ := HX.out.addr (by omega)
      obtain ⟨x, hx⟩ : ∃ x, l[k]? = some x := ⟨_, List.getElem?_eq_getElem (by rw [HL.out]; exact hlt)⟩
      have q3 : w.cell? ⟨b, off + k, none⟩ = some (.string ⟨x.toArray⟩) := HX.out.cell1 hx rfl
      obtain ⟨m, hm⟩ : ∃ m, x.length = m := ⟨_, rfl⟩
      have hs : (ByteArray.mk x.toArray).size = m := by rw [← hm]; rfl
      have HXX := Lib.hid hx
      have HM := Lib.hid hm
      clear hm hx
      by_cases h3 : m ≤ 60
      · have h4 : ¬ 60 < (m : Int) := by omega
        clear hlt hl5
        go_wp2_with fail
        go_round
        case rel =>
          refine ⟨k + 1, by omega, by omega, by go_num, Lib.hid (fun j y hj hy => ?_)⟩
          rcases Nat.lt_or_ge j k with h5 | h5
          · exact HK.out j y h5 hy
          · obtain rfl : j = k := by omega
            rw [HXX.out] at hy
            cases hy
            rw [HM.out]
            exact h3
        case measure => simp [intOf]; omega
      · have h4 : 60 < (m : Int) := by omega
        have hv : R = false := by
          rw [← HF.out]
          exact fewK_long HXX.out (by rw [HM.out]; exact h3)
        subst hv
        clear hlt hl5
        go_wp2_with fail
        go_ret
        exact ⟨rfl, rfl⟩
    · have hv : R = decide ((n : Int) ≤ 50) := by
        rw [← HF.out, ← HL.out]
        exact fewK_end HK.out (by rw [HL.out]; omega)
      subst hv
      by_cases h5 : k < n
      · have h1 : (k : Int) < (n : Int) := by omega
        have h2 : ¬ (k : Int) < 60 := by omega
        go_wp2_with fail
        go_ret
        exact ⟨rfl, rfl⟩
      · have h1 : ¬ (k : Int) < (n : Int) := by omega
        go_wp2_with fail
        go_ret
        exact ⟨rfl, rfl⟩
set_option maxHeartbeats 4000000 in
theorem rfindH_any {A : Option Addr} {n B : Nat} (c : Nat) {l : List Hl} (hn : n ≤ 9223372036854775807) (s : List UInt8) (w : World) (h : RdG eH w B A n l) :
    Calls Try.prog 31 #[.slice A n c, .string ⟨s.toArray⟩] w fun e w' => e = .returned (.int .i64 (placeH (nmsH l) s)) ∧ w' = w := by
  have HX := Lib.hid h
  have HL := Lib.hid h.len
  obtain ⟨r, hr⟩ : ∃ r, placeH (nmsH l) s = r := ⟨_, rfl⟩
  have HR := Lib.hid hr
  rw [hr]
  clear h hr
  go_enter Try.func31, Try.ntmps31
  go_wp2_with fail
  go_loop [5] (fun i => ∃ j : Nat, j ≤ n ∧ i = .int .i64 (j : Int) ∧ Hid (∀ k y, k < j → (nmsH l)[k]? = some y → y ≠ s))
    (fun i => n - (intOf i).toNat)
  case atStart => exact ⟨0, Nat.zero_le _, rfl, Lib.hid (fun k y h => absurd h (by omega))⟩
  case round =>
    obtain ⟨j, hj, rfl, HAL⟩ := hrel
    by_cases hlt : j < n
    · have h1 : (j : Int) < (n : Int) := by omega
      have h0 : (0 : Int) ≤ (j : Int) := by omega
      obtain ⟨x, hx⟩ : ∃ x, l[j]? = some x := ⟨_, List.getElem?_eq_getElem (by rw [HL.out]; exact hlt)⟩
      obtain ⟨b, off, rfl, _⟩ := HX.out.addr (by omega)
      have q3 : w.cell? ⟨b, off + j * 3, none⟩ = some (.string ⟨x.nm.toArray⟩) := HX.out.cell hx 0 rfl
      have HXX := Lib.hid (nms_at hx)
      have HLT := Lib.hid hlt
      have hj9 : j < 9223372036854775807 := by omega
      clear hx hlt hj
      obtain ⟨y, hy⟩ : ∃ y, x.nm = y := ⟨_, rfl⟩
      rw [hy] at q3 HXX
      clear hy
      by_cases he : y = s
      · subst he
        have hf := placeH_at HXX.out (fun k y hk hy => HAL.out k y hk hy)
        rw [HR.out] at hf
        subst hf
        go_wp2_with fail
        go_ret
        exact ⟨rfl, rfl⟩
      · have hne : (y == s) = false := beq_eq_false_iff_ne.2 he
        have HE := Lib.hid he
        clear he
        go_wp2_with fail
        go_round
        case rel => exact ⟨j + 1, HLT.out, (by have := HLT.out; go_num), Lib.hid (fun k y hk hy => by
          by_cases e : k = j
          · subst e
            rw [HXX.out] at hy
            cases hy
            exact HE.out
          · exact HAL.out k y (by omega) hy)⟩
        case measure =>
          have := HLT.out
          simp [intOf]
          omega
    · obtain rfl : n = j := by omega
      have h1 : ¬ (n : Int) < (n : Int) := by omega
      have hf : placeH (nmsH l) s = -1 := placeH_no (fun b hb => by
        obtain ⟨k, hk⟩ := List.getElem?_of_mem hb
        have := (List.getElem?_eq_some_iff.1 hk).1
        rw [nms_len] at this
        exact HAL.out k b (by rw [← HL.out]; exact this) hk)
      rw [HR.out] at hf
      subst hf
      clear hlt hj
      go_wp2_with fail
      go_ret
      exact ⟨rfl, rfl⟩
theorem list_diff {α : Type} {l m : List α} {k : Nat} {x y : α} (hx : l[k]? = some x) (hy : m[k]? = some y) (hne : x ≠ y) : l ≠ m := by
  intro e
  subst e
  rw [hx] at hy
  exact hne (Option.some.inj hy)
theorem list_same {α : Type} {l m : List α} (hl : l.length = m.length) (h : ∀ j, j < l.length → l[j]? = m[j]?) : l = m := by
  apply List.ext_getElem? 
  intro j
  by_cases hj : j < l.length
  · exact h j hj
  · rw [List.getElem?_eq_none (by omega), List.getElem?_eq_none (by omega)]
set_option maxHeartbeats 4000000 in
theorem rtexts_any {A A' : Option Addr} {n n' B B' : Nat} (c c' : Nat) {l m : List (List UInt8)} (hn : n ≤ 9223372036854775807) (w : World) (h : RdG eN w B A n l) (h' : RdG eN w B' A' n' m) :
    Calls Try.prog 20 #[.slice A n c, .slice A' n' c'] w fun e w' => e = .returned (.bool (decide (l = m))) ∧ Below w.heap.size w w' := by
  have HR := Lib.hid h
  have HR2 := Lib.hid h'
  have HL := Lib.hid h.len
  have HL2 := Lib.hid h'.len
  obtain ⟨R, hRR⟩ : ∃ R, decide (l = m) = R := ⟨_, rfl⟩
  rw [hRR]
  have HF := Lib.hid hRR
  clear h h' hRR
  by_cases hnn : n = n'
  case neg =>
    have h1 : ((n : Int) != (n' : Int)) = true := by
      rw [bne_iff_ne]
      omega
    have hf : R = false := by
      rw [← HF.out]
      exact decide_eq_false (fun e => hnn (by rw [← HL.out, ← HL2.out, e]))
    subst hf
    clear hnn
    go_enter Try.func20, Try.ntmps20
    go_wp2_with fail
    go_ret
    exact ⟨rfl, Below.refl _ _⟩
  subst hnn
  have hnn : ((n : Int) != (n : Int)) = false := by simp
  go_enter Try.func20, Try.ntmps20
  go_wp2_with fail
  go_loopw [5] (fun i wr => ∃ k : Nat, k ≤ n ∧ i = .int .i64 (k : Int) ∧ Hid (∀ j, j < k → l[j]? = m[j]?) ∧ Below w.heap.size w wr ∧ wr.heap = w.heap)
    (fun i _ => n - (intOf i).toNat)
  case atStart => exact ⟨0, Nat.zero_le _, rfl, Lib.hid (fun j hj => absurd hj (by omega)), Below.refl _ _, rfl⟩
  case round =>
    obtain ⟨k, hk, rfl, HAL, hbel, hheap⟩ := hrel
    by_cases hlt : k < n
    · have h1 : (k : Int) < (n : Int) := by omega
      have h0 : (0 : Int) ≤ (k : Int) := by omega
      obtain ⟨b, off, rfl, _⟩ := HR.out.addr (by omega)
      obtain ⟨b', off', rfl, _⟩ := HR2.out.addr (by omega)
      obtain ⟨x, hx⟩ : ∃ x, l[k]? = some x := ⟨_, List.getElem?_eq_getElem (by rw [HL.out]; exact hlt)⟩
      obtain ⟨y, hy⟩ : ∃ y, m[k]? = some y := ⟨_, List.getElem?_eq_getElem (by rw [HL2.out]; exact hlt)⟩
      have ec : ∀ p : Addr, wr.cell? p = w.cell? p := fun p => by unfold World.cell?; rw [hheap]
      have c1 := (ec _).trans (HR.out.cell1 hx (u := .string ⟨x.toArray⟩) rfl)
      have c2 := (ec _).trans (HR2.out.cell1 hy (u := .string ⟨y.toArray⟩) rfl)
      have HXX := Lib.hid hx
      have HYY := Lib.hid hy
      have HLT := Lib.hid hlt
      have HBE := Lib.hid hbel
      have HHE := Lib.hid hheap
      clear ec hx hy hbel hheap hlt
      by_cases he : x = y
      · subst he
        have hxx : (x != x) = false := by simp
        go_wp2_with fail
        go_quiet (fail)
        go_wp2_with fail
        go_roundw
        case rel => exact ⟨k + 1, HLT.out, (by have := HLT.out; go_num), Lib.hid (fun j hj => by
          by_cases e : j = k
          · subst e
            rw [HXX.out, HYY.out]
          · exact HAL.out j (by omega)), ⟨HBE.out.os, HBE.out.tape, HBE.out.output, HBE.out.size, HBE.out.block⟩, HHE.out⟩
        case measure =>
          have := HLT.out
          simp [intOf]
          omega
      · have hxy : (x == y) = false := beq_eq_false_iff_ne.2 he
        have hf : R = false := by
          rw [← HF.out]
          exact decide_eq_false (list_diff HXX.out HYY.out he)
        subst hf
        clear he
        go_wp2_with fail
        go_quiet (fail)
        go_wp2_with fail
        go_ret
        exact ⟨rfl, ⟨HBE.out.os, HBE.out.tape, HBE.out.output, HBE.out.size, HBE.out.block⟩⟩
    · obtain rfl : k = n := by omega
      have h1 : ¬ (k : Int) < (k : Int) := by omega
      have hf : R = true := by
        rw [← HF.out]
        exact decide_eq_true (list_same (by rw [HL.out, HL2.out]) (fun j hj => HAL.out j (by rw [← HL.out]; exact hj)))
      subst hf
      have HBE := Lib.hid hbel
      clear hbel hheap hlt hk
      go_wp2_with fail
      go_ret
      exact ⟨rfl, HBE.out⟩
/-- Who is down. -/
def downL (l : List Hl) : List (List UInt8) := (l.filter (·.dn)).map (·.nm)
theorem down_succ {l : List Hl} {k : Nat} {x : Hl} (h : l[k]? = some x) : downL (l.take (k + 1)) = downL (l.take k) ++ (if x.dn = true then [x.nm] else []) := by
  have e : l.take (k + 1) = l.take k ++ [x] := by rw [List.take_add_one, h]; rfl
  unfold downL
  rw [e, List.filter_append, List.map_append]
  cases hd : x.dn <;> simp [hd]
theorem down_len (l : List Hl) (k : Nat) : (downL (l.take k)).length ≤ k := by
  unfold downL
  rw [List.length_map]
  exact Nat.le_trans (List.length_filter_le _ _) (List.length_take_le _ _)
set_option maxHeartbeats 8000000 in
theorem rdown_any {A : Option Addr} {n B : Nat} (c : Nat) {l : List Hl} (hn : n ≤ 1000000) (w : World) (hB : B ≤ w.heap.size) (h : RdG eH w B A n l) :
    Calls Try.prog 22 #[.slice A n c] w fun e w' => ∃ r, e = .returned r ∧ OwnG eN w' w.heap.size r (downL l) ∧ Below w.heap.size w w' := by
  have HX := Lib.hid h
  have HL := Lib.hid h.len
  have HB := Lib.hid hB
  clear h hB
  go_enter Try.func22, Try.ntmps22
  go_wp2_with fail
  go_loopw [3, 4] (fun t i wr => ∃ k : Nat, k ≤ n ∧ i = .int .i64 (k : Int) ∧ OwnG eN wr w.heap.size t (downL (l.take k)) ∧ Below w.heap.size w wr) (fun _ i _ => n - (intOf i).toNat)
  case atStart => exact ⟨0, Nat.zero_le _, rfl, OwnG.nil_ eN _ _, Below.refl _ _⟩
  case round =>
    obtain ⟨k, hk, rfl, hown, hw⟩ := hrel
    have HW := Lib.hid hw
    have HO := Lib.hid hown
    clear hw hown
    by_cases hlt : k < n
    · have h1 : (k : Int) < (n : Int) := by omega
      have h0 : (0 : Int) ≤ (k : Int) := by omega
      obtain ⟨b, off, rfl, _⟩ := HX.out.addr (by omega)
      obtain ⟨x, hx⟩ : ∃ x, l[k]? = some x := ⟨_, List.getElem?_eq_getElem (by rw [HL.out]; exact hlt)⟩
      have HRW := Lib.hid (HX.out.below (HW.out.mono HB.out))
      obtain ⟨nm, hnm⟩ : ∃ y, x.nm = y := ⟨_, rfl⟩
      obtain ⟨dn, hdn⟩ : ∃ y, x.dn = y := ⟨_, rfl⟩
      have d0 : wr.cell? ⟨b, off + k * 3, none⟩ = some (.string ⟨nm.toArray⟩) := by rw [← hnm]; exact HRW.out.cell hx 0 rfl
      have d1 : wr.cell? ⟨b, off + k * 3 + 1, none⟩ = some (.bool dn) := by rw [← hdn]; exact HRW.out.cell hx 1 rfl
      have HU : Hid (downL (l.take (k + 1)) = downL (l.take k) ++ (if dn = true then [nm] else [])) := Lib.hid (by rw [down_succ hx, hnm, hdn])
      have HLTN := Lib.hid hlt
      have HLK : Hid ((downL (l.take k)).length + 1 ≤ 100000000) := Lib.hid (by have := down_len l k; omega)
      have hk9 : k < 9223372036854775807 := by omega
      clear hx hlt hnm hdn
      cases dn
      · go_wp2_with fail
        refine ⟨⟨k + 1, HLTN.out, by go_num, by rw [HU.out, if_neg (by decide), List.append_nil]; exact HO.out, HW.out⟩, ?_⟩
        have := HLTN.out
        simp [intOf]
        omega
      · go_wp2_with (at_builtin; refine wpList_appendG eN rfl _ _ rfl w.heap.size _ _ (by rfl) (HO.out.alloc _) (wr.heap.size + 1) _ 1 1 [nm] (by rfl) (RdG.laid eN wr [nm] 1 rfl _ rfl) HLK.out (by simp; exact Nat.le_succ_of_le HW.out.size) ?_; intro v' w5 ho5 hg5 _; have hb5 := Lib.hid ((HW.out.alloc HW.out.size (.cells #[.string ⟨nm.toArray⟩] 9)).grown hg5 (by simp; exact Nat.le_succ_of_le HW.out.size) HO.out.lt); have ho6 := Lib.hid ho5; clear ho5 hg5)
        refine ⟨⟨k + 1, HLTN.out, by go_num, by rw [HU.out, if_pos rfl]; exact ho6.out, hb5.out⟩, ?_⟩
        have := HLTN.out
        simp [intOf]
        omega
    · obtain rfl : k = n := by omega
      have h1 : ¬ (k : Int) < (k : Int) := by omega
      have HTK : Hid (l.take k = l) := Lib.hid (List.take_of_length_le (Nat.le_of_eq HL.out))
      rw [HTK.out] at HO
      clear hlt hk
      go_wp2_with fail
      go_ret
      exact ⟨_, rfl, HO.out, HW.out⟩
end Go.Proofs.Yteljijjebocbiaa
