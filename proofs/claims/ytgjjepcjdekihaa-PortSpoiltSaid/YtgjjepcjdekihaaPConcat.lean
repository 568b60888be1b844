/-
  slices.Concat at byte slices: all of them, one behind the other, in new memory.
-/
import Derived.Test.YtgjjepcjdekihaaFSum
import Derived.Lib.AppendZeros
namespace Go.Proofs.Ytgjjepcjdekihaa
open Go.RowKit Go.Lib

theorem own_zero {w : World} {base g C : Nat} {cur : Array Value} (hg : w.heap[g]? = some (.cells cur 5 (0, 0))) (hb : base ≤ g) (hC : C ≤ maxLen) (hs : cur.size = C) : Own8 w base (.slice (some ⟨g, 0, none⟩) 0 C) [] :=
  ⟨by simp, .inr ⟨g, C, cur, rfl, hb, hg, Nat.zero_le _, hC, by omega, by simp⟩⟩
theorem cut_zero8 (A : Option Addr) (len cap : Nat) (W : World) :
    (Instr.slice 22 (.slice A len cap) none (some (.int .i64 0)) none).run Try.prog W = .ok (.slice (cutA A cap 0) 0 cap) W := by
  obtain ⟨i0, hi, _, _, _⟩ := info_parts info8
  have hc := run_sliceBound (P := Try.prog) (w := W) .i64 0 cap .sliceAcap (by omega) (by omega)
  simp [Instr.slice, hc, run_underlying Try.underlying22, Instr.sliceBounds, sizeOf, typeInfo, hi, cutA]

set_option maxHeartbeats 1000000 in
/-- slices.Grow of nil. -/
theorem grow_any (n : Nat) (h0 : 0 < n) (hn : n ≤ 1000000) (w : World) :
    Calls Try.prog 39 #[.slice none 0 0, .int .i64 (n : Int)] w fun e W' => ∃ g C, e = .returned (.slice (some ⟨g, 0, none⟩) 0 C) ∧ Own8 W' w.heap.size (.slice (some ⟨g, 0, none⟩) 0 C) [] ∧ Below w.heap.size w W' := by
  obtain ⟨i0, hi, hz0, hz1, hz2⟩ := info_parts info8
  have hr := fun (W : World) (ty : TypeId) => run_append_nil_zeros (P := Try.prog) W 22 3 ty 5 i0 (.int .u8 0) .i64 .i64 Try.underlying22 Try.underlying3 hi hz0 n h0 (by omega) (by omega) (by rw [hz2]; omega)
  have HG := Lib.hid hr
  clear hr
  have hl := grownCap_ge w n 0 5
  have hm := grownCap_le_maxLen w n 0 5 (by unfold maxLen; omega)
  obtain ⟨C, hC⟩ : ∃ C, grownCap w n 0 5 = C := ⟨_, rfl⟩
  obtain ⟨cur, hcur⟩ : ∃ cur, Builtin.zeroCells (Value.int .u8 0).cells n ++ Builtin.zeroCells (Value.int .u8 0).cells (C - n) = cur := ⟨_, rfl⟩
  rw [hC] at hl hm
  have hcs : cur.size = C := by
    rw [← hcur, Array.size_append]
    simp [Builtin.zeroCells, Value.cells]
    omega
  have hG : ∀ ty, (Builtin.append_ #[22, 3] ty #[.slice none 0 0, .int .i64 (n : Int)]).run Try.prog w = .ok (.slice (some ⟨w.heap.size, 0, none⟩) n C) (w.drew.alloc (.cells cur 5)) := fun ty => by
    rw [HG.out w ty, hC, hcur]
  have hw1 : (w.drew.alloc (.cells cur 5)).heap[w.heap.size]? = some (.cells cur 5 (0, 0)) := heap_alloc_new w.drew _
  have hown := own_zero hw1 (Nat.le_refl _) hm hcs
  have hbel : Below w.heap.size w (w.drew.alloc (.cells cur 5)) := ((Below.refl w.heap.size w).drew).alloc (Nat.le_refl _) _
  have hcz := fun W => cut_zero8 none 0 0 W
  have hcz2 := fun W => cut_zero8 (some ⟨w.heap.size, 0, none⟩) n C W
  rw [show cutA none 0 0 = none from rfl] at hcz
  rw [show cutA (some ⟨w.heap.size, 0, none⟩) C 0 = some ⟨w.heap.size, 0, none⟩ by unfold cutA; rw [if_neg (by omega), Option.map_some, add_plain]] at hcz2
  have h0' : (0 : Int) < (n : Int) := by omega
  clear HG hcur hC hi hz0 hz1 hz2 hcs hm
  go_enter Try.func39, Try.ntmps39
  go_wp2_with (at_builtin; refine wpList_append_run _ rfl _ _ _ _ rfl _ _ (by rfl) (by rfl) _ _ (hG _) ?_)
  go_ret
  exact ⟨w.heap.size, C, rfl, hown, hbel⟩

theorem flat_take {l : List (List UInt8)} {k : Nat} {xs : List UInt8} (h : l[k]? = some xs) : (l.take k).flatten ++ xs = (l.take (k + 1)).flatten := by
  obtain ⟨hl, he⟩ := List.getElem?_eq_some_iff.1 h
  rw [← List.take_append_getElem hl, he, List.flatten_append]
  simp

set_option maxRecDepth 100000 in
set_option maxHeartbeats 2000000 in
/-- slices.Concat -/
theorem concat_any (A : Option Addr) (n cap : Nat) (l : List (List UInt8)) (hn : n ≤ 1000) (h0 : 0 < l.flatten.length) (hlen : l.flatten.length ≤ 1000000) (w : World) {B : Nat} (hI : LsAt w B A n l) (hB : B ≤ w.heap.size) :
    Calls Try.prog 32 #[.slice A n cap] w fun e W' => ∃ v, e = .returned v ∧ Own8 W' w.heap.size v l.flatten ∧ Below w.heap.size w W' := by
  obtain ⟨T, hT⟩ : ∃ T, l.flatten.length = T := ⟨_, rfl⟩
  rw [hT] at h0 hlen
  have HT := Lib.hid hT
  have HG := Lib.hid (grow_any T h0 hlen w)
  have HS := Lib.hid hI.size
  clear hT
  go_enter Try.func32, Try.ntmps32
  go_wp2_with fail
  go_loop [3, 11] (fun s i => ∃ (k S : Nat), k ≤ n ∧ s = .int .i64 (S : Int) ∧ i = .int .i64 (k : Int) ∧ S + (l.drop k).flatten.length = T)
    (fun _ i => n - (intOf i).toNat)
  case atStart => exact ⟨0, 0, by omega, rfl, rfl, by rw [List.drop_zero, Nat.zero_add]; exact HT.out⟩
  case round =>
    obtain ⟨k, S, hk, rfl, rfl, hs⟩ := hrel
    by_cases hlt : k < n
    · have hlt' : (k : Int) < (n : Int) := by omega
      obtain ⟨xs, hxs⟩ : ∃ xs, l[k]? = some xs := ⟨_, List.getElem?_eq_getElem (by rw [HS.out]; exact hlt)⟩
      obtain ⟨b, off, A', n', c', rfl, hc, hr⟩ := hI.at hxs
      rw [flat_drop hxs, List.length_append, hr.len] at hs
      have hneg : ¬ ((S : Int) + (n' : Int) < 0) := by omega
      have HQ := Lib.hid hs
      have hbd : S + n' ≤ 1000000 := by omega
      clear hs hxs hr
      go_wp2_with fail
      go_round
      case rel => exact ⟨k + 1, S + n', by omega, by go_num, by go_num, by rw [← HQ.out, Nat.add_assoc]⟩
      case measure => simp [intOf]; omega
    · obtain rfl : k = n := by omega
      rw [List.drop_of_length_le (by rw [HS.out]; omega)] at hs
      have hs' : S = T := hs
      subst hs'
      clear hs hlt
      go_wp2_with fail
      refine HG.out.mono ?_
      rintro e w1 ⟨g, C, rfl, ho1, hb1⟩
      go_wp2_with fail
      go_loopw [6, 27] (fun v i wr => ∃ (j : Nat), j ≤ k ∧ i = .int .i64 (j : Int) ∧ Own8 wr w.heap.size v (l.take j).flatten ∧ Below w.heap.size w wr)
        (fun _ i _ => k - (intOf i).toNat)
      case atStart => exact ⟨0, by omega, rfl, by rw [List.take_zero]; exact ho1, hb1⟩
      case round =>
        clear ho1 hb1
        obtain ⟨j, hj, rfl, hown, hbel⟩ := hrel
        have hsz := hbel.size
        have hI2 := hI.below (hbel.mono hB)
        by_cases hlt : j < k
        · have hlt' : (j : Int) < (k : Int) := by omega
          obtain ⟨xs, hxs⟩ : ∃ xs, l[j]? = some xs := ⟨_, List.getElem?_eq_getElem (by rw [HS.out]; exact hlt)⟩
          obtain ⟨b, off, A', n', c', rfl, hc, hr⟩ := hI2.at hxs
          have ht := flat_take hxs
          have hbd : (l.take j).flatten.length + n' ≤ 1000000 := by
            have e : l.flatten = (l.take j).flatten ++ (l.drop j).flatten := by rw [← List.flatten_append, List.take_append_drop]
            have e2 := HT.out
            rw [e, flat_drop hxs, List.length_append, List.length_append, hr.len] at e2
            omega
          have HQ := Lib.hid ht
          have HB := Lib.hid hbd
          clear ht hxs hbd
          go_wp2_with (at_builtin; refine wpList_append8 rfl _ _ rfl w.heap.size _ _ (by rfl) hown _ _ _ _ xs (by rfl) hr (by have := HB.out; omega) hsz ?_; intro v' w3 ho' hg' _)
          have hb3 := hbel.grown hg' hsz hown.lt
          rw [HQ.out] at ho'
          go_wp2_with fail
          go_roundw
          case rel => exact ⟨j + 1, by omega, by go_num, ho', hb3⟩
          case measure => simp [intOf]; omega
        · obtain rfl : j = k := by omega
          rw [List.take_of_length_le (by rw [HS.out]; omega)] at hown
          go_wp2_with fail
          go_ret
          exact ⟨_, rfl, hown, hbel⟩
end Go.Proofs.Ytgjjepcjdekihaa
