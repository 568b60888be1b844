/-
  The document's answer of layer 6 for pseudo headers.
-/
import Derived.Test.YtgjjepcjdekihaaPPseudo
namespace Go.Proofs.Ytgjjepcjdekihaa
open Go.RowKit Go.Lib

set_option maxRecDepth 100000 in
set_option maxHeartbeats 2000000 in
/-- The reference's Pseudo, of addresses of IPv4. -/
theorem rpseudo_four (a b : List UInt8) (ha : a.length = 16) (hb : b.length = 16) (p l : Nat) (hp : p < 256) (hl : l < 65536) (w : World) :
    Calls Try.prog 33 #[.agg (addrC false a), .agg (addrC false b), .int .i64 (p : Int), .int .i64 (l : Int)] w fun e W' => ∃ v, e = .returned v ∧ Own8 W' w.heap.size v (pseudoOf false a b p l) ∧ Below w.heap.size w W' := by
  have c0 := addrC_six w 35 false a
  have r0 := (addrC_rd w 35 false a 16 ha).alloc (by simp) (.cells (addrC false b) 35)
  have c0' : ((w.alloc (.cells (addrC false a) 35)).alloc (.cells (addrC false b) 35)).cell? ⟨w.heap.size, 0, none⟩ = some (.bool false) := by rw [World.cell?_alloc_lt _ _ _ (by simp)]; exact c0
  have r1 := addrC_rd (w.alloc (.cells (addrC false a) 35)) 35 false b 16 hb
  obtain ⟨C0, hC0⟩ : ∃ C, addrC false a = C := ⟨_, rfl⟩
  obtain ⟨C1, hC1⟩ : ∃ C, addrC false b = C := ⟨_, rfl⟩
  rw [hC0] at c0' r0 r1 ⊢
  rw [hC1] at c0' r0 r1 ⊢
  have hbw := ((Below.refl w.heap.size w).alloc (Nat.le_refl _) (.cells C0 35)).alloc (by simp) (.cells C1 35)
  have hsz : ((w.alloc (.cells C0 35)).alloc (.cells C1 35)).heap.size = w.heap.size + 1 + 1 := by simp
  simp only [World.size_alloc] at r1
  have htail := tail_four p l hp hl
  have hpl : p < 256 := hp
  obtain ⟨T, hT⟩ : ∃ T : List UInt8, [0, UInt8.ofNat p, UInt8.ofNat (l / 256), UInt8.ofNat (l % 256)] = T := ⟨_, rfl⟩
  have hTl : T.length = 4 := by rw [← hT]; rfl
  have hfin : pseudoOf false a b p l = a.take 4 ++ (b.take 4 ++ T) := by rw [← hT]; rfl
  rw [hT] at htail
  rw [hfin]
  have HA := Lib.hid ha
  have HBL := Lib.hid hb
  have HT := Lib.hid htail
  have HTL := Lib.hid hTl
  clear hC0 hC1 c0 hT hTl htail ha hb hfin
  go_enter Try.func33, Try.ntmps33
  go_wp2_with fail
  generalize (w.alloc (.cells C0 35)).alloc (.cells C1 35) = w2 at hbw hsz r0 r1 c0' ⊢
  have HZ := Lib.hid hsz
  clear hsz
  have z2 : w.heap.size + 1 + 1 ≤ w2.heap.size := by rw [HZ.out]; exact Nat.le_refl _
  have R0 := r0.more (B' := w2.heap.size) (by omega)
  have R1 := r1.more (B' := w2.heap.size) (by omega)
  clear r0 r1
  go_loopw [9, 11] (fun v i wr => ∃ (k : Nat), k ≤ 4 ∧ i = .int .i64 (k : Int) ∧ Own8 wr w2.heap.size v (a.take k) ∧ Below w2.heap.size w2 wr) (fun _ i _ => 4 - (intOf i).toNat)
  case atStart => exact ⟨0, by omega, rfl, by rw [List.take_zero]; exact Own8.nil_ _ _, Below.refl _ _⟩
  case round =>
    obtain ⟨k, hk, rfl, hown, hbel⟩ := hrel
    have hsz := hbel.size
    by_cases hlt : k < 4
    · have hlt' : (k : Int) < 4 := by omega
      have hx := (R0.below hbel).cell (k := k) (by omega)
      obtain ⟨x, ex⟩ : ∃ x, a[k]'(by rw [HA.out]; omega) = x := ⟨_, rfl⟩
      rw [ex] at hx
      have ht : a.take k ++ [x] = a.take (k + 1) := by rw [← ex]; exact List.take_append_getElem (by rw [HA.out]; omega)
      have HK := Lib.hid ht
      have hkl : (k : Int) < 16 := by omega
      clear ht ex
      go_wp2_with (at_builtin; refine wpList_append8 rfl _ _ rfl w2.heap.size _ (a.take k) (by rfl) (hown.alloc _) _ _ _ _ [x] (by rfl) (Rd.one wr x) (by rw [List.length_take]; omega) (by simp; omega) ?_; intro v' w3 ho' hg' _)
      have hb3 := (hbel.alloc hsz (.cells #[.int .u8 (x.toNat : Int)] 5)).grown hg' (by simp; omega) hown.lt
      rw [HK.out] at ho'
      go_wp2_with fail
      go_roundw
      case rel => exact ⟨k + 1, by omega, by go_num, ho', hb3⟩
      case measure => simp [intOf]; omega
    · have hkN : k = 4 := by omega
      have hlt' : ¬ (k : Int) < 4 := by omega
      rw [hkN] at hown
      clear hlt hkN hk
      go_wp2_with fail
      go_loopw [9, 12] (fun v i wr => ∃ (j : Nat), j ≤ 4 ∧ i = .int .i64 (j : Int) ∧ Own8 wr w2.heap.size v (a.take 4 ++ b.take j) ∧ Below w2.heap.size w2 wr) (fun _ i _ => 4 - (intOf i).toNat)
      case atStart => exact ⟨0, by omega, rfl, by rw [List.take_zero, List.append_nil]; exact hown, hbel⟩
      case round =>
        clear hown hbel hsz
        obtain ⟨k, hk, rfl, hown, hbel⟩ := hrel
        have hsz := hbel.size
        by_cases hlt : k < 4
        · have hlt' : (k : Int) < 4 := by omega
          have hx := (R1.below hbel).cell (k := k) (by omega)
          obtain ⟨x, ex⟩ : ∃ x, b[k]'(by rw [HBL.out]; omega) = x := ⟨_, rfl⟩
          rw [ex] at hx
          have ht : (a.take 4 ++ b.take k) ++ [x] = a.take 4 ++ b.take (k + 1) := by rw [← ex, List.append_assoc, List.take_append_getElem (by rw [HBL.out]; omega)]
          have HK := Lib.hid ht
          have hkl : (k : Int) < 16 := by omega
          clear ht ex
          go_wp2_with (at_builtin; refine wpList_append8 rfl _ _ rfl w2.heap.size _ (a.take 4 ++ b.take k) (by rfl) (hown.alloc _) _ _ _ _ [x] (by rfl) (Rd.one wr x) (by rw [List.length_append, List.length_take, List.length_take]; omega) (by simp; omega) ?_; intro v' w3 ho' hg' _)
          have hb3 := (hbel.alloc hsz (.cells #[.int .u8 (x.toNat : Int)] 5)).grown hg' (by simp; omega) hown.lt
          rw [HK.out] at ho'
          go_wp2_with fail
          go_roundw
          case rel => exact ⟨k + 1, by omega, by go_num, ho', hb3⟩
          case measure => simp [intOf]; omega
        · have hkN : k = 4 := by omega
          have hlt' : ¬ (k : Int) < 4 := by omega
          rw [hkN] at hown
          clear hlt hkN hk
          have hc := (hbel.cell (p := ⟨w.heap.size, 0, none⟩) (by show w.heap.size < w2.heap.size; omega)).trans c0'
          have hrt := Rd.laid wr T 4 HTL.out
          rw [HT.out] at hrt
          go_wp2_with (at_builtin; refine wpList_append8 rfl _ _ rfl w2.heap.size _ (a.take 4 ++ b.take 4) (by rfl) (hown.alloc _) _ _ _ _ T (by rfl) hrt (by rw [List.length_append, List.length_take, List.length_take]; omega) (by simp; omega) ?_; intro v' w3 ho' hg' _)
          have hb3 := (hbel.alloc hsz (.cells #[.int .u8 0, .int .u8 (p : Int), .int .u8 ((l : Int) / 256), .int .u8 ((l : Int) % 256)] 5)).grown hg' (by simp; omega) hown.lt
          rw [List.append_assoc] at ho'
          go_wp2_with fail
          go_ret
          exact ⟨_, rfl, ho'.base_le (by omega), hbw.trans (hb3.mono (by omega))⟩

set_option maxRecDepth 100000 in
set_option maxHeartbeats 2000000 in
/-- The reference's Pseudo, of other addresses. -/
theorem rpseudo_six (a b : List UInt8) (ha : a.length = 16) (hb : b.length = 16) (p l : Nat) (hp : p < 256) (hl : l < 65536) (w : World) :
    Calls Try.prog 33 #[.agg (addrC true a), .agg (addrC true b), .int .i64 (p : Int), .int .i64 (l : Int)] w fun e W' => ∃ v, e = .returned v ∧ Own8 W' w.heap.size v (pseudoOf true a b p l) ∧ Below w.heap.size w W' := by
  have c0 := addrC_six w 35 true a
  have r0 := (addrC_rd w 35 true a 16 ha).alloc (by simp) (.cells (addrC true b) 35)
  have c0' : ((w.alloc (.cells (addrC true a) 35)).alloc (.cells (addrC true b) 35)).cell? ⟨w.heap.size, 0, none⟩ = some (.bool true) := by rw [World.cell?_alloc_lt _ _ _ (by simp)]; exact c0
  have r1 := addrC_rd (w.alloc (.cells (addrC true a) 35)) 35 true b 16 hb
  obtain ⟨C0, hC0⟩ : ∃ C, addrC true a = C := ⟨_, rfl⟩
  obtain ⟨C1, hC1⟩ : ∃ C, addrC true b = C := ⟨_, rfl⟩
  rw [hC0] at c0' r0 r1 ⊢
  rw [hC1] at c0' r0 r1 ⊢
  have hbw := ((Below.refl w.heap.size w).alloc (Nat.le_refl _) (.cells C0 35)).alloc (by simp) (.cells C1 35)
  have hsz : ((w.alloc (.cells C0 35)).alloc (.cells C1 35)).heap.size = w.heap.size + 1 + 1 := by simp
  simp only [World.size_alloc] at r1
  have htail := tail_six p l hp hl
  have hpl : p < 256 := hp
  obtain ⟨T, hT⟩ : ∃ T : List UInt8, [0, 0, UInt8.ofNat (l / 256), UInt8.ofNat (l % 256), 0, 0, 0, UInt8.ofNat p] = T := ⟨_, rfl⟩
  have hTl : T.length = 8 := by rw [← hT]; rfl
  have hfin : pseudoOf true a b p l = a.take 16 ++ (b.take 16 ++ T) := by rw [← hT]; rw [List.take_of_length_le (by omega), List.take_of_length_le (by omega)]; rfl
  rw [hT] at htail
  rw [hfin]
  have HA := Lib.hid ha
  have HBL := Lib.hid hb
  have HT := Lib.hid htail
  have HTL := Lib.hid hTl
  clear hC0 hC1 c0 hT hTl htail ha hb hfin
  go_enter Try.func33, Try.ntmps33
  go_wp2_with fail
  generalize (w.alloc (.cells C0 35)).alloc (.cells C1 35) = w2 at hbw hsz r0 r1 c0' ⊢
  have HZ := Lib.hid hsz
  clear hsz
  have z2 : w.heap.size + 1 + 1 ≤ w2.heap.size := by rw [HZ.out]; exact Nat.le_refl _
  have R0 := r0.more (B' := w2.heap.size) (by omega)
  have R1 := r1.more (B' := w2.heap.size) (by omega)
  clear r0 r1
  go_loopw [9, 11] (fun v i wr => ∃ (k : Nat), k ≤ 16 ∧ i = .int .i64 (k : Int) ∧ Own8 wr w2.heap.size v (a.take k) ∧ Below w2.heap.size w2 wr) (fun _ i _ => 16 - (intOf i).toNat)
  case atStart => exact ⟨0, by omega, rfl, by rw [List.take_zero]; exact Own8.nil_ _ _, Below.refl _ _⟩
  case round =>
    obtain ⟨k, hk, rfl, hown, hbel⟩ := hrel
    have hsz := hbel.size
    by_cases hlt : k < 16
    · have hlt' : (k : Int) < 16 := by omega
      have hx := (R0.below hbel).cell (k := k) (by omega)
      obtain ⟨x, ex⟩ : ∃ x, a[k]'(by rw [HA.out]; omega) = x := ⟨_, rfl⟩
      rw [ex] at hx
      have ht : a.take k ++ [x] = a.take (k + 1) := by rw [← ex]; exact List.take_append_getElem (by rw [HA.out]; omega)
      have HK := Lib.hid ht
      have hkl : (k : Int) < 16 := by omega
      clear ht ex
      go_wp2_with (at_builtin; refine wpList_append8 rfl _ _ rfl w2.heap.size _ (a.take k) (by rfl) (hown.alloc _) _ _ _ _ [x] (by rfl) (Rd.one wr x) (by rw [List.length_take]; omega) (by simp; omega) ?_; intro v' w3 ho' hg' _)
      have hb3 := (hbel.alloc hsz (.cells #[.int .u8 (x.toNat : Int)] 5)).grown hg' (by simp; omega) hown.lt
      rw [HK.out] at ho'
      go_wp2_with fail
      go_roundw
      case rel => exact ⟨k + 1, by omega, by go_num, ho', hb3⟩
      case measure => simp [intOf]; omega
    · have hkN : k = 16 := by omega
      have hlt' : ¬ (k : Int) < 16 := by omega
      rw [hkN] at hown
      clear hlt hkN hk
      go_wp2_with fail
      go_loopw [9, 12] (fun v i wr => ∃ (j : Nat), j ≤ 16 ∧ i = .int .i64 (j : Int) ∧ Own8 wr w2.heap.size v (a.take 16 ++ b.take j) ∧ Below w2.heap.size w2 wr) (fun _ i _ => 16 - (intOf i).toNat)
      case atStart => exact ⟨0, by omega, rfl, by rw [List.take_zero, List.append_nil]; exact hown, hbel⟩
      case round =>
        clear hown hbel hsz
        obtain ⟨k, hk, rfl, hown, hbel⟩ := hrel
        have hsz := hbel.size
        by_cases hlt : k < 16
        · have hlt' : (k : Int) < 16 := by omega
          have hx := (R1.below hbel).cell (k := k) (by omega)
          obtain ⟨x, ex⟩ : ∃ x, b[k]'(by rw [HBL.out]; omega) = x := ⟨_, rfl⟩
          rw [ex] at hx
          have ht : (a.take 16 ++ b.take k) ++ [x] = a.take 16 ++ b.take (k + 1) := by rw [← ex, List.append_assoc, List.take_append_getElem (by rw [HBL.out]; omega)]
          have HK := Lib.hid ht
          have hkl : (k : Int) < 16 := by omega
          clear ht ex
          go_wp2_with (at_builtin; refine wpList_append8 rfl _ _ rfl w2.heap.size _ (a.take 16 ++ b.take k) (by rfl) (hown.alloc _) _ _ _ _ [x] (by rfl) (Rd.one wr x) (by rw [List.length_append, List.length_take, List.length_take]; omega) (by simp; omega) ?_; intro v' w3 ho' hg' _)
          have hb3 := (hbel.alloc hsz (.cells #[.int .u8 (x.toNat : Int)] 5)).grown hg' (by simp; omega) hown.lt
          rw [HK.out] at ho'
          go_wp2_with fail
          go_roundw
          case rel => exact ⟨k + 1, by omega, by go_num, ho', hb3⟩
          case measure => simp [intOf]; omega
        · have hkN : k = 16 := by omega
          have hlt' : ¬ (k : Int) < 16 := by omega
          rw [hkN] at hown
          clear hlt hkN hk
          have hc := (hbel.cell (p := ⟨w.heap.size, 0, none⟩) (by show w.heap.size < w2.heap.size; omega)).trans c0'
          have hrt := Rd.laid wr T 8 HTL.out
          rw [HT.out] at hrt
          go_wp2_with (at_builtin; refine wpList_append8 rfl _ _ rfl w2.heap.size _ (a.take 16 ++ b.take 16) (by rfl) (hown.alloc _) _ _ _ _ T (by rfl) hrt (by rw [List.length_append, List.length_take, List.length_take]; omega) (by simp; omega) ?_; intro v' w3 ho' hg' _)
          have hb3 := (hbel.alloc hsz (.cells #[.int .u8 0, .int .u8 0, .int .u8 ((l : Int) / 256), .int .u8 ((l : Int) % 256), .int .u8 0, .int .u8 0, .int .u8 0, .int .u8 (p : Int)] 5)).grown hg' (by simp; omega) hown.lt
          rw [List.append_assoc] at ho'
          go_wp2_with fail
          go_ret
          exact ⟨_, rfl, ho'.base_le (by omega), hbw.trans (hb3.mono (by omega))⟩
end Go.Proofs.Ytgjjepcjdekihaa
