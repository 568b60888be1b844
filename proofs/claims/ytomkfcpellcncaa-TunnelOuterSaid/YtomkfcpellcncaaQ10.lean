/-
  Several texts in one: PConcat PPseudo PAddr PRPseudo PMath PSmall PCell PRead PRRead PTwo PFill PRSums PRFill.
-/
import Derived.Lib.AppendZeros
import Derived.Deep.QuietTactic
import Derived.Deep.RegionLaw
import Derived.BigQuiet
import Derived.Lib.VarintBits
import Derived.Laws.CopyOwn
import Derived.Deep.MidRow
import Derived.Laws.ResultCell
import Derived.BigFrame
import Derived.DeepKeys
import Derived.Laws.StructEq
import Derived.Great.BuildSlice
import Derived.Test.YtomkfcpellcncaaTK
import Derived.Test.YtomkfcpellcncaaQB
namespace Go.Proofs.Ytomkfcpellcncaa
set_option maxRecDepth 100000
section
open Go.RowKit Go.Lib
theorem own_zero {w : World} {base g C : Nat} {cur : Array Value} (hg : w.heap[g]? = some (.cells cur 5 (0, 0))) (hb : base ≤ g) (hC : C ≤ maxLen) (hs : cur.size = C) : Own8 w base (.slice (some ⟨g, 0, none⟩) 0 C) [] :=
  ⟨by simp, .inr ⟨g, C, cur, rfl, hb, hg, Nat.zero_le _, hC, by omega, by simp⟩⟩
theorem cut_zero8 (A : Option Addr) (len cap : Nat) (W : World) :
    (Instr.slice 22 (.slice A len cap) none (some (.int .i64 0)) none).run Try.prog W = .ok (.slice (cutA A cap 0) 0 cap) W := by
  obtain ⟨i0, hi, _, _, _⟩ := info_parts info8
  have hc := run_sliceBound (P := Try.prog) (w := W) .i64 0 cap .sliceAcap (by omega) (by omega)
  simp [Instr.slice, hc, run_underlying Try.underlying22, Instr.sliceBounds, sizeOf, typeInfo, hi, cutA]
set_option maxHeartbeats 1000000 in
/-- slices.Grow of nil. -/
theorem grow_any (n : Nat) (h0 : 0 < n) (hn : n ≤ 1000000) (w : World) :
    Calls Try.prog 41 #[.slice none 0 0, .int .i64 (n : Int)] w fun e W' => ∃ g C, e = .returned (.slice (some ⟨g, 0, none⟩) 0 C) ∧ Own8 W' w.heap.size (.slice (some ⟨g, 0, none⟩) 0 C) [] ∧ Below w.heap.size w W' := by
  obtain ⟨i0, hi, hz0, hz1, hz2⟩ := info_parts info8
  have hr := fun (W : World) (ty : TypeId) => run_append_nil_zeros (P := Try.prog) W 22 3 ty 5 i0 (.int .u8 0) .i64 .i64 Try.underlying22 Try.underlying3 hi hz0 n h0 (by omega) (by omega) (by rw [hz2]; omega)
  have HG := Lib.hid hr
  clear hr
  have hl := grownCap_ge w n 0 5
  have hm := grownCap_le_maxLen w n 0 5 (by unfold maxLen; omega)
  obtain ⟨C, hC⟩ : ∃ C, grownCap w n 0 5 = C := ⟨_, rfl⟩
  obtain ⟨cur, hcur⟩ : ∃ cur, Builtin.zeroCells (Value.int .u8 0).cells n ++ Builtin.zeroCells (Value.int .u8 0).cells (C - n) = cur := ⟨_, rfl⟩
  rw [hC] at hl hm
  have hcs : cur.size = C := by
    rw [← hcur, Array.size_append]
    simp [Builtin.zeroCells, Value.cells]
    omega
  have hG : ∀ ty, (Builtin.append_ #[22, 3] ty #[.slice none 0 0, .int .i64 (n : Int)]).run Try.prog w = .ok (.slice (some ⟨w.heap.size, 0, none⟩) n C) (w.drew.alloc (.cells cur 5)) := fun ty => by
    rw [HG.out w ty, hC, hcur]
  have hw1 : (w.drew.alloc (.cells cur 5)).heap[w.heap.size]? = some (.cells cur 5 (0, 0)) := heap_alloc_new w.drew _
  have hown := own_zero hw1 (Nat.le_refl _) hm hcs
  have hbel : Below w.heap.size w (w.drew.alloc (.cells cur 5)) := ((Below.refl w.heap.size w).drew).alloc (Nat.le_refl _) _
  have hcz := fun W => cut_zero8 none 0 0 W
  have hcz2 := fun W => cut_zero8 (some ⟨w.heap.size, 0, none⟩) n C W
  rw [show cutA none 0 0 = none from rfl] at hcz
  rw [show cutA (some ⟨w.heap.size, 0, none⟩) C 0 = some ⟨w.heap.size, 0, none⟩ by unfold cutA; rw [if_neg (by omega), Option.map_some, add_plain]] at hcz2
  have h0' : (0 : Int) < (n : Int) := by omega
  clear HG hcur hC hi hz0 hz1 hz2 hcs hm
  go_enter Try.func41, Try.ntmps41
  go_wp2_with (at_builtin; refine wpList_append_run _ rfl _ _ _ _ rfl _ _ (by rfl) (by rfl) _ _ (hG _) ?_)
  go_ret
  exact ⟨w.heap.size, C, rfl, hown, hbel⟩
theorem flat_take {l : List (List UInt8)} {k : Nat} {xs : List UInt8} (h : l[k]? = some xs) : (l.take k).flatten ++ xs = (l.take (k + 1)).flatten := by
  obtain ⟨hl, he⟩ := List.getElem?_eq_some_iff.1 h
  rw [← List.take_append_getElem hl, he, List.flatten_append]
  simp
set_option maxRecDepth 100000 in
set_option maxHeartbeats 2000000 in
/-- slices.Concat -/
theorem concat_any (A : Option Addr) (n cap : Nat) (l : List (List UInt8)) (hn : n ≤ 1000) (h0 : 0 < l.flatten.length) (hlen : l.flatten.length ≤ 1000000) (w : World) {B : Nat} (hI : LsAt w B A n l) (hB : B ≤ w.heap.size) :
    Calls Try.prog 22 #[.slice A n cap] w fun e W' => ∃ v, e = .returned v ∧ Own8 W' w.heap.size v l.flatten ∧ Below w.heap.size w W' := by
  obtain ⟨T, hT⟩ : ∃ T, l.flatten.length = T := ⟨_, rfl⟩
  rw [hT] at h0 hlen
  have HT := Lib.hid hT
  have HG := Lib.hid (grow_any T h0 hlen w)
  have HS := Lib.hid hI.size
  clear hT
  go_enter Try.func22, Try.ntmps22
  go_wp2_with fail
  go_loop [3, 11] (fun s i => ∃ (k S : Nat), k ≤ n ∧ s = .int .i64 (S : Int) ∧ i = .int .i64 (k : Int) ∧ S + (l.drop k).flatten.length = T)
    (fun _ i => n - (intOf i).toNat)
  case atStart => exact ⟨0, 0, by omega, rfl, rfl, by rw [List.drop_zero, Nat.zero_add]; exact HT.out⟩
  case round =>
    obtain ⟨k, S, hk, rfl, rfl, hs⟩ := hrel
    by_cases hlt : k < n
    · have hlt' : (k : Int) < (n : Int) := by omega
      obtain ⟨xs, hxs⟩ : ∃ xs, l[k]? = some xs := ⟨_, List.getElem?_eq_getElem (by rw [HS.out]; exact hlt)⟩
      obtain ⟨b, off, A', n', c', rfl, hc, hr⟩ := hI.at hxs
      rw [flat_drop hxs, List.length_append, hr.len] at hs
      have hneg : ¬ ((S : Int) + (n' : Int) < 0) := by omega
      have HQ := Lib.hid hs
      have hbd : S + n' ≤ 1000000 := by omega
      clear hs hxs hr
      go_wp2_with fail
      go_round
      case rel => exact ⟨k + 1, S + n', by omega, by go_num, by go_num, by rw [← HQ.out, Nat.add_assoc]⟩
      case measure => simp [intOf]; omega
    · obtain rfl : k = n := by omega
      rw [List.drop_of_length_le (by rw [HS.out]; omega)] at hs
      have hs' : S = T := hs
      subst hs'
      clear hs hlt
      go_wp2_with fail
      refine HG.out.mono ?_
      rintro e w1 ⟨g, C, rfl, ho1, hb1⟩
      go_wp2_with fail
      go_loopw [6, 27] (fun v i wr => ∃ (j : Nat), j ≤ k ∧ i = .int .i64 (j : Int) ∧ Own8 wr w.heap.size v (l.take j).flatten ∧ Below w.heap.size w wr)
        (fun _ i _ => k - (intOf i).toNat)
      case atStart => exact ⟨0, by omega, rfl, by rw [List.take_zero]; exact ho1, hb1⟩
      case round =>
        clear ho1 hb1
        obtain ⟨j, hj, rfl, hown, hbel⟩ := hrel
        have hsz := hbel.size
        have hI2 := hI.below (hbel.mono hB)
        by_cases hlt : j < k
        · have hlt' : (j : Int) < (k : Int) := by omega
          obtain ⟨xs, hxs⟩ : ∃ xs, l[j]? = some xs := ⟨_, List.getElem?_eq_getElem (by rw [HS.out]; exact hlt)⟩
          obtain ⟨b, off, A', n', c', rfl, hc, hr⟩ := hI2.at hxs
          have ht := flat_take hxs
          have hbd : (l.take j).flatten.length + n' ≤ 1000000 := by
            have e : l.flatten = (l.take j).flatten ++ (l.drop j).flatten := by rw [← List.flatten_append, List.take_append_drop]
            have e2 := HT.out
            rw [e, flat_drop hxs, List.length_append, List.length_append, hr.len] at e2
            omega
          have HQ := Lib.hid ht
          have HB := Lib.hid hbd
          clear ht hxs hbd
          go_wp2_with (at_builtin; refine wpList_append8 rfl _ _ rfl w.heap.size _ _ (by rfl) hown _ _ _ _ xs (by rfl) hr (by have := HB.out; omega) hsz ?_; intro v' w3 ho' hg' _)
          have hb3 := hbel.grown hg' hsz hown.lt
          rw [HQ.out] at ho'
          go_wp2_with fail
          go_roundw
          case rel => exact ⟨j + 1, by omega, by go_num, ho', hb3⟩
          case measure => simp [intOf]; omega
        · obtain rfl : j = k := by omega
          rw [List.take_of_length_le (by rw [HS.out]; omega)] at hown
          go_wp2_with fail
          go_ret
          exact ⟨_, rfl, hown, hbel⟩
end
section
open Go.RowKit Go.Lib
/-- The cells of an address. -/
def addrC (s : Bool) (bs : List UInt8) : Array Value := (.bool s :: bs.map v8).toArray
theorem addrC_six (w : World) (T : TypeId) (s : Bool) (bs : List UInt8) : (w.alloc (.cells (addrC s bs) T)).cell? ⟨w.heap.size, 0, none⟩ = some (.bool s) := by
  rw [cell_of_row _ w.heap.size 0 _ _ (0, 0) (heap_alloc_new w _)]; rfl
theorem addrC_rd (w : World) (T : TypeId) (s : Bool) (bs : List UInt8) (n : Nat) (hn : bs.length = n) : Rd (w.alloc (.cells (addrC s bs) T)) (w.heap.size + 1) (some ⟨w.heap.size, 1, none⟩) n bs :=
  ⟨hn, fun _ => ⟨w.heap.size, 1, rfl, by omega, fun j x hx => by
    rw [cell_of_row _ w.heap.size _ _ _ (0, 0) (heap_alloc_new w _)]
    simp [addrC, Nat.add_comm 1 j, hx]⟩⟩
/-- The pseudo header. -/
def pseudoOf (s : Bool) (a b : List UInt8) (p l : Nat) : List UInt8 :=
  if s then a ++ (b ++ [0, 0, UInt8.ofNat (l / 256), UInt8.ofNat (l % 256), 0, 0, 0, UInt8.ofNat p]) else a.take 4 ++ (b.take 4 ++ [0, UInt8.ofNat p, UInt8.ofNat (l / 256), UInt8.ofNat (l % 256)])
theorem tail_four (p l : Nat) (hp : p < 256) (hl : l < 65536) : ([0, UInt8.ofNat p, UInt8.ofNat (l / 256), UInt8.ofNat (l % 256)].map v8).toArray = #[.int .u8 0, .int .u8 (p : Int), .int .u8 ((l : Int) / 256), .int .u8 ((l : Int) % 256)] := by
  simp only [List.map_cons, List.map_nil]
  rw [v8_of p hp, v8_of (l / 256) (by omega), v8_of (l % 256) (by omega)]
  rfl
theorem tail_six (p l : Nat) (hp : p < 256) (hl : l < 65536) : ([0, 0, UInt8.ofNat (l / 256), UInt8.ofNat (l % 256), 0, 0, 0, UInt8.ofNat p].map v8).toArray = #[.int .u8 0, .int .u8 0, .int .u8 ((l : Int) / 256), .int .u8 ((l : Int) % 256), .int .u8 0, .int .u8 0, .int .u8 0, .int .u8 (p : Int)] := by
  simp only [List.map_cons, List.map_nil]
  rw [v8_of p hp, v8_of (l / 256) (by omega), v8_of (l % 256) (by omega)]
  rfl
end
section
open Go.RowKit Go.Lib Go.ChangeShapes Go.WideShapes Go.ChangeAt
section
variable {H : Type} {enc : TypeId × Value → H} {W : World}
theorem cells_u8 : Try.prog.cellsOf 5 = 1 := by kernel_rfl
theorem one_of_take {cs : List Value} {i : Nat} {v : Value} (h : (cs.drop i).take 1 = [v]) : cs[i]? = some v := by
  have := congrArg (·[0]?) h
  simpa using this
end
end
section
open Go.RowKit Go.Lib
set_option maxRecDepth 100000 in
set_option maxHeartbeats 2000000 in
/-- The reference's Pseudo, of addresses of IPv4. -/
theorem rpseudo_four (a b : List UInt8) (ha : a.length = 16) (hb : b.length = 16) (p l : Nat) (hp : p < 256) (hl : l < 65536) (w : World) :
    Calls Try.prog 66 #[.agg (addrC false a), .agg (addrC false b), .int .i64 (p : Int), .int .i64 (l : Int)] w fun e W' => ∃ v, e = .returned v ∧ Own8 W' w.heap.size v (pseudoOf false a b p l) ∧ Below w.heap.size w W' := by
  have c0 := addrC_six w 25 false a
  have r0 := (addrC_rd w 25 false a 16 ha).alloc (by simp) (.cells (addrC false b) 25)
  have c0' : ((w.alloc (.cells (addrC false a) 25)).alloc (.cells (addrC false b) 25)).cell? ⟨w.heap.size, 0, none⟩ = some (.bool false) := by rw [World.cell?_alloc_lt _ _ _ (by simp)]; exact c0
  have r1 := addrC_rd (w.alloc (.cells (addrC false a) 25)) 25 false b 16 hb
  obtain ⟨C0, hC0⟩ : ∃ C, addrC false a = C := ⟨_, rfl⟩
  obtain ⟨C1, hC1⟩ : ∃ C, addrC false b = C := ⟨_, rfl⟩
  rw [hC0] at c0' r0 r1 ⊢
  rw [hC1] at c0' r0 r1 ⊢
  have hbw := ((Below.refl w.heap.size w).alloc (Nat.le_refl _) (.cells C0 25)).alloc (by simp) (.cells C1 25)
  have hsz : ((w.alloc (.cells C0 25)).alloc (.cells C1 25)).heap.size = w.heap.size + 1 + 1 := by simp
  simp only [World.size_alloc] at r1
  have htail := tail_four p l hp hl
  have hpl : p < 256 := hp
  obtain ⟨T, hT⟩ : ∃ T : List UInt8, [0, UInt8.ofNat p, UInt8.ofNat (l / 256), UInt8.ofNat (l % 256)] = T := ⟨_, rfl⟩
  have hTl : T.length = 4 := by rw [← hT]; rfl
  have hfin : pseudoOf false a b p l = a.take 4 ++ (b.take 4 ++ T) := by rw [← hT]; rfl
  rw [hT] at htail
  rw [hfin]
  have HA := Lib.hid ha
  have HBL := Lib.hid hb
  have HT := Lib.hid htail
  have HTL := Lib.hid hTl
  clear hC0 hC1 c0 hT hTl htail ha hb hfin
  go_enter Try.func66, Try.ntmps66
  go_wp2_with fail
  generalize (w.alloc (.cells C0 25)).alloc (.cells C1 25) = w2 at hbw hsz r0 r1 c0' ⊢
  have HZ := Lib.hid hsz
  clear hsz
  have z2 : w.heap.size + 1 + 1 ≤ w2.heap.size := by rw [HZ.out]; exact Nat.le_refl _
  have R0 := r0.more (B' := w2.heap.size) (by omega)
  have R1 := r1.more (B' := w2.heap.size) (by omega)
  clear r0 r1
  go_loopw [9, 11] (fun v i wr => ∃ (k : Nat), k ≤ 4 ∧ i = .int .i64 (k : Int) ∧ Own8 wr w2.heap.size v (a.take k) ∧ Below w2.heap.size w2 wr) (fun _ i _ => 4 - (intOf i).toNat)
  case atStart => exact ⟨0, by omega, rfl, by rw [List.take_zero]; exact Own8.nil_ _ _, Below.refl _ _⟩
  case round =>
    obtain ⟨k, hk, rfl, hown, hbel⟩ := hrel
    have hsz := hbel.size
    by_cases hlt : k < 4
    · have hlt' : (k : Int) < 4 := by omega
      have hx := (R0.below hbel).cell (k := k) (by omega)
      obtain ⟨x, ex⟩ : ∃ x, a[k]'(by rw [HA.out]; omega) = x := ⟨_, rfl⟩
      rw [ex] at hx
      have ht : a.take k ++ [x] = a.take (k + 1) := by rw [← ex]; exact List.take_append_getElem (by rw [HA.out]; omega)
      have HK := Lib.hid ht
      have hkl : (k : Int) < 16 := by omega
      clear ht ex
      go_wp2_with (at_builtin; refine wpList_append8 rfl _ _ rfl w2.heap.size _ (a.take k) (by rfl) (hown.alloc _) _ _ _ _ [x] (by rfl) (Rd.one wr x) (by rw [List.length_take]; omega) (by simp; omega) ?_; intro v' w3 ho' hg' _)
      have hb3 := (hbel.alloc hsz (.cells #[.int .u8 (x.toNat : Int)] 5)).grown hg' (by simp; omega) hown.lt
      rw [HK.out] at ho'
      go_wp2_with fail
      go_roundw
      case rel => exact ⟨k + 1, by omega, by go_num, ho', hb3⟩
      case measure => simp [intOf]; omega
    · have hkN : k = 4 := by omega
      have hlt' : ¬ (k : Int) < 4 := by omega
      rw [hkN] at hown
      clear hlt hkN hk
      go_wp2_with fail
      go_loopw [9, 12] (fun v i wr => ∃ (j : Nat), j ≤ 4 ∧ i = .int .i64 (j : Int) ∧ Own8 wr w2.heap.size v (a.take 4 ++ b.take j) ∧ Below w2.heap.size w2 wr) (fun _ i _ => 4 - (intOf i).toNat)
      case atStart => exact ⟨0, by omega, rfl, by rw [List.take_zero, List.append_nil]; exact hown, hbel⟩
      case round =>
        clear hown hbel hsz
        obtain ⟨k, hk, rfl, hown, hbel⟩ := hrel
        have hsz := hbel.size
        by_cases hlt : k < 4
        · have hlt' : (k : Int) < 4 := by omega
          have hx := (R1.below hbel).cell (k := k) (by omega)
          obtain ⟨x, ex⟩ : ∃ x, b[k]'(by rw [HBL.out]; omega) = x := ⟨_, rfl⟩
          rw [ex] at hx
          have ht : (a.take 4 ++ b.take k) ++ [x] = a.take 4 ++ b.take (k + 1) := by rw [← ex, List.append_assoc, List.take_append_getElem (by rw [HBL.out]; omega)]
          have HK := Lib.hid ht
          have hkl : (k : Int) < 16 := by omega
          clear ht ex
          go_wp2_with (at_builtin; refine wpList_append8 rfl _ _ rfl w2.heap.size _ (a.take 4 ++ b.take k) (by rfl) (hown.alloc _) _ _ _ _ [x] (by rfl) (Rd.one wr x) (by rw [List.length_append, List.length_take, List.length_take]; omega) (by simp; omega) ?_; intro v' w3 ho' hg' _)
          have hb3 := (hbel.alloc hsz (.cells #[.int .u8 (x.toNat : Int)] 5)).grown hg' (by simp; omega) hown.lt
          rw [HK.out] at ho'
          go_wp2_with fail
          go_roundw
          case rel => exact ⟨k + 1, by omega, by go_num, ho', hb3⟩
          case measure => simp [intOf]; omega
        · have hkN : k = 4 := by omega
          have hlt' : ¬ (k : Int) < 4 := by omega
          rw [hkN] at hown
          clear hlt hkN hk
          have hc := (hbel.cell (p := ⟨w.heap.size, 0, none⟩) (by show w.heap.size < w2.heap.size; omega)).trans c0'
          have hrt := Rd.laid wr T 4 HTL.out
          rw [HT.out] at hrt
          go_wp2_with (at_builtin; refine wpList_append8 rfl _ _ rfl w2.heap.size _ (a.take 4 ++ b.take 4) (by rfl) (hown.alloc _) _ _ _ _ T (by rfl) hrt (by rw [List.length_append, List.length_take, List.length_take]; omega) (by simp; omega) ?_; intro v' w3 ho' hg' _)
          have hb3 := (hbel.alloc hsz (.cells #[.int .u8 0, .int .u8 (p : Int), .int .u8 ((l : Int) / 256), .int .u8 ((l : Int) % 256)] 5)).grown hg' (by simp; omega) hown.lt
          rw [List.append_assoc] at ho'
          go_wp2_with fail
          go_ret
          exact ⟨_, rfl, ho'.base_le (by omega), hbw.trans (hb3.mono (by omega))⟩
set_option maxRecDepth 100000 in
set_option maxHeartbeats 2000000 in
/-- The reference's Pseudo, of other addresses. -/
theorem rpseudo_six (a b : List UInt8) (ha : a.length = 16) (hb : b.length = 16) (p l : Nat) (hp : p < 256) (hl : l < 65536) (w : World) :
    Calls Try.prog 66 #[.agg (addrC true a), .agg (addrC true b), .int .i64 (p : Int), .int .i64 (l : Int)] w fun e W' => ∃ v, e = .returned v ∧ Own8 W' w.heap.size v (pseudoOf true a b p l) ∧ Below w.heap.size w W' := by
  have c0 := addrC_six w 25 true a
  have r0 := (addrC_rd w 25 true a 16 ha).alloc (by simp) (.cells (addrC true b) 25)
  have c0' : ((w.alloc (.cells (addrC true a) 25)).alloc (.cells (addrC true b) 25)).cell? ⟨w.heap.size, 0, none⟩ = some (.bool true) := by rw [World.cell?_alloc_lt _ _ _ (by simp)]; exact c0
  have r1 := addrC_rd (w.alloc (.cells (addrC true a) 25)) 25 true b 16 hb
  obtain ⟨C0, hC0⟩ : ∃ C, addrC true a = C := ⟨_, rfl⟩
  obtain ⟨C1, hC1⟩ : ∃ C, addrC true b = C := ⟨_, rfl⟩
  rw [hC0] at c0' r0 r1 ⊢
  rw [hC1] at c0' r0 r1 ⊢
  have hbw := ((Below.refl w.heap.size w).alloc (Nat.le_refl _) (.cells C0 25)).alloc (by simp) (.cells C1 25)
  have hsz : ((w.alloc (.cells C0 25)).alloc (.cells C1 25)).heap.size = w.heap.size + 1 + 1 := by simp
  simp only [World.size_alloc] at r1
  have htail := tail_six p l hp hl
  have hpl : p < 256 := hp
  obtain ⟨T, hT⟩ : ∃ T : List UInt8, [0, 0, UInt8.ofNat (l / 256), UInt8.ofNat (l % 256), 0, 0, 0, UInt8.ofNat p] = T := ⟨_, rfl⟩
  have hTl : T.length = 8 := by rw [← hT]; rfl
  have hfin : pseudoOf true a b p l = a.take 16 ++ (b.take 16 ++ T) := by rw [← hT]; rw [List.take_of_length_le (by omega), List.take_of_length_le (by omega)]; rfl
  rw [hT] at htail
  rw [hfin]
  have HA := Lib.hid ha
  have HBL := Lib.hid hb
  have HT := Lib.hid htail
  have HTL := Lib.hid hTl
  clear hC0 hC1 c0 hT hTl htail ha hb hfin
  go_enter Try.func66, Try.ntmps66
  go_wp2_with fail
  generalize (w.alloc (.cells C0 25)).alloc (.cells C1 25) = w2 at hbw hsz r0 r1 c0' ⊢
  have HZ := Lib.hid hsz
  clear hsz
  have z2 : w.heap.size + 1 + 1 ≤ w2.heap.size := by rw [HZ.out]; exact Nat.le_refl _
  have R0 := r0.more (B' := w2.heap.size) (by omega)
  have R1 := r1.more (B' := w2.heap.size) (by omega)
  clear r0 r1
  go_loopw [9, 11] (fun v i wr => ∃ (k : Nat), k ≤ 16 ∧ i = .int .i64 (k : Int) ∧ Own8 wr w2.heap.size v (a.take k) ∧ Below w2.heap.size w2 wr) (fun _ i _ => 16 - (intOf i).toNat)
  case atStart => exact ⟨0, by omega, rfl, by rw [List.take_zero]; exact Own8.nil_ _ _, Below.refl _ _⟩
  case round =>
    obtain ⟨k, hk, rfl, hown, hbel⟩ := hrel
    have hsz := hbel.size
    by_cases hlt : k < 16
    · have hlt' : (k : Int) < 16 := by omega
      have hx := (R0.below hbel).cell (k := k) (by omega)
      obtain ⟨x, ex⟩ : ∃ x, a[k]'(by rw [HA.out]; omega) = x := ⟨_, rfl⟩
      rw [ex] at hx
      have ht : a.take k ++ [x] = a.take (k + 1) := by rw [← ex]; exact List.take_append_getElem (by rw [HA.out]; omega)
      have HK := Lib.hid ht
      have hkl : (k : Int) < 16 := by omega
      clear ht ex
      go_wp2_with (at_builtin; refine wpList_append8 rfl _ _ rfl w2.heap.size _ (a.take k) (by rfl) (hown.alloc _) _ _ _ _ [x] (by rfl) (Rd.one wr x) (by rw [List.length_take]; omega) (by simp; omega) ?_; intro v' w3 ho' hg' _)
      have hb3 := (hbel.alloc hsz (.cells #[.int .u8 (x.toNat : Int)] 5)).grown hg' (by simp; omega) hown.lt
      rw [HK.out] at ho'
      go_wp2_with fail
      go_roundw
      case rel => exact ⟨k + 1, by omega, by go_num, ho', hb3⟩
      case measure => simp [intOf]; omega
    · have hkN : k = 16 := by omega
      have hlt' : ¬ (k : Int) < 16 := by omega
      rw [hkN] at hown
      clear hlt hkN hk
      go_wp2_with fail
      go_loopw [9, 12] (fun v i wr => ∃ (j : Nat), j ≤ 16 ∧ i = .int .i64 (j : Int) ∧ Own8 wr w2.heap.size v (a.take 16 ++ b.take j) ∧ Below w2.heap.size w2 wr) (fun _ i _ => 16 - (intOf i).toNat)
      case atStart => exact ⟨0, by omega, rfl, by rw [List.take_zero, List.append_nil]; exact hown, hbel⟩
      case round =>
        clear hown hbel hsz
        obtain ⟨k, hk, rfl, hown, hbel⟩ := hrel
        have hsz := hbel.size
        by_cases hlt : k < 16
        · have hlt' : (k : Int) < 16 := by omega
          have hx := (R1.below hbel).cell (k := k) (by omega)
          obtain ⟨x, ex⟩ : ∃ x, b[k]'(by rw [HBL.out]; omega) = x := ⟨_, rfl⟩
          rw [ex] at hx
          have ht : (a.take 16 ++ b.take k) ++ [x] = a.take 16 ++ b.take (k + 1) := by rw [← ex, List.append_assoc, List.take_append_getElem (by rw [HBL.out]; omega)]
          have HK := Lib.hid ht
          have hkl : (k : Int) < 16 := by omega
          clear ht ex
          go_wp2_with (at_builtin; refine wpList_append8 rfl _ _ rfl w2.heap.size _ (a.take 16 ++ b.take k) (by rfl) (hown.alloc _) _ _ _ _ [x] (by rfl) (Rd.one wr x) (by rw [List.length_append, List.length_take, List.length_take]; omega) (by simp; omega) ?_; intro v' w3 ho' hg' _)
          have hb3 := (hbel.alloc hsz (.cells #[.int .u8 (x.toNat : Int)] 5)).grown hg' (by simp; omega) hown.lt
          rw [HK.out] at ho'
          go_wp2_with fail
          go_roundw
          case rel => exact ⟨k + 1, by omega, by go_num, ho', hb3⟩
          case measure => simp [intOf]; omega
        · have hkN : k = 16 := by omega
          have hlt' : ¬ (k : Int) < 16 := by omega
          rw [hkN] at hown
          clear hlt hkN hk
          have hc := (hbel.cell (p := ⟨w.heap.size, 0, none⟩) (by show w.heap.size < w2.heap.size; omega)).trans c0'
          have hrt := Rd.laid wr T 8 HTL.out
          rw [HT.out] at hrt
          go_wp2_with (at_builtin; refine wpList_append8 rfl _ _ rfl w2.heap.size _ (a.take 16 ++ b.take 16) (by rfl) (hown.alloc _) _ _ _ _ T (by rfl) hrt (by rw [List.length_append, List.length_take, List.length_take]; omega) (by simp; omega) ?_; intro v' w3 ho' hg' _)
          have hb3 := (hbel.alloc hsz (.cells #[.int .u8 0, .int .u8 0, .int .u8 ((l : Int) / 256), .int .u8 ((l : Int) % 256), .int .u8 0, .int .u8 0, .int .u8 0, .int .u8 (p : Int)] 5)).grown hg' (by simp; omega) hown.lt
          rw [List.append_assoc] at ho'
          go_wp2_with fail
          go_ret
          exact ⟨_, rfl, ho'.base_le (by omega), hbw.trans (hb3.mono (by omega))⟩
end
section
open Go.RowKit Go.Lib
/-- The protocol's number; where the checksum begins. -/
def prN (u : Bool) : Nat := if u then 17 else 6
def plc (u : Bool) : Nat := if u then 6 else 16
theorem prN_lt (u : Bool) : prN u < 256 := by cases u <;> decide
theorem prN_pos (u : Bool) : 0 < prN u := by cases u <;> decide
/-- How many bytes the TCP header has, by what it tells. -/
def hlN (xs : List UInt8) : Nat := 4 * (batN xs 12 / 16)
theorem hlN_le (xs : List UInt8) : hlN xs ≤ 60 := by have := batN_lt xs 12; unfold hlN; omega
/-- Why no segment begins there. -/
def faultT (xs : List UInt8) : Nat := if xs.length < 20 then 2 else if hlN xs < 20 then 3 else if xs.length < hlN xs then 2 else 0
def faultU (xs : List UInt8) : Nat := if xs.length < 8 then 2 else if wat xs 4 < 8 then 3 else if xs.length < wat xs 4 then 2 else 0
def faultP (n : Int) (xs : List UInt8) : Nat := if n = 6 then faultT xs else if n = 17 then faultU xs else 5
def faultB (u : Bool) (xs : List UInt8) : Nat := if u then faultU xs else faultT xs
/-- A header. -/
structure Po where
  s : Nat
  d : Nat
  f : Nat
  h : Nat
  t : Nat
def Po.zero : Po := ⟨0, 0, 0, 0, 0⟩
def poT (xs : List UInt8) : Po := ⟨wat xs 0, wat xs 2, batN xs 13 % 64, hlN xs, xs.length⟩
def poU (xs : List UInt8) : Po := ⟨wat xs 0, wat xs 2, 0, 8, wat xs 4⟩
def rdP (n : Int) (xs : List UInt8) : Po := if faultP n xs = 0 then (if n = 6 then poT xs else poU xs) else Po.zero
theorem rdP_no {n : Int} {xs : List UInt8} (h : faultP n xs ≠ 0) : rdP n xs = Po.zero := if_neg h
theorem rdP_T {xs : List UInt8} (h : faultP 6 xs = 0) : rdP 6 xs = poT xs := if_pos h
theorem rdP_U {xs : List UInt8} (h : faultP 17 xs = 0) : rdP 17 xs = poU xs := if_pos h
/-- The cells of a header. -/
def poC (p : Po) : Value := .agg #[.int .i64 (p.s : Int), .int .i64 (p.d : Int), .int .i64 (p.f : Int), .int .i64 (p.h : Int), .int .i64 (p.t : Int)]
/-- How many bytes the segment has. -/
def totN_10 (u : Bool) (xs : List UInt8) : Nat := if u then wat xs 4 else xs.length
theorem rdP_tot {u : Bool} {xs : List UInt8} (h : faultB u xs = 0) : (rdP (prN u : Nat) xs).t = totN_10 u xs := by
  cases u
  · rw [show ((prN false : Nat) : Int) = 6 from rfl, rdP_T h]; rfl
  · rw [show ((prN true : Nat) : Int) = 17 from rfl, rdP_U h]; rfl
theorem faultT_zero {xs : List UInt8} (h : faultT xs = 0) : 20 ≤ xs.length ∧ 20 ≤ hlN xs ∧ hlN xs ≤ xs.length := by
  unfold faultT at h
  repeat' split at h
  all_goals omega
theorem faultU_zero {xs : List UInt8} (h : faultU xs = 0) : 8 ≤ xs.length ∧ 8 ≤ wat xs 4 ∧ wat xs 4 ≤ xs.length := by
  unfold faultU at h
  repeat' split at h
  all_goals omega
theorem tot_ok {u : Bool} {xs : List UInt8} (h : faultB u xs = 0) : plc u + 2 ≤ totN_10 u xs ∧ 8 ≤ totN_10 u xs ∧ totN_10 u xs ≤ xs.length := by
  cases u
  · obtain ⟨h1, h2, h3⟩ := faultT_zero h
    exact ⟨by show 16 + 2 ≤ xs.length; omega, by show 8 ≤ xs.length; omega, Nat.le_refl _⟩
  · obtain ⟨h1, h2, h3⟩ := faultU_zero h
    exact ⟨h2, h2, h3⟩
/-- Two bytes are laid anew. -/
def put2_10 (xs : List UInt8) (p n : Nat) : List UInt8 := (xs.set p (UInt8.ofNat (n / 256))).set (p + 1) (UInt8.ofNat (n % 256))
theorem put2_len_10 (xs : List UInt8) (p n : Nat) : (put2_10 xs p n).length = xs.length := by unfold put2_10; rw [List.length_set, List.length_set]
theorem put2_eq : ∀ (xs : List UInt8) (p n : Nat), p + 2 ≤ xs.length → put2_10 xs p n = xs.take p ++ (be2 n ++ xs.drop (p + 2))
  | a :: b :: r, 0, n, _ => rfl
  | a :: r, p + 1, n, h => by
    have ih := put2_eq r p n (by simp at h; omega)
    show a :: put2_10 r p n = a :: (r.take p ++ (be2 n ++ r.drop (p + 2)))
    rw [ih]
  | [], p, n, h => by simp at h
  | [a], 0, n, h => by simp at h
theorem put2_put2 (xs : List UInt8) (p m n : Nat) : put2_10 (put2_10 xs p m) p n = put2_10 xs p n := by
  apply List.ext_getElem?
  intro i
  unfold put2_10
  simp only [List.getElem?_set, List.length_set]
  by_cases h1 : p + 1 = i
  · simp [h1]
  · by_cases h2 : p = i
    · simp [h2]
    · simp [h1, h2]
theorem put2_get_ne (xs : List UInt8) (p n : Nat) {i : Nat} (h1 : i ≠ p) (h2 : i ≠ p + 1) : (put2_10 xs p n)[i]? = xs[i]? := by
  unfold put2_10
  rw [List.getElem?_set_ne (by omega), List.getElem?_set_ne (by omega)]
theorem batN_of {xs ys : List UInt8} {i j : Nat} (h : xs[i]? = ys[j]?) : batN xs i = batN ys j := by
  unfold batN
  rw [List.getD_eq_getElem?_getD, List.getD_eq_getElem?_getD, h]
theorem batN_set_ne (xs : List UInt8) {i j : Nat} (y : UInt8) (h : i ≠ j) : batN (xs.set i y) j = batN xs j := batN_of (by rw [List.getElem?_set_ne h])
theorem batN_set (xs : List UInt8) {i : Nat} (y : UInt8) (h : i < xs.length) : batN (xs.set i y) i = y.toNat := by
  unfold batN
  rw [List.getD_eq_getElem?_getD, List.getElem?_set_self h]
  rfl
theorem batN_put2_ne (xs : List UInt8) (p n : Nat) {i : Nat} (h1 : i ≠ p) (h2 : i ≠ p + 1) : batN (put2_10 xs p n) i = batN xs i := batN_of (put2_get_ne xs p n h1 h2)
theorem wat_put2 (xs : List UInt8) {p n : Nat} (h : p + 2 ≤ xs.length) (hn : n < 65536) : wat (put2_10 xs p n) p = n := by
  unfold wat put2_10
  rw [batN_set_ne _ _ (by omega), batN_set _ _ (by omega), batN_set _ _ (by rw [List.length_set]; omega), u8nat (by omega), u8nat (by omega)]
  omega
/-- What a checksum put in leaves as it was. -/
theorem keep_fault {u : Bool} {xs ys : List UInt8} (hl : ys.length = xs.length) (hT : u = false → batN ys 12 = batN xs 12) (hU : u = true → wat ys 4 = wat xs 4) : faultB u ys = faultB u xs ∧ totN_10 u ys = totN_10 u xs := by
  cases u
  · refine ⟨?_, hl⟩
    show faultT ys = faultT xs
    unfold faultT hlN
    rw [hl, hT rfl]
  · refine ⟨?_, hU rfl⟩
    show faultU ys = faultU xs
    unfold faultU
    rw [hl, hU rfl]
theorem put2_fault (u : Bool) (xs : List UInt8) (n : Nat) : faultB u (put2_10 xs (plc u) n) = faultB u xs ∧ totN_10 u (put2_10 xs (plc u) n) = totN_10 u xs :=
  keep_fault (put2_len_10 _ _ _) (fun h => by subst h; exact batN_put2_ne xs 16 n (by decide) (by decide))
    (fun h => by subst h; unfold wat; rw [batN_put2_ne xs (plc true) n (by decide) (by decide), batN_put2_ne xs (plc true) n (by decide) (by decide)])
/-- The pseudo header and the segment. -/
def segP (six : Bool) (a b : List UInt8) (u : Bool) (xs : List UInt8) : List UInt8 := pseudoOf six a b (prN u) (totN_10 u xs) ++ xs.take (totN_10 u xs)
def ckS (six : Bool) (a b : List UInt8) (u : Bool) (xs : List UInt8) : Nat := ckOf (segP six a b u xs)
theorem ckS_le (six : Bool) (a b : List UInt8) (u : Bool) (xs : List UInt8) : ckS six a b u xs ≤ 65535 := ckOf_le _
/-- Is the checksum right? -/
def rightS (six : Bool) (a b : List UInt8) (u : Bool) (xs : List UInt8) : Bool := if u = true ∧ wat xs 6 = 0 then !six else decide (ckS six a b u xs = 0)
/-- The checksum of what has 0 in its place; what is laid for it. -/
def ck0 (six : Bool) (a b : List UInt8) (u : Bool) (xs : List UInt8) : Nat := ckS six a b u (put2_10 xs (plc u) 0)
def numS (u : Bool) (c : Nat) : Nat := if u = true ∧ c = 0 then 65535 else c
theorem numS_le {u : Bool} {c : Nat} (h : c ≤ 65535) : numS u c ≤ 65535 := by unfold numS; split <;> omega
/-- The checksum put in. -/
def fillS (six : Bool) (a b : List UInt8) (u : Bool) (xs : List UInt8) : List UInt8 := put2_10 xs (plc u) (numS u (ck0 six a b u xs))
theorem pseudo_even (six : Bool) (a b : List UInt8) (ha : a.length = 16) (hb : b.length = 16) (p l : Nat) : (pseudoOf six a b p l).length % 2 = 0 ∧ 0 < (pseudoOf six a b p l).length ∧ (pseudoOf six a b p l).length ≤ 40 := by
  cases six <;> simp [pseudoOf, ha, hb]
theorem pseudo_pos (six : Bool) (a b : List UInt8) (p l : Nat) (h0 : 0 < p) (hp : p < 256) (rest : List UInt8) (o : Bool) : 0 < wsum o (pseudoOf six a b p l ++ rest) := by
  rcases Nat.eq_zero_or_pos (wsum o (pseudoOf six a b p l ++ rest)) with h | h
  · have := (wsum_zero _ o).1 h (UInt8.ofNat p) (by cases six <;> simp [pseudoOf])
    have e := congrArg UInt8.toNat this
    rw [u8nat hp] at e
    exact absurd e (by show p ≠ 0; omega)
  · exact h
section
variable {six : Bool} {a b : List UInt8} {u : Bool} {xs : List UInt8}
theorem fillS_len : (fillS six a b u xs).length = xs.length := put2_len_10 _ _ _
theorem fill_fault : faultB u (fillS six a b u xs) = faultB u xs ∧ totN_10 u (fillS six a b u xs) = totN_10 u xs := put2_fault u xs _
theorem fillS_get {i : Nat} (h1 : i ≠ plc u) (h2 : i ≠ plc u + 1) : (fillS six a b u xs)[i]? = xs[i]? := put2_get_ne _ _ _ h1 h2
/-- The sum of a segment whose checksum was put in. -/
theorem seg_sum (ha : a.length = 16) (hb : b.length = 16) (h : faultB u xs = 0) {n : Nat} (hn : n < 65536) :
    wsum false (segP six a b u (put2_10 xs (plc u) n)) = wsum false (segP six a b u (put2_10 xs (plc u) 0)) + n := by
  obtain ⟨t1, t2, t3⟩ := tot_ok h
  have e : ∀ m, m < 65536 → wsum false (segP six a b u (put2_10 xs (plc u) m)) = wsum false (pseudoOf six a b (prN u) (totN_10 u xs)) + (wsum false (xs.take (plc u)) + (m + wsum false ((xs.drop (plc u + 2)).take (totN_10 u xs - (plc u + 2))))) := by
    intro m hm
    unfold segP
    rw [(put2_fault u xs m).2, wsum_append, show turnOdd false (pseudoOf six a b (prN u) (totN_10 u xs)).length = false from if_neg (by rw [(pseudo_even six a b ha hb (prN u) (totN_10 u xs)).1]; decide),
      put2_eq xs (plc u) m (by omega), List.take_append, List.take_of_length_le (l := xs.take (plc u)) (by rw [List.length_take]; omega), wsum_append,
      show turnOdd false (xs.take (plc u)).length = false from if_neg (by rw [List.length_take, Nat.min_eq_left (by omega)]; cases u <;> decide), List.length_take, Nat.min_eq_left (show plc u ≤ xs.length by omega), List.take_append,
      List.take_of_length_le (l := be2 m) (by rw [be2_len]; omega), wsum_append, show turnOdd false (be2 m).length = false from if_neg (by rw [be2_len]; decide), be2_len, show totN_10 u xs - plc u - 2 = totN_10 u xs - (plc u + 2) by omega]
    congr 3
    show 256 * (UInt8.ofNat (m / 256)).toNat + ((UInt8.ofNat (m % 256)).toNat + 0) = m
    rw [u8nat (by omega), u8nat (by omega)]
    omega
  rw [e n hn, e 0 (by omega)]
  omega
theorem fill_ck (ha : a.length = 16) (hb : b.length = 16) (h : faultB u xs = 0) : ckS six a b u (fillS six a b u xs) = 0 := by
  have hl := nrm_le (wsum false (segP six a b u (put2_10 xs (plc u) 0)))
  have hpos : 0 < wsum false (segP six a b u (put2_10 xs (plc u) 0)) := pseudo_pos _ _ _ _ _ (prN_pos u) (prN_lt u) _ _
  have hnp : nrm (wsum false (segP six a b u (put2_10 xs (plc u) 0))) ≠ 0 := fun e => by have := nrm_eq_zero.1 e; omega
  have hc : ck0 six a b u xs = 65535 - nrm (wsum false (segP six a b u (put2_10 xs (plc u) 0))) := rfl
  have hle : numS u (ck0 six a b u xs) ≤ 65535 := numS_le (ckS_le _ _ _ _ _)
  show ckOf (segP six a b u (put2_10 xs (plc u) (numS u (ck0 six a b u xs)))) = 0
  rw [ckOf_zero]
  unfold rsumOf
  rw [seg_sum ha hb h (show numS u (ck0 six a b u xs) < 65536 by omega)]
  by_cases h0 : u = true ∧ ck0 six a b u xs = 0
  · rw [show numS u (ck0 six a b u xs) = 65535 * 1 from if_pos h0, nrm_more hpos]
    have := h0.2
    omega
  · rw [show numS u (ck0 six a b u xs) = ck0 six a b u xs from if_neg h0, hc, ← nrm_add, nrm_small (by omega)]
    omega
/-- What is filled in isn't 0 for UDP. -/
theorem fill_num (h : faultB u xs = 0) (hu : u = true) : wat (fillS six a b u xs) 6 ≠ 0 := by
  subst hu
  obtain ⟨t1, t2, t3⟩ := tot_ok h
  have hle : numS true (ck0 six a b true xs) ≤ 65535 := numS_le (ckS_le _ _ _ _ _)
  have e : wat (fillS six a b true xs) 6 = numS true (ck0 six a b true xs) := wat_put2 xs (p := 6) (by omega) (by omega)
  rw [e]
  unfold numS
  split
  · decide
  · rename_i hh
    exact fun e => hh ⟨rfl, e⟩
theorem fill_right (ha : a.length = 16) (hb : b.length = 16) (h : faultB u xs = 0) : rightS six a b u (fillS six a b u xs) = true := by
  unfold rightS
  rw [if_neg (fun hh => fill_num h hh.1 hh.2)]
  exact decide_eq_true (fill_ck ha hb h)
end
end
section
open Go.RowKit Go.Lib
/-- The row of an owned slice. -/
theorem Own8.row {w : World} {base g N C : Nat} {ys : List UInt8} (h : Own8 w base (.slice (some ⟨g, 0, none⟩) N C) ys) :
    ∃ L : List Value, w.heap[g]? = some (.cells L.toArray 5 (0, 0)) ∧ L.length = C ∧ N ≤ C ∧ C ≤ maxLen ∧ base ≤ g ∧ L.take N = ys.map v8 := by
  obtain ⟨hl, h⟩ := h
  rcases h with ⟨e, _⟩ | ⟨g', cap, cur, e, hb, hg, hn, hm, hs, ht⟩
  · cases e
  · obtain ⟨rfl, hN, rfl⟩ : g = g' ∧ N = ys.length ∧ C = cap := by cases e; exact ⟨rfl, rfl, rfl⟩
    subst hN
    exact ⟨cur.toList, by simpa using hg, by simpa using hs, hn, hm, hb, by simpa using ht⟩
set_option maxHeartbeats 1000000 in
theorem two_any_10 {A : Option Addr} {len : Nat} {cap p : Nat} {xs : List UInt8} (hp : p ≤ 1000) (h : p + 2 ≤ len) {w : World} {B : Nat} (hI : Rd w B A len xs) :
    Calls Try.prog 84 #[.slice A len cap, .int .i64 (p : Int)] w fun e w' => e = .returned (.int .i64 (wat xs p : Nat)) ∧ ∃ n, w' = w.drewN n := by
  obtain ⟨b, off, rfl, _⟩ := hI.addr (by omega)
  have c0 := hI.cellD (k := p) (by omega)
  have c1 := hI.cellD (k := p + 1) (by omega)
  have x0 := batN_lt xs p
  have x1 := batN_lt xs (p + 1)
  have e : (wat xs p : Nat) = 256 * batN xs p + batN xs (p + 1) := rfl
  generalize batN xs p = a at *
  generalize batN xs (p + 1) = c at *
  obtain ⟨r, hr⟩ : ∃ r : Nat, wat xs p = r := ⟨_, rfl⟩
  rw [hr] at e ⊢
  have E : ((r : Nat) : Int) = 256 * (a : Int) + (c : Int) := by omega
  have hw1 : IntKind.i64.wrap ((p : Int) + 1) = (p : Int) + 1 := by rw [IntKind.wrap_i64]; omega
  have hw2 : IntKind.i64.wrap (256 * (a : Int)) = 256 * (a : Int) := by rw [IntKind.wrap_i64]; omega
  have hw3 : IntKind.i64.wrap (256 * (a : Int) + (c : Int)) = 256 * (a : Int) + (c : Int) := by rw [IntKind.wrap_i64]; omega
  have hw4 : IntKind.i64.wrap (a : Int) = (a : Int) := by rw [IntKind.wrap_i64]; omega
  have hw5 : IntKind.i64.wrap (c : Int) = (c : Int) := by rw [IntKind.wrap_i64]; omega
  have l1 : (p : Int) < (len : Int) := by omega
  have l2 : (p : Int) + 1 < (len : Int) := by omega
  have t1 : ((p : Int) + 1).toNat = p + 1 := by omega
  have HE := Lib.hid E
  clear E e hr hI
  go_enter Try.func84, Try.ntmps84
  go_wp2_with fail
  go_quiet (fail)
  go_wp2_with fail
  go_ret
  exact ⟨by rw [HE.out]; rfl, _, rfl⟩
theorem Own8.formG {w : World} {base : Nat} {v : Value} {xs : List UInt8} (h : Own8 w base v xs) {n : Nat} (hn : xs.length = n) (h0 : 0 < n) : ∃ g c, v = .slice (some ⟨g, 0, none⟩) n c ∧ n ≤ c ∧ c ≤ maxLen ∧ base ≤ g ∧ g < w.heap.size ∧ Rd w w.heap.size (some ⟨g, 0, none⟩) n xs := by
  subst hn
  obtain ⟨A, c, rfl, h1, h2, h3, h4⟩ := h.rd
  obtain ⟨g, rfl, hb⟩ := h4 h0
  obtain ⟨b, off, e, hlt⟩ := h3.addr h0
  cases e
  exact ⟨g, c, rfl, h1, h2, hb, hlt, h3⟩
/-- A byte stored into an owned slice: a law for the walk; the world behind it is a letter. -/
theorem wpList_storeO {w : World} {ops : Array Oper} {rest : List Oper} {op : Oper} {a : Act} {Q : Exit → Act → World → Prop} (hgd : op.guard = none) (x y : Operand) (ho : op.op = .store 5 x y)
    (g i : Nat) (hx : a.eval x = .pointer (some ⟨g, i, none⟩)) (b : UInt8) (m : Int) (hm : m = (b.toNat : Int)) (hy : a.eval y = .int .u8 m) (xs : List UInt8) (n c base : Nat) (hn : xs.length = n) (hown : Own8 w base (.slice (some ⟨g, 0, none⟩) n c) xs) (hi : i < n)
    (h : ∀ w', Own8 w' base (.slice (some ⟨g, 0, none⟩) n c) (xs.set i b) → Below g w w' → wpList Try.prog ops Q rest (a.put op.dst undef) w') : wpList Try.prog ops Q (op :: rest) a w := by
  subst hm
  subst hn
  refine wpList_plain hgd fun K hK => ?_
  have hc := hown.cellAt i (by omega)
  have hf := hown.frozenAt i
  have hs := (hown.stored i (v8 b)).1
  rw [List.getElem?_map, List.getElem?_eq_getElem hi] at hc
  have ho2 : Own8 (w.setCell ⟨g, i, none⟩ (v8 b)) base (.slice (some ⟨g, 0, none⟩) xs.length c) (xs.set i b) := by
    unfold Own8
    rw [List.length_set, List.map_set]
    exact hs
  have hk := h _ ho2 ((Below.refl g w).setCell (p := ⟨g, i, none⟩) (Nat.le_refl _) _)
  unfold v8 at hc hk
  simp only [Option.map_some] at hc
  unfold Oper.wp execOp
  simp only [ho, hx, hy]
  clear h hs ho2
  go_simp
  exact hK _ _ hk
/-- Where the checksum begins, of whatever protocol. -/
def plcI (n : Int) : Nat := if n = 6 then 16 else if n = 17 then 6 else 0
theorem rplace_any (n : Int) (w : World) : Calls Try.prog 49 #[.int .i64 n] w fun e w' => e = .returned (.int .i64 (plcI n : Nat)) ∧ w = w' := by
  by_cases h6 : n = 6
  · subst h6
    go_enter Try.func49, Try.ntmps49
    go_wp2_with fail
    go_ret
    exact ⟨rfl, rfl⟩
  · have b6 : (n == 6) = false := beq_eq_false_iff_ne.2 h6
    by_cases h17 : n = 17
    · subst h17
      go_enter Try.func49, Try.ntmps49
      go_wp2_with fail
      go_ret
      exact ⟨rfl, rfl⟩
    · have b17 : (n == 17) = false := beq_eq_false_iff_ne.2 h17
      have e : plcI n = 0 := by unfold plcI; rw [if_neg h6, if_neg h17]
      rw [e]
      clear e
      go_enter Try.func49, Try.ntmps49
      go_wp2_with fail
      go_ret
      exact ⟨rfl, rfl⟩
end
section
open Go.RowKit Go.Lib
/-- The cells of an address, as a list. -/
def addrL (s : Bool) (bs : List UInt8) : List Value := .bool s :: bs.map v8
theorem addrC_eq (s : Bool) (bs : List UInt8) : addrC s bs = (addrL s bs).toArray := rfl
theorem addrL_len (s : Bool) (bs : List UInt8) (h : bs.length = 16) : (addrL s bs).length = 17 := by simp [addrL, h]
theorem size_addr (s : Bool) (bs : List UInt8) (h : bs.length = 16) : (Try.prog.info? 25).map (·.size) = some (addrL s bs).length := by
  rw [addrL_len s bs h]; kernel_rfl
theorem addr_range (w : World) (s : Bool) (bs : List UInt8) : (w.alloc (.cells (addrC s bs) 25)).rangeAt w.heap.size 0 (addrL s bs) := fun j v hv => by
  rw [Nat.zero_add, cell_of_row _ w.heap.size j _ _ (0, 0) (heap_alloc_new w _), addrC_eq]
  simpa using hv
theorem rpseudo_any (s : Bool) (a b : List UInt8) (ha : a.length = 16) (hb : b.length = 16) (p l : Nat) (hp : p < 256) (hl : l < 65536) (X : List UInt8) (hX : pseudoOf s a b p l = X) (w : World) :
    Calls Try.prog 66 #[.agg (addrL s a).toArray, .agg (addrL s b).toArray, .int .i64 (p : Int), .int .i64 (l : Int)] w fun e W' => ∃ v, e = .returned v ∧ Own8 W' w.heap.size v X ∧ Below w.heap.size w W' := by
  subst hX
  cases s
  · exact rpseudo_four a b ha hb p l hp hl w
  · exact rpseudo_six a b ha hb p l hp hl w
/-- Block g is a row of just these cells, of type T. -/
def Blk_10 (w : World) (T : TypeId) (g : Nat) (cs : List Value) : Prop := w.heap[g]? = some (.cells cs.toArray T (0, 0))
section
variable {w w' : World} {T : TypeId} {g : Nat} {cs : List Value}
theorem Blk_10.lt (h : Blk_10 w T g cs) : g < w.heap.size := (Array.getElem?_eq_some_iff.1 h).1
theorem Blk_10.new (w : World) (T : TypeId) (cs : List Value) : Blk_10 (w.alloc (.cells cs.toArray T)) T w.heap.size cs := heap_alloc_new w _
theorem Blk_10.alloc (h : Blk_10 w T g cs) (o : Obj) : Blk_10 (w.alloc o) T g cs := (Below.heap_alloc w o g h.lt).trans h
theorem Blk_10.drew (h : Blk_10 w T g cs) : Blk_10 w.drew T g cs := h
theorem Blk_10.below (h : Blk_10 w T g cs) {B : Nat} (hB : g < B) (hb : Below B w w') : Blk_10 w' T g cs := (hb.block g hB).trans h
theorem Blk_10.cell (h : Blk_10 w T g cs) {i : Nat} {v : Value} (hv : cs[i]? = some v) : w.cell? ⟨g, i, none⟩ = some v := by
  rw [cell_of_row w g i _ _ (0, 0) h]; simpa using hv
theorem Blk_10.frozen (h : Blk_10 w T g cs) (i : Nat) : w.frozen? ⟨g, i, none⟩ = false := by
  unfold Blk_10 at h; simp [World.frozen?, h]
theorem Blk_10.set (h : Blk_10 w T g cs) (i : Nat) (v : Value) : Blk_10 (w.setCell ⟨g, i, none⟩ v) T g (cs.set i v) := by
  unfold Blk_10 at h ⊢
  simp [World.setCell, Array.getElem?_modify, h]
theorem Blk_10.far (h : Blk_10 w T g cs) {p : Addr} (hp : g ≠ p.block) (u : Value) : Blk_10 (w.setCell p u) T g cs := (Below.heap_setCell w p u g hp).trans h
theorem Blk_10.setRow_ (h : Blk_10 w T g cs) (ds : List Value) : Blk_10 (w.setRow g ds.toArray) T g ds := setRow_heap w g _ _ T (0, 0) h
theorem Blk_10.setRow_far (h : Blk_10 w T g cs) {b : Nat} (hb : g ≠ b) (ds : Array Value) : Blk_10 (w.setRow b ds) T g cs := (setRow_other w b g ds hb).trans h
theorem Blk_10.grown (h : Blk_10 w T g cs) {row : Option Nat} (hg : w.grownBy w' row) (hr : row ≠ some g) : Blk_10 w' T g cs := (hg.block g h.lt (fun e => hr e.symm)).trans h
theorem Blk_10.range (h : Blk_10 w T g cs) : w.rangeAt g 0 cs := fun j v hv => by
  rw [Nat.zero_add]; exact h.cell hv
theorem Blk_10.mid (h : Blk_10 w T g cs) {pre mid post : List Value} (e : cs = pre ++ (mid ++ post)) {o : Nat} (ho : pre.length = o) : w.rangeAt g o mid := fun j v hv => by
  refine h.cell ?_
  subst ho
  rw [e, List.getElem?_append_right (by omega), Nat.add_sub_cancel_left, List.getElem?_append_left (List.getElem?_eq_some_iff.1 hv).1]; exact hv
end
/-- A whole value into its block: a law for the walk. -/
theorem wpList_storeR_10 {w : World} {ops : Array Oper} {rest : List Oper} {op : Oper} {a : Act} {Q : Exit → Act → World → Prop} (hgd : op.guard = none) (T : TypeId) (x y : Operand) (ho : op.op = .store T x y)
    (g : Nat) (hx : a.eval x = .pointer (some ⟨g, 0, none⟩)) (cs : List Value) (hy : a.eval y = .agg cs.toArray) (old : List Value) (hb : Blk_10 w T g old) (hl : old.length = cs.length)
    (hi : (Try.prog.info? T).map (·.size) = some cs.length) (h1 : ∀ v ∈ cs, v.oneCell' = true)
    (h : wpList Try.prog ops Q rest (a.put op.dst undef) (w.setRow g cs.toArray)) : wpList Try.prog ops Q (op :: rest) a w := by
  refine wpList_plain hgd fun K hK => ?_
  have hr := run_storeVar_row (P := Try.prog) w g T T old.toArray cs.toArray hb (by simpa using hi) (by simpa using hl) (Array.all_eq_true_iff_forall_mem.2 (fun v hv => h1 v (by simpa using hv)))
  unfold Oper.wp execOp
  simp only [ho, hx, hy, Instr.storeAt, Instr.sureAddr, Sem.run_bind, Sem.run_pure, Result.andThen_ok, hr]
  exact hK _ _ h
/-- The same, at a step of a region that draws. -/
theorem step_storeR_10 {w : World} {ops : Array Oper} {op : Oper} {a : Act} {K : Act → World → Prop} {Q : Exit → Act → World → Prop} {E : Prop} (hgd : op.guard = none) (T : TypeId) (x y : Operand) (ho : op.op = .store T x y)
    (g : Nat) (hx : a.eval x = .pointer (some ⟨g, 0, none⟩)) (cs : List Value) (hy : a.eval y = .agg cs.toArray) (old : List Value) (hb : Blk_10 w T g old) (hl : old.length = cs.length)
    (hi : (Try.prog.info? T).map (·.size) = some cs.length) (h1 : ∀ v ∈ cs, v.oneCell' = true)
    (h : K (a.put op.dst undef) (w.setRow g cs.toArray)) : if Region.wanted op (yielded ops a.tmps) = true then Oper.wp Try.prog op a w K Q else E := by
  have hw : Region.wanted op (yielded ops a.tmps) = true := by simp [Region.wanted, hgd]
  rw [if_pos hw]
  have hr := run_storeVar_row (P := Try.prog) w g T T old.toArray cs.toArray hb (by simpa using hi) (by simpa using hl) (Array.all_eq_true_iff_forall_mem.2 (fun v hv => h1 v (by simpa using hv)))
  unfold Oper.wp execOp
  simp only [ho, hx, hy, Instr.storeAt, Instr.sureAddr, Sem.run_bind, Sem.run_pure, Result.andThen_ok, hr]
  exact h
/-- The cells of a header, as a list. -/
def poL (p : Po) : List Value := [.int .i64 (p.s : Int), .int .i64 (p.d : Int), .int .i64 (p.f : Int), .int .i64 (p.h : Int), .int .i64 (p.t : Int)]
theorem poC_eq (p : Po) : poC p = .agg (poL p).toArray := rfl
theorem poL_one (p : Po) : ∀ v ∈ poL p, v.oneCell' = true := by
  intro v hv
  simp only [poL, List.mem_cons, List.not_mem_nil, or_false] at hv
  rcases hv with rfl | rfl | rfl | rfl | rfl <;> rfl
theorem sizePo : (Try.prog.info? 111).map (·.size) = some 5 := by kernel_rfl
theorem sizePoL (p : Po) : (Try.prog.info? 111).map (·.size) = some (poL p).length := sizePo
theorem zeroP_10 : (#[.int .i64 0, .int .i64 0, .int .i64 0, .int .i64 0, .int .i64 0] : Array Value) = (poL Po.zero).toArray := rfl
/-- An address out of a block, guarded by yes or not guarded. -/
theorem wpList_loadA {w : World} {ops : Array Oper} {rest : List Oper} {op : Oper} {a : Act} {Q : Exit → Act → World → Prop} (x : Operand) (ho : op.op = .load 25 x) (hw : Region.wanted op (yielded ops a.tmps) = true)
    (g : Nat) (hx : a.eval x = .pointer (some ⟨g, 0, none⟩)) (s : Bool) (bs : List UInt8) (h : bs.length = 16) (hb : w.rangeAt g 0 (addrL s bs))
    (hk : wpList Try.prog ops Q rest (a.put op.dst (.agg (addrC s bs))) w) : wpList Try.prog ops Q (op :: rest) a w :=
  BigFrame.wpList_want hw fun _ hK => wp_load_mid 25 x ho g 0 hx (addrL s bs) _ hb Try.underlying25 rfl (size_addr s bs h) (hK _ _ hk)
theorem yields_loadA {ops : Array Oper} {S : World → Prop} {op : Oper} {a : Act} (hw : Region.wanted op (yielded ops a.tmps) = true) (x : Operand) (ho : op.op = .load 25 x)
    (g : Nat) (hx : a.eval x = .pointer (some ⟨g, 0, none⟩)) (s : Bool) (bs : List UInt8) (h : bs.length = 16) (hb : ∀ W, S W → W.rangeAt g 0 (addrL s bs)) : YieldsIf Try.prog ops S op (.agg (addrC s bs)) a :=
  yieldsIf_load_mid hw 25 x ho g 0 hx (addrL s bs) _ hb Try.underlying25 rfl (size_addr s bs h)
/-- The results (header, number), the header in a cell. -/
theorem results_po {fn : Func} {p u : Tmp} (hr : fn.results = #[.cell p 111, .tmp u]) (tmps : Array Value) (w : World) (g : Nat) (hp : tmps.getD p undef = .pointer (some ⟨g, 0, none⟩)) (f : Po) (hb : Blk_10 w 111 g (poL f))
    (v : Value) (hu : tmps.getD u undef = v) : (results fn tmps).run Try.prog w = .ok (.tuple #[poC f, v]) w := by
  have hl := run_loadVar_mid (P := Try.prog) w g 0 111 (poL f) _ hb.range Try.underlying111 rfl (sizePoL f)
  rw [results_cell_tmp hr, hp, hu]
  simp [Result.andThen, asAddr, hl, poC_eq]
/-- A header is stored into a cell that was just laid. -/
theorem wpList_storeNew_10 {w : World} {ops : Array Oper} {rest : List Oper} {op : Oper} {a : Act} {Q : Exit → Act → World → Prop} (hgd : op.guard = none) (x y : Operand) (ho : op.op = .store 111 x y)
    (hx : a.eval x = .pointer (some ⟨w.heap.size, 0, none⟩)) (f : Po) (hy : a.eval y = poC f)
    (h : ∀ w', Blk_10 w' 111 w.heap.size (poL f) → Below w.heap.size w w' → w'.heap.size = w.heap.size + 1 → wpList Try.prog ops Q rest (a.put op.dst undef) w') :
    wpList Try.prog ops Q (op :: rest) a (w.alloc (.cells #[.int .i64 0, .int .i64 0, .int .i64 0, .int .i64 0, .int .i64 0] 111)) := by
  rw [zeroP_10]
  have hb := Blk_10.new w 111 (poL Po.zero)
  refine wpList_storeR_10 hgd 111 x y ho w.heap.size hx (poL f) hy _ hb rfl (sizePoL f) (poL_one _) ?_
  refine h _ (hb.setRow_ _) (below_setRow ((Below.refl _ _).alloc (Nat.le_refl _) _) (Nat.le_refl _) _) ?_
  rw [World.setRow]; simp
/-- A cell of a block known whole is stored anew: laws for the walk; the world behind it is a letter. -/
theorem wpList_storeI_10 {w : World} {ops : Array Oper} {rest : List Oper} {op : Oper} {a : Act} {Q : Exit → Act → World → Prop} (hgd : op.guard = none) (x y : Operand) (ho : op.op = .store 3 x y)
    (g i : Nat) (hx : a.eval x = .pointer (some ⟨g, i, none⟩)) (n : Int) (hy : a.eval y = .int .i64 n) (U : TypeId) (cs : List Value) (hb : Blk_10 w U g cs) (m : Int) (hi : cs[i]? = some (.int .i64 m))
    (h : ∀ w', Blk_10 w' U g (cs.set i (.int .i64 n)) → (∀ k, k ≠ g → w'.heap[k]? = w.heap[k]?) → Below g w w' → wpList Try.prog ops Q rest (a.put op.dst undef) w') : wpList Try.prog ops Q (op :: rest) a w := by
  refine wpList_plain hgd fun K hK => ?_
  have hc := hb.cell hi
  have hf := hb.frozen i
  have hk := h _ (hb.set i (.int .i64 n)) (fun k hkg => Below.heap_setCell w ⟨g, i, none⟩ _ k hkg) ((Below.refl g w).setCell (p := ⟨g, i, none⟩) (Nat.le_refl _) _)
  unfold Oper.wp execOp
  simp only [ho, hx, hy]
  clear h
  go_simp
  exact hK _ _ hk
/-- A struct put together: a law for the walk, under a guard that says yes, or under none. -/
theorem wpList_buildw {w : World} {ops : Array Oper} {rest : List Oper} {op : Oper} {a : Act} {Q : Exit → Act → World → Prop} (T : TypeId) (parts : Array (Nat × Operand)) (ho : op.op = .build T parts) (hw : Region.wanted op (yielded ops a.tmps) = true) (vals : List (Nat × Value)) (hv : (parts.map fun (i, x) => (i, a.eval x)).toList = vals)
    (cells : Array Value) (hb : Try.prog.built T vals = some cells) (hk : wpList Try.prog ops Q rest (a.put op.dst (.agg cells)) w) : wpList Try.prog ops Q (op :: rest) a w :=
  BigFrame.wpList_want hw fun K hK => by
    unfold Oper.wp execOp
    simp only [ho, Sem.run_bind, run_build w T _ cells (by rw [hv]; exact hb), Result.andThen_ok, Sem.run_pure]
    exact hK _ _ hk
end
section
open Go.RowKit Go.Lib
section
variable {A : Option Addr} {len cap : Nat} {xs : List UInt8}
end
/-- What both Reads give. -/
def ReadGave_10 (w : World) (p : Po) (k : Nat) (e : Ending) (w' : World) : Prop := e = .returned (.tuple #[poC p, .int .i64 (k : Int)]) ∧ Below w.heap.size w w'
end
section
open Go.RowKit Go.Lib
theorem two_b {A : Option Addr} {len : Nat} {cap p : Nat} {xs : List UInt8} (hp : p ≤ 1000) (h : p + 2 ≤ len) (z : Int) (hz : z = (p : Int)) {w : World} {B : Nat} (hI : Rd w B A len xs) :
    Calls Try.prog 84 #[.slice A len cap, .int .i64 z] w fun e w' => e = .returned (.int .i64 (wat xs p : Nat)) ∧ Below w.heap.size w w' := by
  subst hz
  refine (two_any_10 hp h hI).mono ?_
  rintro e w' ⟨rfl, n, rfl⟩
  exact ⟨rfl, below_drewN (Below.refl _ _) n⟩
section
variable {A : Option Addr} {len cap : Nat} {xs : List UInt8}
set_option maxRecDepth 100000 in
set_option maxHeartbeats 1000000 in
theorem rread_N (w : World) (n : Int) (h6 : n ≠ 6) (h17 : n ≠ 17) :
    Calls Try.prog 65 #[.int .i64 n, .slice A len cap] w (ReadGave_10 w (rdP n xs) (faultP n xs)) := by
  have hB0 := (Below.refl w.heap.size w).alloc (Nat.le_refl _) (.cells (poL Po.zero).toArray 111)
  have hR0 := Blk_10.new w 111 (poL Po.zero)
  obtain ⟨Z, hZ⟩ : ∃ Z : World, w.alloc (.cells (poL Po.zero).toArray 111) = Z := ⟨_, rfl⟩
  rw [hZ] at hB0 hR0
  rw [← zeroP_10] at hZ
  have HZ := Lib.hid hZ
  have HR0 := Lib.hid hR0
  have HB0 := Lib.hid hB0
  clear hZ hR0 hB0
  have E : faultP n xs = 5 := by unfold faultP; rw [if_neg h6, if_neg h17]
  rw [rdP_no (by rw [E]; decide), E]
  have b6 : (n == 6) = false := beq_eq_false_iff_ne.2 h6
  have b17 : (n != 17) = true := by simp [h17]
  clear E
  go_enter Try.func65, Try.ntmps65
  go_wp2_with (first
    | ((with_reducible show wpList _ _ _ _ _ _); refine wpList_buildw 111 _ rfl (by rfl) _ (by kernel_rfl) (poL Po.zero).toArray (by kernel_rfl) ?_)
    | ((with_reducible show wpList _ _ _ _ _ _); rw [HZ.out]; refine wpList_storeR_10 rfl 111 _ _ rfl w.heap.size (by rfl) (poL Po.zero) (by rfl) _ HR0.out rfl (sizePoL _) (poL_one _) ?_))
  refine bodyPost_ret (v := .tuple #[poC Po.zero, .int .i64 5]) (results_po rfl _ _ w.heap.size (by rfl) _ (HR0.out.setRow_ _) _ (by rfl)) rfl ?_
  exact ⟨rfl, below_setRow HB0.out (Nat.le_refl _) _⟩
set_option maxRecDepth 100000 in
set_option maxHeartbeats 1000000 in
theorem rread_U (w : World) (hI : Rd w w.heap.size A len xs) :
    Calls Try.prog 65 #[.int .i64 17, .slice A len cap] w (ReadGave_10 w (rdP 17 xs) (faultP 17 xs)) := by
  have hB0 := (Below.refl w.heap.size w).alloc (Nat.le_refl _) (.cells (poL Po.zero).toArray 111)
  have hR0 := Blk_10.new w 111 (poL Po.zero)
  obtain ⟨Z, hZ⟩ : ∃ Z : World, w.alloc (.cells (poL Po.zero).toArray 111) = Z := ⟨_, rfl⟩
  rw [hZ] at hB0 hR0
  rw [← zeroP_10] at hZ
  have HZ := Lib.hid hZ
  have HR0 := Lib.hid hR0
  have HB0 := Lib.hid hB0
  clear hZ hR0 hB0
  have hL := hI.len
  have hle := wat_lt xs 4
  by_cases h1 : len < 8
  · have E : faultP 17 xs = 2 := by show faultU xs = 2; unfold faultU; rw [if_pos (by omega)]
    rw [rdP_no (by rw [E]; decide), E]
    have h1' : (len : Int) < 8 := by omega
    clear E
    go_enter Try.func65, Try.ntmps65
    go_wp2_with (first
      | ((with_reducible show wpList _ _ _ _ _ _); refine wpList_buildw 111 _ rfl (by rfl) _ (by kernel_rfl) (poL Po.zero).toArray (by kernel_rfl) ?_)
      | ((with_reducible show wpList _ _ _ _ _ _); rw [HZ.out]; refine wpList_storeR_10 rfl 111 _ _ rfl w.heap.size (by rfl) (poL Po.zero) (by rfl) _ HR0.out rfl (sizePoL _) (poL_one _) ?_))
    refine bodyPost_ret (v := .tuple #[poC Po.zero, .int .i64 2]) (results_po rfl _ _ w.heap.size (by rfl) _ (HR0.out.setRow_ _) _ (by rfl)) rfl ?_
    exact ⟨rfl, below_setRow HB0.out (Nat.le_refl _) _⟩
  · have h1' : ¬ (len : Int) < 8 := by omega
    have T0 := Lib.hid (fun W (hB : Below w.heap.size w W) => two_b (p := 0) (cap := cap) (by omega) (by omega) 0 rfl (hI.below hB))
    have T2 := Lib.hid (fun W (hB : Below w.heap.size w W) => two_b (p := 2) (cap := cap) (by omega) (by omega) 2 rfl (hI.below hB))
    have T4 := Lib.hid (fun W (hB : Below w.heap.size w W) => two_b (p := 4) (cap := cap) (by omega) (by omega) 4 rfl (hI.below hB))
    have E1 := Lib.hid (fun (h2 : wat xs 4 < 8) => show faultP 17 xs = 3 by show faultU xs = 3; unfold faultU; rw [if_neg (by omega), if_pos h2])
    have E2 := Lib.hid (fun (h2 : ¬ wat xs 4 < 8) (h3 : len < wat xs 4) => show faultP 17 xs = 2 by show faultU xs = 2; unfold faultU; rw [if_neg (by omega), if_neg h2, if_pos (by omega)])
    have E3 := Lib.hid (fun (h2 : ¬ wat xs 4 < 8) (h3 : ¬ len < wat xs 4) => show faultP 17 xs = 0 by show faultU xs = 0; unfold faultU; rw [if_neg (by omega), if_neg h2, if_neg (by omega)])
    have EN := Lib.hid (fun (h : faultP 17 xs ≠ 0) => rdP_no h)
    have EY := Lib.hid (fun (h : faultP 17 xs = 0) => (rdP_U h).trans (show poU xs = ⟨wat xs 0, wat xs 2, 0, 8, wat xs 4⟩ from rfl))
    generalize rdP 17 xs = PP at *
    generalize faultP 17 xs = F at *
    generalize wat xs 4 = t at *
    generalize wat xs 0 = s at *
    generalize wat xs 2 = d at *
    clear hI hL
    by_cases h2 : t < 8
    · have e := E1.out h2
      have e2 := EN.out (by omega)
      subst e e2
      have h2' : (t : Int) < 8 := by omega
      go_enter Try.func65, Try.ntmps65
      go_wp2_with fail
      rw [HZ.out]
      refine (T4.out _ HB0.out).mono ?_
      rintro e w1 ⟨rfl, hb1⟩
      have HB1 := Lib.hid (HB0.out.trans (hb1.mono HB0.out.size))
      have HR1 := Lib.hid (HR0.out.below HR0.out.lt hb1)
      clear hb1
      go_wp2_with (first
        | ((with_reducible show wpList _ _ _ _ _ _); refine wpList_buildw 111 _ rfl (by rfl) _ (by kernel_rfl) (poL Po.zero).toArray (by kernel_rfl) ?_)
        | ((with_reducible show wpList _ _ _ _ _ _); refine wpList_storeR_10 rfl 111 _ _ rfl w.heap.size (by rfl) (poL Po.zero) (by rfl) _ HR1.out rfl (sizePoL _) (poL_one _) ?_))
      refine bodyPost_ret (v := .tuple #[poC Po.zero, .int .i64 3]) (results_po rfl _ _ w.heap.size (by rfl) _ (HR1.out.setRow_ _) _ (by rfl)) rfl ?_
      exact ⟨rfl, below_setRow HB1.out (Nat.le_refl _) _⟩
    · have h2' : ¬ (t : Int) < 8 := by omega
      by_cases h3 : len < t
      · have e := E2.out h2 h3
        have e2 := EN.out (by omega)
        subst e e2
        have h3' : (len : Int) < (t : Int) := by omega
        go_enter Try.func65, Try.ntmps65
        go_wp2_with fail
        rw [HZ.out]
        refine (T4.out _ HB0.out).mono ?_
        rintro e w1 ⟨rfl, hb1⟩
        have HB1 := Lib.hid (HB0.out.trans (hb1.mono HB0.out.size))
        have HR1 := Lib.hid (HR0.out.below HR0.out.lt hb1)
        clear hb1
        go_wp2_with fail
        refine (T4.out _ HB1.out).mono ?_
        rintro e w2 ⟨rfl, hb2⟩
        have HB2 := Lib.hid (HB1.out.trans (hb2.mono HB1.out.size))
        have HR2 := Lib.hid (HR1.out.below HR1.out.lt hb2)
        clear hb2
        go_wp2_with (first
          | ((with_reducible show wpList _ _ _ _ _ _); refine wpList_buildw 111 _ rfl (by rfl) _ (by kernel_rfl) (poL Po.zero).toArray (by kernel_rfl) ?_)
          | ((with_reducible show wpList _ _ _ _ _ _); refine wpList_storeR_10 rfl 111 _ _ rfl w.heap.size (by rfl) (poL Po.zero) (by rfl) _ HR2.out rfl (sizePoL _) (poL_one _) ?_))
        refine bodyPost_ret (v := .tuple #[poC Po.zero, .int .i64 2]) (results_po rfl _ _ w.heap.size (by rfl) _ (HR2.out.setRow_ _) _ (by rfl)) rfl ?_
        exact ⟨rfl, below_setRow HB2.out (Nat.le_refl _) _⟩
      · have e := E3.out h2 h3
        have e2 := EY.out e
        subst e e2
        have h3' : ¬ (len : Int) < (t : Int) := by omega
        go_enter Try.func65, Try.ntmps65
        go_wp2_with fail
        rw [HZ.out]
        refine (T4.out _ HB0.out).mono ?_
        rintro e w1 ⟨rfl, hb1⟩
        have HB1 := Lib.hid (HB0.out.trans (hb1.mono HB0.out.size))
        have HR1 := Lib.hid (HR0.out.below HR0.out.lt hb1)
        clear hb1
        go_wp2_with fail
        refine (T4.out _ HB1.out).mono ?_
        rintro e w2 ⟨rfl, hb2⟩
        have HB2 := Lib.hid (HB1.out.trans (hb2.mono HB1.out.size))
        have HR2 := Lib.hid (HR1.out.below HR1.out.lt hb2)
        clear hb2
        go_wp2_with fail
        refine (T0.out _ HB2.out).mono ?_
        rintro e w3 ⟨rfl, hb3⟩
        have HB3 := Lib.hid (HB2.out.trans (hb3.mono HB2.out.size))
        have HR3 := Lib.hid (HR2.out.below HR2.out.lt hb3)
        clear hb3
        go_wp2_with fail
        refine (T2.out _ HB3.out).mono ?_
        rintro e w4 ⟨rfl, hb4⟩
        have HB4 := Lib.hid (HB3.out.trans (hb4.mono HB3.out.size))
        have HR4 := Lib.hid (HR3.out.below HR3.out.lt hb4)
        clear hb4
        go_wp2_with fail
        refine (T4.out _ HB4.out).mono ?_
        rintro e w5 ⟨rfl, hb5⟩
        have HB5 := Lib.hid (HB4.out.trans (hb5.mono HB4.out.size))
        have HR5 := Lib.hid (HR4.out.below HR4.out.lt hb5)
        clear hb5
        go_wp2_with (first
          | ((with_reducible show wpList _ _ _ _ _ _); refine wpList_buildw 111 _ rfl (by rfl) _ (by kernel_rfl) (poL ⟨s, d, 0, 8, t⟩).toArray (by kernel_rfl) ?_)
          | ((with_reducible show wpList _ _ _ _ _ _); refine wpList_storeR_10 rfl 111 _ _ rfl w.heap.size (by rfl) (poL ⟨s, d, 0, 8, t⟩) (by rfl) _ HR5.out rfl (sizePoL _) (poL_one _) ?_))
        refine bodyPost_ret (v := .tuple #[poC ⟨s, d, 0, 8, t⟩, .int .i64 0]) (results_po rfl _ _ w.heap.size (by rfl) _ (HR5.out.setRow_ _) _ (by rfl)) rfl ?_
        exact ⟨rfl, below_setRow HB5.out (Nat.le_refl _) _⟩
set_option maxRecDepth 100000 in
set_option maxHeartbeats 1000000 in
theorem rread_T (w : World) (hI : Rd w w.heap.size A len xs) :
    Calls Try.prog 65 #[.int .i64 6, .slice A len cap] w (ReadGave_10 w (rdP 6 xs) (faultP 6 xs)) := by
  have hB0 := (Below.refl w.heap.size w).alloc (Nat.le_refl _) (.cells (poL Po.zero).toArray 111)
  have hR0 := Blk_10.new w 111 (poL Po.zero)
  obtain ⟨Z, hZ⟩ : ∃ Z : World, w.alloc (.cells (poL Po.zero).toArray 111) = Z := ⟨_, rfl⟩
  rw [hZ] at hB0 hR0
  rw [← zeroP_10] at hZ
  have HZ := Lib.hid hZ
  have HR0 := Lib.hid hR0
  have HB0 := Lib.hid hB0
  clear hZ hR0 hB0
  have hL := hI.len
  have hle := hlN_le xs
  by_cases h1 : len < 20
  · have E : faultP 6 xs = 2 := by show faultT xs = 2; unfold faultT; rw [if_pos (by omega)]
    rw [rdP_no (by rw [E]; decide), E]
    have h1' : (len : Int) < 20 := by omega
    clear E
    go_enter Try.func65, Try.ntmps65
    go_wp2_with (first
      | ((with_reducible show wpList _ _ _ _ _ _); refine wpList_buildw 111 _ rfl (by rfl) _ (by kernel_rfl) (poL Po.zero).toArray (by kernel_rfl) ?_)
      | ((with_reducible show wpList _ _ _ _ _ _); rw [HZ.out]; refine wpList_storeR_10 rfl 111 _ _ rfl w.heap.size (by rfl) (poL Po.zero) (by rfl) _ HR0.out rfl (sizePoL _) (poL_one _) ?_))
    refine bodyPost_ret (v := .tuple #[poC Po.zero, .int .i64 2]) (results_po rfl _ _ w.heap.size (by rfl) _ (HR0.out.setRow_ _) _ (by rfl)) rfl ?_
    exact ⟨rfl, below_setRow HB0.out (Nat.le_refl _) _⟩
  · have h1' : ¬ (len : Int) < 20 := by omega
    have T0 := Lib.hid (fun W (hB : Below w.heap.size w W) => two_b (p := 0) (cap := cap) (by omega) (by omega) 0 rfl (hI.below hB))
    have T2 := Lib.hid (fun W (hB : Below w.heap.size w W) => two_b (p := 2) (cap := cap) (by omega) (by omega) 2 rfl (hI.below hB))
    obtain ⟨b, off, rfl, _⟩ := hI.addr (by omega)
    have c12 := (hI.below HB0.out).cellD (k := 12) (by omega)
    rw [← HZ.out] at c12
    have HC := Lib.hid (fun W (hB : Below w.heap.size w W) => (hI.below hB).cellD (k := 13) (by omega))
    have hx := batN_lt xs 13
    have hy := batN_lt xs 12
    have hr : ((hlN xs : Nat) : Int) = 4 * ((batN xs 12 : Int) / 16) := by unfold hlN; omega
    have E1 := Lib.hid (fun (h2 : hlN xs < 20) => show faultP 6 xs = 3 by show faultT xs = 3; unfold faultT; rw [if_neg (by omega), if_pos h2])
    have E2 := Lib.hid (fun (h2 : ¬ hlN xs < 20) (h3 : len < hlN xs) => show faultP 6 xs = 2 by show faultT xs = 2; unfold faultT; rw [if_neg (by omega), if_neg h2, if_pos (by omega)])
    have E3 := Lib.hid (fun (h2 : ¬ hlN xs < 20) (h3 : ¬ len < hlN xs) => show faultP 6 xs = 0 by show faultT xs = 0; unfold faultT; rw [if_neg (by omega), if_neg h2, if_neg (by omega)])
    have EN := Lib.hid (fun (h : faultP 6 xs ≠ 0) => rdP_no h)
    have EY := Lib.hid (fun (h : faultP 6 xs = 0) => (rdP_T h).trans (show poT xs = ⟨wat xs 0, wat xs 2, batN xs 13 % 64, hlN xs, len⟩ by unfold poT; rw [hL]))
    generalize rdP 6 xs = PP at *
    generalize faultP 6 xs = F at *
    generalize hlN xs = r at *
    generalize wat xs 0 = s at *
    generalize wat xs 2 = d at *
    generalize batN xs 13 = x at *
    generalize batN xs 12 = y at *
    have l12 : (12 : Int) < (len : Int) := by omega
    have l13 : (13 : Int) < (len : Int) := by omega
    have hwr : IntKind.i64.wrap (4 * ((y : Int) / 16)) = (r : Int) := by rw [IntKind.wrap_i64]; omega
    have hwy : IntKind.i64.wrap ((y : Int) / 16) = (y : Int) / 16 := by rw [IntKind.wrap_i64]; omega
    have hwx : IntKind.i64.wrap ((x : Int) % 64) = (x : Int) % 64 := by rw [IntKind.wrap_i64]; omega
    have htm : Int.tmod (x : Int) 64 = (x : Int) % 64 := Int.tmod_eq_emod_of_nonneg (by omega)
    clear hI hL hr
    by_cases h2 : r < 20
    · have e := E1.out h2
      have e2 := EN.out (by omega)
      subst e e2
      have h2' : (r : Int) < 20 := by omega
      go_enter Try.func65, Try.ntmps65
      go_wp2_with (first
        | ((with_reducible show wpList _ _ _ _ _ _); refine wpList_buildw 111 _ rfl (by rfl) _ (by kernel_rfl) (poL Po.zero).toArray (by kernel_rfl) ?_)
        | ((with_reducible show wpList _ _ _ _ _ _); rw [HZ.out]; refine wpList_storeR_10 rfl 111 _ _ rfl w.heap.size (by rfl) (poL Po.zero) (by rfl) _ HR0.out rfl (sizePoL _) (poL_one _) ?_))
      refine bodyPost_ret (v := .tuple #[poC Po.zero, .int .i64 3]) (results_po rfl _ _ w.heap.size (by rfl) _ (HR0.out.setRow_ _) _ (by rfl)) rfl ?_
      exact ⟨rfl, below_setRow HB0.out (Nat.le_refl _) _⟩
    · have h2' : ¬ (r : Int) < 20 := by omega
      by_cases h3 : len < r
      · have e := E2.out h2 h3
        have e2 := EN.out (by omega)
        subst e e2
        have h3' : (len : Int) < (r : Int) := by omega
        go_enter Try.func65, Try.ntmps65
        go_wp2_with (first
          | ((with_reducible show wpList _ _ _ _ _ _); refine wpList_buildw 111 _ rfl (by rfl) _ (by kernel_rfl) (poL Po.zero).toArray (by kernel_rfl) ?_)
          | ((with_reducible show wpList _ _ _ _ _ _); rw [HZ.out]; refine wpList_storeR_10 rfl 111 _ _ rfl w.heap.size (by rfl) (poL Po.zero) (by rfl) _ HR0.out rfl (sizePoL _) (poL_one _) ?_))
        refine bodyPost_ret (v := .tuple #[poC Po.zero, .int .i64 2]) (results_po rfl _ _ w.heap.size (by rfl) _ (HR0.out.setRow_ _) _ (by rfl)) rfl ?_
        exact ⟨rfl, below_setRow HB0.out (Nat.le_refl _) _⟩
      · have e := E3.out h2 h3
        have e2 := EY.out e
        subst e e2
        have h3' : ¬ (len : Int) < (r : Int) := by omega
        go_enter Try.func65, Try.ntmps65
        go_wp2_with fail
        rw [HZ.out]
        refine wp_region_held_drew (S := fun W => Below w.heap.size w W) (by kernel_rfl) (HB0.out.drew) (fun hHeld => ?_)
        refine tk 0 27 (.slice (some ⟨b, off, none⟩) len cap) rfl hHeld ?_
        simp only [Act.put, sA, sZ, sS]
        refine tk 2 29 (.slice (some ⟨b, off, none⟩) len cap) rfl hHeld ?_
        simp only [Act.put, sA, sZ, sS]
        refine tk 4 31 (.slice (some ⟨b, off, none⟩) len cap) rfl hHeld ?_
        simp only [Act.put, sA, sZ, sS]
        refine tk 5 32 (.pointer (some ⟨b, off + 13, none⟩)) rfl hHeld ?_
        simp only [Act.put, sA, sZ, sS]
        refine tkY 6 33 (.int .u8 (x : Int)) rfl (Or.inl ⟨by rfl, fun W hW => by have hc := HC.out W hW; go_simp⟩) hHeld ?_
        simp only [Act.put, sA, sZ, sS]
        refine tk 7 34 (.int .u8 ((x : Int) % 64)) rfl hHeld ?_
        simp only [Act.put, sA, sZ, sS]
        refine tk 8 35 (.int .i64 ((x : Int) % 64)) rfl hHeld ?_
        simp only [Act.put, sA, sZ, sS]
        refine tk 9 36 (.int .i64 (r : Int)) rfl hHeld ?_
        simp only [Act.put, sA, sZ, sS]
        refine tk 10 37 (.slice (some ⟨b, off, none⟩) len cap) rfl hHeld ?_
        simp only [Act.put, sA, sZ, sS]
        refine tk 11 38 (.int .i64 (len : Int)) rfl hHeld ?_
        simp only [Act.put, sA, sZ, sS]
        have HR1 : Hid (Blk_10 Z.drew 111 w.heap.size (poL Po.zero)) := Lib.hid HR0.out
        clear HR0
        refine wpAnyH_ready (rs := [1]) (by kernel_rfl) (by simp) (AllReadyH.cons (o := ⟨some 28, _, _, _, _, _⟩) rfl (fun K hK => ?_) AllReadyH.nil)
        go_simp
        refine (T0.out _ hHeld).mono ?_
        rintro e w2 ⟨rfl, hb2⟩
        have HR2 := Lib.hid (HR1.out.below HR1.out.lt hb2)
        refine hK.out _ _ (hHeld.trans (hb2.mono hHeld.size)) (fun hHeld => ?_)
        clear hK K hb2 HR1
        refine wpAnyH_ready (rs := [3]) (by kernel_rfl) (by simp) (AllReadyH.cons (o := ⟨some 30, _, _, _, _, _⟩) rfl (fun K hK => ?_) AllReadyH.nil)
        go_simp
        refine (T2.out _ hHeld).mono ?_
        rintro e w3 ⟨rfl, hb3⟩
        have HR3 := Lib.hid (HR2.out.below HR2.out.lt hb3)
        refine hK.out _ _ (hHeld.trans (hb3.mono hHeld.size)) (fun hHeld => ?_)
        clear hK K hb3 HR2
        refine tkY 12 39 (.agg (poL ⟨s, d, x % 64, r, len⟩).toArray) rfl (yields_build (by rfl) 111 _ rfl [(0, .int .i64 (s : Int)), (1, .int .i64 (d : Int)), (2, .int .i64 ((x : Int) % 64)), (3, .int .i64 (r : Int)), (4, .int .i64 (len : Int))] (by kernel_rfl) _ (by kernel_rfl)) hHeld ?_
        simp only [Act.put, sA, sZ, sS]
        refine wpAnyH_ready (rs := [13]) (by kernel_rfl) (by simp) (AllReadyH.cons (o := ⟨none, _, _, _, _, _⟩) rfl (fun K hK => ?_) AllReadyH.nil)
        refine step_storeR_10 rfl 111 _ _ rfl w.heap.size (by rfl) (poL ⟨s, d, x % 64, r, len⟩) (by rfl) _ HR3.out rfl (sizePoL _) (poL_one _) ?_
        have hR9 := Lib.hid (HR3.out.setRow_ (poL ⟨s, d, x % 64, r, len⟩))
        refine hK.out _ _ (below_setRow hHeld (Nat.le_refl _) _) (fun hHeld => ?_)
        clear hK K HR3
        refine tk 14 5 (.int .i64 0) rfl hHeld ?_
        simp only [Act.put, sA, sZ, sS]
        refine wpAnyH_done (by kernel_rfl) ?_ _
        go_wp2_with fail
        refine bodyPost_ret (v := .tuple #[poC ⟨s, d, x % 64, r, len⟩, .int .i64 0]) (results_po rfl _ _ w.heap.size (by rfl) _ hR9.out _ (by rfl)) rfl ?_
        exact ⟨rfl, hHeld⟩
/-- The document's Read. -/
theorem rread_any_10 (n : Int) (w : World) (hI : Rd w w.heap.size A len xs) :
    Calls Try.prog 65 #[.int .i64 n, .slice A len cap] w (ReadGave_10 w (rdP n xs) (faultP n xs)) := by
  by_cases h6 : n = 6
  · subst h6; exact rread_T w hI
  · by_cases h17 : n = 17
    · subst h17; exact rread_U w hI
    · exact rread_N w n h6 h17
end
end
section
open Go.RowKit Go.Lib
section
variable {W : World} {A1 A2 : Option Addr} {n1 n2 c1 c2 : Nat} {x y : List UInt8}
end
/-- Two addresses, laid in their boxes. -/
theorem boxes (w : World) (six : Bool) (a b : List UInt8) :
    ((w.alloc (.cells (addrC six a) 25)).alloc (.cells (addrC six b) 25)).rangeAt w.heap.size 0 (addrL six a) ∧ ((w.alloc (.cells (addrC six a) 25)).alloc (.cells (addrC six b) 25)).rangeAt (w.heap.size + 1) 0 (addrL six b) ∧
    Below w.heap.size w ((w.alloc (.cells (addrC six a) 25)).alloc (.cells (addrC six b) 25)) ∧ w.heap.size + 1 < ((w.alloc (.cells (addrC six a) 25)).alloc (.cells (addrC six b) 25)).heap.size := by
  have k0 := addr_range w six a
  have k1 := addr_range (w.alloc (.cells (addrC six a) 25)) six b
  simp only [World.size_alloc] at k1
  refine ⟨range_keep k0 (Nat.lt_succ_self _) ?_, k1, ((Below.refl w.heap.size w).alloc (Nat.le_refl _) _).alloc (by simp) _, by simp⟩
  exact (Below.refl (w.heap.size + 1) (w.alloc (.cells (addrC six a) 25))).alloc (by simp) _
end
section
open Go.RowKit Go.Lib
end
section
open Go.RowKit Go.Lib
/-- An address out of its box, under a name. -/
theorem wpList_loadC {w : World} {ops : Array Oper} {rest : List Oper} {op : Oper} {a : Act} {Q : Exit → Act → World → Prop} (x : Operand) (ho : op.op = .load 25 x) (hw : Region.wanted op (yielded ops a.tmps) = true)
    (g : Nat) (hx : a.eval x = .pointer (some ⟨g, 0, none⟩)) (s : Bool) (bs : List UInt8) (h : bs.length = 16) (hb : w.rangeAt g 0 (addrL s bs)) (C : Array Value) (hC : addrC s bs = C)
    (hk : wpList Try.prog ops Q rest (a.put op.dst (.agg C)) w) : wpList Try.prog ops Q (op :: rest) a w := by
  subst hC
  exact wpList_loadA x ho hw g hx s bs h hb hk
/-- An append at a step of a region that draws. -/
theorem step_append8 {w : World} {ops : Array Oper} {o : Oper} {a : Act} {K : Act → World → Prop} {Q : Exit → Act → World → Prop} {E : Prop} (hgd : o.guard = none) (s x : Operand)
    (ho : o.op = .call { callee := .builtin .append, args := #[s, x], argTypes := #[22, 22] })
    (base : Nat) (v : Value) (xs : List UInt8) (hs : a.eval s = v) (hown : Own8 w base v xs) (B : Nat) (A : Option Addr) (m c : Nat) (ys : List UInt8) (hx : a.eval x = .slice A m c) (hr : Rd w B A m ys)
    (hlen : xs.length + m ≤ 2000000000) (hbase : base ≤ w.heap.size)
    (h : ∀ v' w', Own8 w' base v' (xs ++ ys) → w.grownBy w' v.ownBlock → K (a.put o.dst v') w') :
    if Region.wanted o (yielded ops a.tmps) = true then Oper.wp Try.prog o a w K Q else E := by
  have hw : Region.wanted o (yielded ops a.tmps) = true := by simp [Region.wanted, hgd]
  rw [if_pos hw]
  obtain ⟨v', w', hrun, h2, h3, h4⟩ := run_append8 w o.type base v xs hown B A m c ys hr hlen hbase
  unfold Oper.wp execOp
  simp only [ho, resolve, invoke, builtin, Sem.run_bind, Sem.run_pure, Result.andThen_ok, List.map_toArray, List.map_cons, List.map_nil, hs, hx, hrun]
  exact h v' w' h2 h3
set_option maxRecDepth 100000 in
set_option maxHeartbeats 4000000 in
theorem rsumS_T (six : Bool) (a b : List UInt8) (ha : a.length = 16) (hb : b.length = 16) {A : Option Addr} {len cap : Nat} {xs : List UInt8} (hlen : len ≤ 65535) (hcap : len ≤ cap) (w : World) (hI : Rd w w.heap.size A len xs) (h0 : faultB false xs = 0) :
    Calls Try.prog 50 #[.agg (addrC six a), .agg (addrC six b), .int .i64 6, .slice A len cap] w fun e w' => e = .returned (.int .i64 (ckS six a b false xs : Nat)) ∧ Below w.heap.size w w' := by
  have HL := Lib.hid hI.len
  obtain ⟨t1, t2, t3⟩ := tot_ok h0
  rw [hI.len] at t3
  obtain ⟨k0, k1, hb0, hz⟩ := boxes w six a b
  obtain ⟨Z, hZ⟩ : ∃ Z : World, (w.alloc (.cells (addrC six a) 25)).alloc (.cells (addrC six b) 25) = Z := ⟨_, rfl⟩
  rw [hZ] at k0 k1 hb0 hz
  have HR := Lib.hid (rread_any_10 (A := A) (cap := cap) (xs := xs) 6 Z ((hI.below hb0).more hb0.size))
  have hf0 : faultP 6 xs = 0 := h0
  have hpt : (rdP 6 xs).t = totN_10 false xs := rdP_tot (u := false) h0
  rw [hf0] at HR
  have hP := pseudo_even six a b ha hb (prN false) (totN_10 false xs)
  have HT := Lib.hid (fun W (hB : Below w.heap.size w W) => (hI.below hB).take t3)
  have hck : ckOf (pseudoOf six a b (prN false) (totN_10 false xs) ++ xs.take (totN_10 false xs)) = ckS six a b false xs := rfl
  have HCK := Lib.hid hck
  clear hck
  generalize ckS six a b false xs = c at *
  obtain ⟨p, hp⟩ : ∃ p, rdP 6 xs = p := ⟨_, rfl⟩
  rw [hp] at HR hpt
  have HPT := Lib.hid hpt
  generalize totN_10 false xs = T at *
  have HPS := Lib.hid (fun W => rpseudo_any six a b ha hb (prN false) T (prN_lt _) (by omega) _ rfl W)
  rw [show ((prN false : Nat) : Int) = 6 from rfl] at HPS
  obtain ⟨X, hX⟩ : ∃ X, pseudoOf six a b (prN false) T = X := ⟨_, rfl⟩
  rw [hX] at hP HPS HCK
  obtain ⟨n, hn⟩ : ∃ n, X.length = n := ⟨_, rfl⟩
  rw [hn] at hP
  have HN := Lib.hid hn
  have hn0 : 0 < n := hP.2.1
  have hn40 : n ≤ 40 := hP.2.2
  have HCUT := Lib.hid (fun W => run_upto8 A len cap T (T : Int) rfl (by omega) W)
  have HZ := Lib.hid hZ
  have K0 := Lib.hid k0
  have K1 := Lib.hid k1
  have HB0 := Lib.hid hb0
  have HG := Lib.hid hz
  have HI := Lib.hid hI
  rw [← addrC_eq, ← addrC_eq] at HPS
  obtain ⟨C0, hC0⟩ : ∃ C, addrC six a = C := ⟨_, rfl⟩
  obtain ⟨C1, hC1⟩ : ∃ C, addrC six b = C := ⟨_, rfl⟩
  rw [hC0, hC1] at HZ HPS
  rw [hC0, hC1]
  have HC0 := Lib.hid hC0
  have HC1 := Lib.hid hC1
  clear hX hn hP hZ k0 k1 hb0 hz hp h0 hf0 hpt hI hC0 hC1
  go_enter Try.func50, Try.ntmps50
  go_wp2_with fail
  rw [HZ.out]
  refine HR.out.mono ?_
  rintro e w1 ⟨rfl, hb1⟩
  have HB1 := Lib.hid (HB0.out.trans (hb1.mono HB0.out.size))
  have g0 : w.heap.size < Z.heap.size := Nat.lt_of_succ_lt HG.out
  have K0b := Lib.hid (range_keep K0.out g0 hb1)
  have K1b := Lib.hid (range_keep K1.out HG.out hb1)
  have z1 := hb1.size
  clear hb1
  go_wp2_with ((with_reducible show wpList _ _ _ _ _ _); refine wpList_storeNew_10 rfl _ _ rfl (by rfl) p (by rfl) ?_; intro w2 hp2 hb2 hz2; clear hz2; have HB2 := Lib.hid (HB1.out.trans (hb2.mono HB1.out.size)); have HP2 := Lib.hid hp2; have K0c := Lib.hid (range_keep K0b.out (Nat.lt_of_lt_of_le g0 z1) hb2); have K1c := Lib.hid (range_keep K1b.out (Nat.lt_of_lt_of_le HG.out z1) hb2); have z2 := hb2.size; have HG2 := Lib.hid hp2.lt; clear hp2 hb2)
  have HC4 := Lib.hid (fun W (hW : Below w2.heap.size w2 W) => (HP2.out.below HG2.out hW).cell (i := 4) (v := .int .i64 (T : Int)) (by rw [← HPT.out]; rfl))
  have gg := HG.out
  refine wp_region_held_drew (S := fun W => Below w2.heap.size w2 W) (by kernel_rfl) ((Below.refl _ _).drew) (fun hHeld => ?_)
  refine tkY 0 18 (.agg C0) rfl (by rw [← HC0.out]; exact yields_loadA (by rfl) _ rfl w.heap.size (by rfl) six a ha (fun W hW => range_keep K0c.out (by omega) hW)) hHeld ?_
  simp only [Act.put, sA, sZ, sS]
  refine tkY 1 19 (.agg C1) rfl (by rw [← HC1.out]; exact yields_loadA (by rfl) _ rfl (w.heap.size + 1) (by rfl) six b hb (fun W hW => range_keep K1c.out (by omega) hW)) hHeld ?_
  simp only [Act.put, sA, sZ, sS]
  refine tk 2 20 (.int .i64 6) rfl hHeld ?_
  simp only [Act.put, sA, sZ, sS]
  refine tk 3 21 (.pointer (some ⟨w1.heap.size, 4, none⟩)) rfl hHeld ?_
  simp only [Act.put, sA, sZ, sS]
  refine tkY 4 22 (.int .i64 (T : Int)) rfl (Or.inl ⟨by rfl, fun W hW => by have hc := HC4.out W hW; go_simp⟩) hHeld ?_
  simp only [Act.put, sA, sZ, sS]
  refine tk 6 24 (.slice A len cap) rfl hHeld ?_
  simp only [Act.put, sA, sZ, sS]
  refine tk 7 25 (.pointer (some ⟨w1.heap.size, 4, none⟩)) rfl hHeld ?_
  simp only [Act.put, sA, sZ, sS]
  refine tkY 8 26 (.int .i64 (T : Int)) rfl (Or.inl ⟨by rfl, fun W hW => by have hc := HC4.out W hW; go_simp⟩) hHeld ?_
  simp only [Act.put, sA, sZ, sS]
  refine tkY 9 27 (.slice A T cap) rfl (Or.inl ⟨by rfl, fun W _ => by have hs := HCUT.out W; go_simp⟩) hHeld ?_
  simp only [Act.put, sA, sZ, sS]
  refine wpAnyH_ready (rs := [5]) (by kernel_rfl) (by simp) (AllReadyH.cons (o := ⟨some 23, _, _, _, _, _⟩) rfl (fun K hK => ?_) AllReadyH.nil)
  go_simp
  refine (HPS.out _).mono ?_
  rintro e w5 ⟨v5, rfl, ho5, hb5⟩
  have HB5 := Lib.hid (hHeld.trans (hb5.mono hHeld.size))
  have HO5 := Lib.hid (ho5.base_le hHeld.size)
  refine hK.out _ _ (HB5.out) (fun hHeld => ?_)
  clear hK K ho5 hb5
  refine wpAnyH_ready (rs := [10]) (by kernel_rfl) (by simp) (AllReadyH.cons (o := ⟨some 28, _, _, _, _, _⟩) rfl (fun K hK => ?_) AllReadyH.nil)
  refine step_append8 rfl (.tmp 23) (.tmp 27) rfl w2.heap.size v5 X (by rfl) HO5.out _ A T cap _ (by rfl) ((HT.out _ (HB2.out.trans (HB5.out.mono HB2.out.size))).more (Nat.le_trans HB2.out.size HB5.out.size)) (by rw [HN.out]; omega) HB5.out.size ?_
  intro v6 w6 ho6 hg6
  have HB6 := Lib.hid (HB5.out.grown hg6 HB5.out.size HO5.out.lt)
  have HO6 := Lib.hid ho6
  refine hK.out _ _ (HB6.out) (fun hHeld => ?_)
  clear hK K ho6 hg6
  obtain ⟨A6, m6, c6, rfl, hm6, hnc6, hcm6, hrd6⟩ := HO6.out.sl
  refine tk 11 11 (.slice A6 m6 c6) rfl hHeld ?_
  simp only [Act.put, sA, sZ, sS]
  refine wpAnyH_done (by kernel_rfl) ?_ _
  have hml : m6 ≤ 100000 := by rw [hm6, List.length_append, HN.out, List.length_take]; omega
  have HS := Lib.hid (rsum_any A6 m6 c6 _ hml w6 hrd6 (Nat.le_refl _))
  rw [HCK.out] at HS
  clear hm6 hrd6 hml
  go_wp2_with fail
  refine HS.out.mono ?_
  rintro e w7 ⟨rfl, hb7⟩
  have HB7 := Lib.hid (HB2.out.trans ((HB6.out.trans (hb7.mono HB6.out.size)).mono HB2.out.size))
  clear hb7
  go_wp2_with fail
  go_ret
  exact ⟨rfl, HB7.out⟩
set_option maxRecDepth 100000 in
set_option maxHeartbeats 4000000 in
theorem rsumS_U (six : Bool) (a b : List UInt8) (ha : a.length = 16) (hb : b.length = 16) {A : Option Addr} {len cap : Nat} {xs : List UInt8} (hlen : len ≤ 65535) (hcap : len ≤ cap) (w : World) (hI : Rd w w.heap.size A len xs) (h0 : faultB true xs = 0) :
    Calls Try.prog 50 #[.agg (addrC six a), .agg (addrC six b), .int .i64 17, .slice A len cap] w fun e w' => e = .returned (.int .i64 (ckS six a b true xs : Nat)) ∧ Below w.heap.size w w' := by
  have HL := Lib.hid hI.len
  obtain ⟨t1, t2, t3⟩ := tot_ok h0
  rw [hI.len] at t3
  obtain ⟨k0, k1, hb0, hz⟩ := boxes w six a b
  obtain ⟨Z, hZ⟩ : ∃ Z : World, (w.alloc (.cells (addrC six a) 25)).alloc (.cells (addrC six b) 25) = Z := ⟨_, rfl⟩
  rw [hZ] at k0 k1 hb0 hz
  have HR := Lib.hid (rread_any_10 (A := A) (cap := cap) (xs := xs) 17 Z ((hI.below hb0).more hb0.size))
  have hf0 : faultP 17 xs = 0 := h0
  have hpt : (rdP 17 xs).t = totN_10 true xs := rdP_tot (u := true) h0
  rw [hf0] at HR
  have hP := pseudo_even six a b ha hb (prN true) (totN_10 true xs)
  have HT := Lib.hid (fun W (hB : Below w.heap.size w W) => (hI.below hB).take t3)
  have hck : ckOf (pseudoOf six a b (prN true) (totN_10 true xs) ++ xs.take (totN_10 true xs)) = ckS six a b true xs := rfl
  have HCK := Lib.hid hck
  clear hck
  generalize ckS six a b true xs = c at *
  obtain ⟨p, hp⟩ : ∃ p, rdP 17 xs = p := ⟨_, rfl⟩
  rw [hp] at HR hpt
  have HPT := Lib.hid hpt
  generalize totN_10 true xs = T at *
  have HPS := Lib.hid (fun W => rpseudo_any six a b ha hb (prN true) T (prN_lt _) (by omega) _ rfl W)
  rw [show ((prN true : Nat) : Int) = 17 from rfl] at HPS
  obtain ⟨X, hX⟩ : ∃ X, pseudoOf six a b (prN true) T = X := ⟨_, rfl⟩
  rw [hX] at hP HPS HCK
  obtain ⟨n, hn⟩ : ∃ n, X.length = n := ⟨_, rfl⟩
  rw [hn] at hP
  have HN := Lib.hid hn
  have hn0 : 0 < n := hP.2.1
  have hn40 : n ≤ 40 := hP.2.2
  have HCUT := Lib.hid (fun W => run_upto8 A len cap T (T : Int) rfl (by omega) W)
  have HZ := Lib.hid hZ
  have K0 := Lib.hid k0
  have K1 := Lib.hid k1
  have HB0 := Lib.hid hb0
  have HG := Lib.hid hz
  have HI := Lib.hid hI
  rw [← addrC_eq, ← addrC_eq] at HPS
  obtain ⟨C0, hC0⟩ : ∃ C, addrC six a = C := ⟨_, rfl⟩
  obtain ⟨C1, hC1⟩ : ∃ C, addrC six b = C := ⟨_, rfl⟩
  rw [hC0, hC1] at HZ HPS
  rw [hC0, hC1]
  have HC0 := Lib.hid hC0
  have HC1 := Lib.hid hC1
  clear hX hn hP hZ k0 k1 hb0 hz hp h0 hf0 hpt hI hC0 hC1
  go_enter Try.func50, Try.ntmps50
  go_wp2_with fail
  rw [HZ.out]
  refine HR.out.mono ?_
  rintro e w1 ⟨rfl, hb1⟩
  have HB1 := Lib.hid (HB0.out.trans (hb1.mono HB0.out.size))
  have g0 : w.heap.size < Z.heap.size := Nat.lt_of_succ_lt HG.out
  have K0b := Lib.hid (range_keep K0.out g0 hb1)
  have K1b := Lib.hid (range_keep K1.out HG.out hb1)
  have z1 := hb1.size
  clear hb1
  go_wp2_with ((with_reducible show wpList _ _ _ _ _ _); refine wpList_storeNew_10 rfl _ _ rfl (by rfl) p (by rfl) ?_; intro w2 hp2 hb2 hz2; clear hz2; have HB2 := Lib.hid (HB1.out.trans (hb2.mono HB1.out.size)); have HP2 := Lib.hid hp2; have K0c := Lib.hid (range_keep K0b.out (Nat.lt_of_lt_of_le g0 z1) hb2); have K1c := Lib.hid (range_keep K1b.out (Nat.lt_of_lt_of_le HG.out z1) hb2); have z2 := hb2.size; have HG2 := Lib.hid hp2.lt; clear hp2 hb2)
  have HC4 := Lib.hid (fun W (hW : Below w2.heap.size w2 W) => (HP2.out.below HG2.out hW).cell (i := 4) (v := .int .i64 (T : Int)) (by rw [← HPT.out]; rfl))
  have gg := HG.out
  refine wp_region_held_drew (S := fun W => Below w2.heap.size w2 W) (by kernel_rfl) ((Below.refl _ _).drew) (fun hHeld => ?_)
  refine tkY 0 18 (.agg C0) rfl (by rw [← HC0.out]; exact yields_loadA (by rfl) _ rfl w.heap.size (by rfl) six a ha (fun W hW => range_keep K0c.out (by omega) hW)) hHeld ?_
  simp only [Act.put, sA, sZ, sS]
  refine tkY 1 19 (.agg C1) rfl (by rw [← HC1.out]; exact yields_loadA (by rfl) _ rfl (w.heap.size + 1) (by rfl) six b hb (fun W hW => range_keep K1c.out (by omega) hW)) hHeld ?_
  simp only [Act.put, sA, sZ, sS]
  refine tk 2 20 (.int .i64 17) rfl hHeld ?_
  simp only [Act.put, sA, sZ, sS]
  refine tk 3 21 (.pointer (some ⟨w1.heap.size, 4, none⟩)) rfl hHeld ?_
  simp only [Act.put, sA, sZ, sS]
  refine tkY 4 22 (.int .i64 (T : Int)) rfl (Or.inl ⟨by rfl, fun W hW => by have hc := HC4.out W hW; go_simp⟩) hHeld ?_
  simp only [Act.put, sA, sZ, sS]
  refine tk 6 24 (.slice A len cap) rfl hHeld ?_
  simp only [Act.put, sA, sZ, sS]
  refine tk 7 25 (.pointer (some ⟨w1.heap.size, 4, none⟩)) rfl hHeld ?_
  simp only [Act.put, sA, sZ, sS]
  refine tkY 8 26 (.int .i64 (T : Int)) rfl (Or.inl ⟨by rfl, fun W hW => by have hc := HC4.out W hW; go_simp⟩) hHeld ?_
  simp only [Act.put, sA, sZ, sS]
  refine tkY 9 27 (.slice A T cap) rfl (Or.inl ⟨by rfl, fun W _ => by have hs := HCUT.out W; go_simp⟩) hHeld ?_
  simp only [Act.put, sA, sZ, sS]
  refine wpAnyH_ready (rs := [5]) (by kernel_rfl) (by simp) (AllReadyH.cons (o := ⟨some 23, _, _, _, _, _⟩) rfl (fun K hK => ?_) AllReadyH.nil)
  go_simp
  refine (HPS.out _).mono ?_
  rintro e w5 ⟨v5, rfl, ho5, hb5⟩
  have HB5 := Lib.hid (hHeld.trans (hb5.mono hHeld.size))
  have HO5 := Lib.hid (ho5.base_le hHeld.size)
  refine hK.out _ _ (HB5.out) (fun hHeld => ?_)
  clear hK K ho5 hb5
  refine wpAnyH_ready (rs := [10]) (by kernel_rfl) (by simp) (AllReadyH.cons (o := ⟨some 28, _, _, _, _, _⟩) rfl (fun K hK => ?_) AllReadyH.nil)
  refine step_append8 rfl (.tmp 23) (.tmp 27) rfl w2.heap.size v5 X (by rfl) HO5.out _ A T cap _ (by rfl) ((HT.out _ (HB2.out.trans (HB5.out.mono HB2.out.size))).more (Nat.le_trans HB2.out.size HB5.out.size)) (by rw [HN.out]; omega) HB5.out.size ?_
  intro v6 w6 ho6 hg6
  have HB6 := Lib.hid (HB5.out.grown hg6 HB5.out.size HO5.out.lt)
  have HO6 := Lib.hid ho6
  refine hK.out _ _ (HB6.out) (fun hHeld => ?_)
  clear hK K ho6 hg6
  obtain ⟨A6, m6, c6, rfl, hm6, hnc6, hcm6, hrd6⟩ := HO6.out.sl
  refine tk 11 11 (.slice A6 m6 c6) rfl hHeld ?_
  simp only [Act.put, sA, sZ, sS]
  refine wpAnyH_done (by kernel_rfl) ?_ _
  have hml : m6 ≤ 100000 := by rw [hm6, List.length_append, HN.out, List.length_take]; omega
  have HS := Lib.hid (rsum_any A6 m6 c6 _ hml w6 hrd6 (Nat.le_refl _))
  rw [HCK.out] at HS
  clear hm6 hrd6 hml
  go_wp2_with fail
  refine HS.out.mono ?_
  rintro e w7 ⟨rfl, hb7⟩
  have HB7 := Lib.hid (HB2.out.trans ((HB6.out.trans (hb7.mono HB6.out.size)).mono HB2.out.size))
  clear hb7
  go_wp2_with fail
  go_ret
  exact ⟨rfl, HB7.out⟩
end
section
open Go.RowKit Go.Lib
theorem rplace_6 (w : World) : Calls Try.prog 49 #[.int .i64 6] w fun e w' => e = .returned (.int .i64 16) ∧ w = w' := rplace_any 6 w
theorem rplace_17 (w : World) : Calls Try.prog 49 #[.int .i64 17] w fun e w' => e = .returned (.int .i64 6) ∧ w = w' := rplace_any 17 w
set_option maxRecDepth 100000 in
set_option maxHeartbeats 4000000 in
theorem rfill_T (six : Bool) (a b : List UInt8) (ha : a.length = 16) (hb : b.length = 16) {A : Option Addr} {len cap : Nat} {xs : List UInt8} (hlen : len ≤ 65535) (w : World) (hI : Rd w w.heap.size A len xs) (h0 : faultB false xs = 0) :
    Calls Try.prog 35 #[.agg (addrC six a), .agg (addrC six b), .int .i64 6, .slice A len cap] w fun e w' => ∃ v, e = .returned v ∧ Own8 w' w.heap.size v (fillS six a b false xs) ∧ Below w.heap.size w w' := by
  have HL := Lib.hid hI.len
  obtain ⟨t1, t2, t3⟩ := tot_ok h0
  rw [hI.len] at t3
  have hpl : 16 + 2 ≤ len := Nat.le_trans t1 t3
  obtain ⟨c, hc⟩ : ∃ c, ck0 six a b false xs = c := ⟨_, rfl⟩
  have hcl : c ≤ 65535 := by rw [← hc]; exact ckS_le _ _ _ _ _
  have HFI := Lib.hid (show fillS six a b false xs = put2_10 (put2_10 xs 16 0) 16 (numS false c) by rw [put2_put2, ← hc]; rfl)
  have HYL := Lib.hid (show (put2_10 xs 16 0).length = len by rw [put2_len_10]; exact hI.len)
  have HYS := Lib.hid (show (xs.set 16 0).set (16 + 1) 0 = put2_10 xs 16 0 from rfl)
  have HSUM := Lib.hid (fun (A : Option Addr) (cg : Nat) (hcg : len ≤ cg) W (hI : Rd W W.heap.size A len (put2_10 xs 16 0)) => rsumS_T six a b ha hb hlen hcg W hI ((put2_fault false xs 0).1.trans h0))
  rw [show ckS six a b false (put2_10 xs 16 0) = c from hc] at HSUM
  have HNS : numS false c = numS false c := rfl
  obtain ⟨k0, k1, hb0, hz⟩ := boxes w six a b
  obtain ⟨Z, hZ⟩ : ∃ Z : World, (w.alloc (.cells (addrC six a) 25)).alloc (.cells (addrC six b) 25) = Z := ⟨_, rfl⟩
  rw [hZ] at k0 k1 hb0 hz
  have hIZ : Rd (Z.alloc (.cells #[] 5)) Z.heap.size A len xs := ((hI.below hb0).more hb0.size).alloc (Nat.le_refl _) _
  have hsz : Z.heap.size = w.heap.size + 1 + 1 := by rw [← hZ]; simp
  have hE := empty8 (base := Z.heap.size) Z (Nat.le_refl _)
  conv at hE => arg 3; rw [hsz]
  have HE := Lib.hid hE
  clear hsz hE
  have HZ := Lib.hid hZ
  have K0 := Lib.hid k0
  have K1 := Lib.hid k1
  have HB0 := Lib.hid hb0
  have HG := Lib.hid hz
  have gg := HG.out
  have HIZ := Lib.hid hIZ
  obtain ⟨C0, hC0⟩ : ∃ C, addrC six a = C := ⟨_, rfl⟩
  obtain ⟨C1, hC1⟩ : ∃ C, addrC six b = C := ⟨_, rfl⟩
  rw [hC0, hC1] at HZ HSUM
  rw [hC0, hC1]
  have HC0 := Lib.hid hC0
  have HC1 := Lib.hid hC1
  obtain ⟨ys, hys⟩ : ∃ ys, put2_10 xs 16 0 = ys := ⟨_, rfl⟩
  rw [hys] at HFI HYL HYS HSUM
  obtain ⟨fs, hfs⟩ : ∃ fs, fillS six a b false xs = fs := ⟨_, rfl⟩
  rw [hfs] at HFI ⊢
  have L0 := Lib.hid (show (xs.set 16 0).length = len by rw [List.length_set]; exact HL.out)
  have hq0 : (16 : Int) < (len : Int) := by omega
  have hq1 : (17 : Int) < (len : Int) := by omega
  have hqN0 : 16 < len := by omega
  have hqN1 : 17 < len := by omega
  clear hZ k0 k1 hb0 hz h0 hI hIZ hC0 hC1 hys hfs hc HNS t1 t2 t3
  go_enter Try.func35, Try.ntmps35
  go_wp2_with (at_builtin; rw [HZ.out]; refine wpList_append8 (o := ⟨some 14, _, _, _, _, _⟩) rfl _ _ rfl Z.heap.size _ [] (by rfl) HE.out _ A len cap xs (by rfl) HIZ.out (by simp; omega) (by simp) ?_; intro v1 w1 ho1 hg1 _; rw [List.nil_append] at ho1; obtain ⟨g, cg, rfl, hnc, hcm, hgb, hgl, _⟩ := ho1.formG HL.out (by omega); have HO1 := Lib.hid ho1; have hbb := ((Below.refl _ Z).alloc (Nat.le_refl _) (.cells #[] 5)).grown hg1 (by simp) HE.out.lt; have HBZ := Lib.hid hbb; clear ho1 hg1 hbb)
  refine (rplace_6 _).mono ?_
  rintro e w' ⟨rfl, rfl⟩
  go_wp2_with (first
    | ((with_reducible show wpList _ _ _ _ _ _); refine wpList_storeO rfl (.tmp 19) _ rfl g 16 (by rfl) (0 : UInt8) 0 (by rfl) (by rfl) xs len cg Z.heap.size HL.out HO1.out hqN0 ?_; intro w2 ho2 hb2; have HO2 := Lib.hid ho2; have HBZ2 := Lib.hid (HBZ.out.trans (hb2.mono hgb)); clear ho2 hb2)
    | ((with_reducible show wpList _ _ _ _ _ _); refine wpList_storeO rfl (.tmp 23) _ rfl g 17 (by rfl) (0 : UInt8) 0 (by rfl) (by rfl) (xs.set 16 0) len cg Z.heap.size L0.out HO2.out hqN1 ?_; intro w3 ho3 hb3; rw [HYS.out] at ho3; have HO3 := Lib.hid ho3; have HBZ3 := Lib.hid (HBZ2.out.trans (hb3.mono hgb)); have K0c := Lib.hid (range_keep K0.out (Nat.lt_of_succ_lt HG.out) HBZ3.out); have K1c := Lib.hid (range_keep K1.out HG.out HBZ3.out); clear ho3 hb3)
    | ((with_reducible show wpList _ _ _ _ _ _); refine wpList_loadC (op := ⟨some 24, _, _, _, _, _⟩) _ rfl (by rfl) w.heap.size (by rfl) six a ha K0c.out C0 HC0.out ?_)
    | ((with_reducible show wpList _ _ _ _ _ _); refine wpList_loadC (op := ⟨some 25, _, _, _, _, _⟩) _ rfl (by rfl) (w.heap.size + 1) (by rfl) six b hb K1c.out C1 HC1.out ?_))
  have hrd3 : Rd w3 w3.heap.size (some ⟨g, 0, none⟩) len ys := by
    obtain ⟨g', c', e, _, _, _, _, h⟩ := HO3.out.formG HYL.out (by omega)
    cases e
    exact h
  refine (HSUM.out _ cg hnc w3 hrd3).mono ?_
  rintro e w4 ⟨rfl, hb4⟩
  have HO4 := Lib.hid (HO3.out.below hb4)
  have HBZ4 := Lib.hid (HBZ3.out.trans (hb4.mono HBZ3.out.size))
  clear hb4 hrd3
  have HNS := Lib.hid (show numS false c = c from if_neg (fun h => by cases h.1))
  by_cases hc0 : c = 0
  · subst hc0
    have HHI := Lib.hid (show (0 : Int) = ((UInt8.ofNat (0 / 256)).toNat : Int) from rfl)
    have HLO := Lib.hid (show (0 : Int) = ((UInt8.ofNat (0 % 256)).toNat : Int) from rfl)
    have LH := Lib.hid (show (ys.set 16 (UInt8.ofNat (0 / 256))).length = len by rw [List.length_set]; exact HYL.out)
    have HV := Lib.hid (show put2_10 ys 16 0 = (ys.set 16 (UInt8.ofNat (0 / 256))).set (16 + 1) (UInt8.ofNat (0 % 256)) from rfl)
    go_wp2_with (first
      | ((with_reducible show wpList _ _ _ _ _ _); refine wpList_storeO rfl (.tmp 40) _ rfl g 16 (by rfl) (UInt8.ofNat (0 / 256)) (0) HHI.out (by rfl) ys len cg Z.heap.size HYL.out HO4.out hqN0 ?_; intro w5 ho5 hb5; have HO5 := Lib.hid ho5; have HBZ5 := Lib.hid (HBZ4.out.trans (hb5.mono hgb)); clear ho5 hb5)
      | ((with_reducible show wpList _ _ _ _ _ _); refine wpList_storeO rfl (.tmp 47) _ rfl g 17 (by rfl) (UInt8.ofNat (0 % 256)) (0) HLO.out (by rfl) (ys.set 16 (UInt8.ofNat (0 / 256))) len cg Z.heap.size LH.out HO5.out hqN1 ?_; intro w6 ho6 hb6; have HO6 := Lib.hid ho6; have HBZ6 := Lib.hid (HBZ5.out.trans (hb6.mono hgb)); clear ho6 hb6))
    go_ret
    exact ⟨_, rfl, by rw [HFI.out, HNS.out, HV.out]; exact HO6.out.base_le HB0.out.size, HB0.out.trans (HBZ6.out.mono HB0.out.size)⟩
  · have hcc := hc0
    have hc1 : ((c : Int) == 0) = false := beq_eq_false_iff_ne.2 (by omega)
    have hc2 : (c == 0) = false := beq_eq_false_iff_ne.2 hc0
    have HHI := Lib.hid (show (c : Int) / 256 = ((UInt8.ofNat (c / 256)).toNat : Int) by rw [u8nat (by omega)]; rfl)
    have HLO := Lib.hid (show (c : Int) % 256 = ((UInt8.ofNat (c % 256)).toNat : Int) by rw [u8nat (by omega)]; rfl)
    have hw1 : IntKind.i64.wrap ((c : Int) / 256) = (c : Int) / 256 := by rw [IntKind.wrap_i64]; omega
    have hw2 : IntKind.u8.wrap ((c : Int) / 256) = (c : Int) / 256 := by rw [IntKind.wrap_u8]; omega
    have hw3 : IntKind.i64.wrap ((c : Int) % 256) = (c : Int) % 256 := by rw [IntKind.wrap_i64]; omega
    have hw4 : IntKind.u8.wrap ((c : Int) % 256) = (c : Int) % 256 := by rw [IntKind.wrap_u8]; omega
    have ht1 : Int.tdiv (c : Int) 256 = (c : Int) / 256 := Int.tdiv_eq_ediv_of_nonneg (by omega)
    have ht2 : Int.tmod (c : Int) 256 = (c : Int) % 256 := Int.tmod_eq_emod_of_nonneg (by omega)
    have LH := Lib.hid (show (ys.set 16 (UInt8.ofNat (c / 256))).length = len by rw [List.length_set]; exact HYL.out)
    have HV := Lib.hid (show put2_10 ys 16 c = (ys.set 16 (UInt8.ofNat (c / 256))).set (16 + 1) (UInt8.ofNat (c % 256)) from rfl)
    go_wp2_with (first
      | ((with_reducible show wpList _ _ _ _ _ _); refine wpList_storeO rfl (.tmp 40) _ rfl g 16 (by rfl) (UInt8.ofNat (c / 256)) ((c : Int) / 256) HHI.out (by rfl) ys len cg Z.heap.size HYL.out HO4.out hqN0 ?_; intro w5 ho5 hb5; have HO5 := Lib.hid ho5; have HBZ5 := Lib.hid (HBZ4.out.trans (hb5.mono hgb)); clear ho5 hb5)
      | ((with_reducible show wpList _ _ _ _ _ _); refine wpList_storeO rfl (.tmp 47) _ rfl g 17 (by rfl) (UInt8.ofNat (c % 256)) ((c : Int) % 256) HLO.out (by rfl) (ys.set 16 (UInt8.ofNat (c / 256))) len cg Z.heap.size LH.out HO5.out hqN1 ?_; intro w6 ho6 hb6; have HO6 := Lib.hid ho6; have HBZ6 := Lib.hid (HBZ5.out.trans (hb6.mono hgb)); clear ho6 hb6))
    go_ret
    exact ⟨_, rfl, by rw [HFI.out, HNS.out, HV.out]; exact HO6.out.base_le HB0.out.size, HB0.out.trans (HBZ6.out.mono HB0.out.size)⟩
set_option maxRecDepth 100000 in
set_option maxHeartbeats 4000000 in
theorem rfill_U (six : Bool) (a b : List UInt8) (ha : a.length = 16) (hb : b.length = 16) {A : Option Addr} {len cap : Nat} {xs : List UInt8} (hlen : len ≤ 65535) (w : World) (hI : Rd w w.heap.size A len xs) (h0 : faultB true xs = 0) :
    Calls Try.prog 35 #[.agg (addrC six a), .agg (addrC six b), .int .i64 17, .slice A len cap] w fun e w' => ∃ v, e = .returned v ∧ Own8 w' w.heap.size v (fillS six a b true xs) ∧ Below w.heap.size w w' := by
  have HL := Lib.hid hI.len
  obtain ⟨t1, t2, t3⟩ := tot_ok h0
  rw [hI.len] at t3
  have hpl : 6 + 2 ≤ len := Nat.le_trans t1 t3
  obtain ⟨c, hc⟩ : ∃ c, ck0 six a b true xs = c := ⟨_, rfl⟩
  have hcl : c ≤ 65535 := by rw [← hc]; exact ckS_le _ _ _ _ _
  have HFI := Lib.hid (show fillS six a b true xs = put2_10 (put2_10 xs 6 0) 6 (numS true c) by rw [put2_put2, ← hc]; rfl)
  have HYL := Lib.hid (show (put2_10 xs 6 0).length = len by rw [put2_len_10]; exact hI.len)
  have HYS := Lib.hid (show (xs.set 6 0).set (6 + 1) 0 = put2_10 xs 6 0 from rfl)
  have HSUM := Lib.hid (fun (A : Option Addr) (cg : Nat) (hcg : len ≤ cg) W (hI : Rd W W.heap.size A len (put2_10 xs 6 0)) => rsumS_U six a b ha hb hlen hcg W hI ((put2_fault true xs 0).1.trans h0))
  rw [show ckS six a b true (put2_10 xs 6 0) = c from hc] at HSUM
  have HNS : numS true c = numS true c := rfl
  obtain ⟨k0, k1, hb0, hz⟩ := boxes w six a b
  obtain ⟨Z, hZ⟩ : ∃ Z : World, (w.alloc (.cells (addrC six a) 25)).alloc (.cells (addrC six b) 25) = Z := ⟨_, rfl⟩
  rw [hZ] at k0 k1 hb0 hz
  have hIZ : Rd (Z.alloc (.cells #[] 5)) Z.heap.size A len xs := ((hI.below hb0).more hb0.size).alloc (Nat.le_refl _) _
  have hsz : Z.heap.size = w.heap.size + 1 + 1 := by rw [← hZ]; simp
  have hE := empty8 (base := Z.heap.size) Z (Nat.le_refl _)
  conv at hE => arg 3; rw [hsz]
  have HE := Lib.hid hE
  clear hsz hE
  have HZ := Lib.hid hZ
  have K0 := Lib.hid k0
  have K1 := Lib.hid k1
  have HB0 := Lib.hid hb0
  have HG := Lib.hid hz
  have gg := HG.out
  have HIZ := Lib.hid hIZ
  obtain ⟨C0, hC0⟩ : ∃ C, addrC six a = C := ⟨_, rfl⟩
  obtain ⟨C1, hC1⟩ : ∃ C, addrC six b = C := ⟨_, rfl⟩
  rw [hC0, hC1] at HZ HSUM
  rw [hC0, hC1]
  have HC0 := Lib.hid hC0
  have HC1 := Lib.hid hC1
  obtain ⟨ys, hys⟩ : ∃ ys, put2_10 xs 6 0 = ys := ⟨_, rfl⟩
  rw [hys] at HFI HYL HYS HSUM
  obtain ⟨fs, hfs⟩ : ∃ fs, fillS six a b true xs = fs := ⟨_, rfl⟩
  rw [hfs] at HFI ⊢
  have L0 := Lib.hid (show (xs.set 6 0).length = len by rw [List.length_set]; exact HL.out)
  have hq0 : (6 : Int) < (len : Int) := by omega
  have hq1 : (7 : Int) < (len : Int) := by omega
  have hqN0 : 6 < len := by omega
  have hqN1 : 7 < len := by omega
  clear hZ k0 k1 hb0 hz h0 hI hIZ hC0 hC1 hys hfs hc HNS t1 t2 t3
  go_enter Try.func35, Try.ntmps35
  go_wp2_with (at_builtin; rw [HZ.out]; refine wpList_append8 (o := ⟨some 14, _, _, _, _, _⟩) rfl _ _ rfl Z.heap.size _ [] (by rfl) HE.out _ A len cap xs (by rfl) HIZ.out (by simp; omega) (by simp) ?_; intro v1 w1 ho1 hg1 _; rw [List.nil_append] at ho1; obtain ⟨g, cg, rfl, hnc, hcm, hgb, hgl, _⟩ := ho1.formG HL.out (by omega); have HO1 := Lib.hid ho1; have hbb := ((Below.refl _ Z).alloc (Nat.le_refl _) (.cells #[] 5)).grown hg1 (by simp) HE.out.lt; have HBZ := Lib.hid hbb; clear ho1 hg1 hbb)
  refine (rplace_17 _).mono ?_
  rintro e w' ⟨rfl, rfl⟩
  go_wp2_with (first
    | ((with_reducible show wpList _ _ _ _ _ _); refine wpList_storeO rfl (.tmp 19) _ rfl g 6 (by rfl) (0 : UInt8) 0 (by rfl) (by rfl) xs len cg Z.heap.size HL.out HO1.out hqN0 ?_; intro w2 ho2 hb2; have HO2 := Lib.hid ho2; have HBZ2 := Lib.hid (HBZ.out.trans (hb2.mono hgb)); clear ho2 hb2)
    | ((with_reducible show wpList _ _ _ _ _ _); refine wpList_storeO rfl (.tmp 23) _ rfl g 7 (by rfl) (0 : UInt8) 0 (by rfl) (by rfl) (xs.set 6 0) len cg Z.heap.size L0.out HO2.out hqN1 ?_; intro w3 ho3 hb3; rw [HYS.out] at ho3; have HO3 := Lib.hid ho3; have HBZ3 := Lib.hid (HBZ2.out.trans (hb3.mono hgb)); have K0c := Lib.hid (range_keep K0.out (Nat.lt_of_succ_lt HG.out) HBZ3.out); have K1c := Lib.hid (range_keep K1.out HG.out HBZ3.out); clear ho3 hb3)
    | ((with_reducible show wpList _ _ _ _ _ _); refine wpList_loadC (op := ⟨some 24, _, _, _, _, _⟩) _ rfl (by rfl) w.heap.size (by rfl) six a ha K0c.out C0 HC0.out ?_)
    | ((with_reducible show wpList _ _ _ _ _ _); refine wpList_loadC (op := ⟨some 25, _, _, _, _, _⟩) _ rfl (by rfl) (w.heap.size + 1) (by rfl) six b hb K1c.out C1 HC1.out ?_))
  have hrd3 : Rd w3 w3.heap.size (some ⟨g, 0, none⟩) len ys := by
    obtain ⟨g', c', e, _, _, _, _, h⟩ := HO3.out.formG HYL.out (by omega)
    cases e
    exact h
  refine (HSUM.out _ cg hnc w3 hrd3).mono ?_
  rintro e w4 ⟨rfl, hb4⟩
  have HO4 := Lib.hid (HO3.out.below hb4)
  have HBZ4 := Lib.hid (HBZ3.out.trans (hb4.mono HBZ3.out.size))
  clear hb4 hrd3
  by_cases hc0 : c = 0
  · have HNS := Lib.hid (show numS true c = 65535 from if_pos ⟨rfl, hc0⟩)
    subst hc0
    have HHI := Lib.hid (show (255 : Int) = ((UInt8.ofNat (65535 / 256)).toNat : Int) from rfl)
    have HLO := Lib.hid (show (255 : Int) = ((UInt8.ofNat (65535 % 256)).toNat : Int) from rfl)
    have LH := Lib.hid (show (ys.set 6 (UInt8.ofNat (65535 / 256))).length = len by rw [List.length_set]; exact HYL.out)
    have HV := Lib.hid (show put2_10 ys 6 65535 = (ys.set 6 (UInt8.ofNat (65535 / 256))).set (6 + 1) (UInt8.ofNat (65535 % 256)) from rfl)
    go_wp2_with (first
      | ((with_reducible show wpList _ _ _ _ _ _); refine wpList_storeO rfl (.tmp 40) _ rfl g 6 (by rfl) (UInt8.ofNat (65535 / 256)) (255) HHI.out (by rfl) ys len cg Z.heap.size HYL.out HO4.out hqN0 ?_; intro w5 ho5 hb5; have HO5 := Lib.hid ho5; have HBZ5 := Lib.hid (HBZ4.out.trans (hb5.mono hgb)); clear ho5 hb5)
      | ((with_reducible show wpList _ _ _ _ _ _); refine wpList_storeO rfl (.tmp 47) _ rfl g 7 (by rfl) (UInt8.ofNat (65535 % 256)) (255) HLO.out (by rfl) (ys.set 6 (UInt8.ofNat (65535 / 256))) len cg Z.heap.size LH.out HO5.out hqN1 ?_; intro w6 ho6 hb6; have HO6 := Lib.hid ho6; have HBZ6 := Lib.hid (HBZ5.out.trans (hb6.mono hgb)); clear ho6 hb6))
    go_ret
    exact ⟨_, rfl, by rw [HFI.out, HNS.out, HV.out]; exact HO6.out.base_le HB0.out.size, HB0.out.trans (HBZ6.out.mono HB0.out.size)⟩
  · have HNS := Lib.hid (show numS true c = c from if_neg (fun h => hc0 h.2))
    have hc1 : ((c : Int) == 0) = false := beq_eq_false_iff_ne.2 (by omega)
    have hc2 : (c == 0) = false := beq_eq_false_iff_ne.2 hc0
    have HHI := Lib.hid (show (c : Int) / 256 = ((UInt8.ofNat (c / 256)).toNat : Int) by rw [u8nat (by omega)]; rfl)
    have HLO := Lib.hid (show (c : Int) % 256 = ((UInt8.ofNat (c % 256)).toNat : Int) by rw [u8nat (by omega)]; rfl)
    have hw1 : IntKind.i64.wrap ((c : Int) / 256) = (c : Int) / 256 := by rw [IntKind.wrap_i64]; omega
    have hw2 : IntKind.u8.wrap ((c : Int) / 256) = (c : Int) / 256 := by rw [IntKind.wrap_u8]; omega
    have hw3 : IntKind.i64.wrap ((c : Int) % 256) = (c : Int) % 256 := by rw [IntKind.wrap_i64]; omega
    have hw4 : IntKind.u8.wrap ((c : Int) % 256) = (c : Int) % 256 := by rw [IntKind.wrap_u8]; omega
    have ht1 : Int.tdiv (c : Int) 256 = (c : Int) / 256 := Int.tdiv_eq_ediv_of_nonneg (by omega)
    have ht2 : Int.tmod (c : Int) 256 = (c : Int) % 256 := Int.tmod_eq_emod_of_nonneg (by omega)
    have LH := Lib.hid (show (ys.set 6 (UInt8.ofNat (c / 256))).length = len by rw [List.length_set]; exact HYL.out)
    have HV := Lib.hid (show put2_10 ys 6 c = (ys.set 6 (UInt8.ofNat (c / 256))).set (6 + 1) (UInt8.ofNat (c % 256)) from rfl)
    go_wp2_with (first
      | ((with_reducible show wpList _ _ _ _ _ _); refine wpList_storeO rfl (.tmp 40) _ rfl g 6 (by rfl) (UInt8.ofNat (c / 256)) ((c : Int) / 256) HHI.out (by rfl) ys len cg Z.heap.size HYL.out HO4.out hqN0 ?_; intro w5 ho5 hb5; have HO5 := Lib.hid ho5; have HBZ5 := Lib.hid (HBZ4.out.trans (hb5.mono hgb)); clear ho5 hb5)
      | ((with_reducible show wpList _ _ _ _ _ _); refine wpList_storeO rfl (.tmp 47) _ rfl g 7 (by rfl) (UInt8.ofNat (c % 256)) ((c : Int) % 256) HLO.out (by rfl) (ys.set 6 (UInt8.ofNat (c / 256))) len cg Z.heap.size LH.out HO5.out hqN1 ?_; intro w6 ho6 hb6; have HO6 := Lib.hid ho6; have HBZ6 := Lib.hid (HBZ5.out.trans (hb6.mono hgb)); clear ho6 hb6))
    go_ret
    exact ⟨_, rfl, by rw [HFI.out, HNS.out, HV.out]; exact HO6.out.base_le HB0.out.size, HB0.out.trans (HBZ6.out.mono HB0.out.size)⟩
/-- The document's Fill. -/
theorem rfill_any (six : Bool) (a b : List UInt8) (ha : a.length = 16) (hb : b.length = 16) {A : Option Addr} {len cap : Nat} {xs : List UInt8} (hlen : len ≤ 65535) (w : World) (hI : Rd w w.heap.size A len xs) (u : Bool) (h0 : faultB u xs = 0) :
    Calls Try.prog 35 #[.agg (addrC six a), .agg (addrC six b), .int .i64 (prN u : Nat), .slice A len cap] w fun e w' => ∃ v, e = .returned v ∧ Own8 w' w.heap.size v (fillS six a b u xs) ∧ Below w.heap.size w w' := by
  cases u
  · exact rfill_T six a b ha hb hlen w hI h0
  · exact rfill_U six a b ha hb hlen w hI h0
end
end Go.Proofs.Ytomkfcpellcncaa
