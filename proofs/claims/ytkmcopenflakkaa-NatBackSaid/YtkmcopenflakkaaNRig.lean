/-
  What the pruned base leaves out: rright_any, addr_six.
-/
import Derived.Lib.AppendZeros
import Derived.Deep.QuietTactic
import Derived.Deep.RegionLaw
import Derived.BigQuiet
import Derived.Lib.VarintBits
import Derived.Laws.CopyOwn
import Derived.Deep.MidRow
import Derived.Laws.ResultCell
import Derived.BigFrame
import Derived.DeepKeys
import Derived.Laws.StructEq
import Derived.Great.BuildSlice
import Derived.Test.YtkmcopenflakkaaNEql
namespace Go.Proofs.Ytkmcopenflakkaa
set_option maxRecDepth 100000
open Go.RowKit Go.Lib Go.Shelf
theorem addr_six {w : World} {g : Nat} {s : Bool} {bs : List UInt8} (h : w.rangeAt g 0 (addrL s bs)) : w.cell? ⟨g, 0, none⟩ = some (.bool s) := h 0 (.bool s) rfl
set_option maxRecDepth 100000 in
set_option maxHeartbeats 2000000 in
theorem rright_T (six : Bool) (a b : List UInt8) (ha : a.length = 16) (hb : b.length = 16) {A : Option Addr} {len cap : Nat} {xs : List UInt8} (hlen : len ≤ 65535) (hcap : len ≤ cap) (w : World) (hI : Rd w w.heap.size A len xs) (h0 : faultB false xs = 0) :
    Calls Try.prog 16 #[.agg (addrC six a), .agg (addrC six b), .int .i64 6, .slice A len cap] w fun e w' => e = .returned (.bool (rightS six a b false xs)) ∧ Below w.heap.size w w' := by
  have hL := hI.len
  have HSUM := Lib.hid (fun W (hB : Below w.heap.size w W) => rsumS_T six a b ha hb hlen hcap W ((hI.below hB).more hB.size) h0)
  have e : rightS six a b false xs = decide (ckS six a b false xs = 0) := by unfold rightS; rw [if_neg (fun h => by cases h.1)]
  rw [e]
  clear e
  have hcl := ckS_le six a b false xs
  generalize ckS six a b false xs = c at *
  obtain ⟨rr, hrr⟩ : ∃ rr, decide (c = 0) = rr := ⟨_, rfl⟩
  rw [hrr]
  have HRR := Lib.hid hrr
  clear hrr
  obtain ⟨k0, k1, hb0, hz⟩ := boxes w six a b
  obtain ⟨Z, hZ⟩ : ∃ Z : World, (w.alloc (.cells (addrC six a) 25)).alloc (.cells (addrC six b) 25) = Z := ⟨_, rfl⟩
  rw [hZ] at k0 k1 hb0 hz
  have HZ := Lib.hid hZ
  have K0 := Lib.hid k0
  have K1 := Lib.hid k1
  have HB0 := Lib.hid hb0
  have HG := Lib.hid hz
  obtain ⟨C0, hC0⟩ : ∃ C, addrC six a = C := ⟨_, rfl⟩
  obtain ⟨C1, hC1⟩ : ∃ C, addrC six b = C := ⟨_, rfl⟩
  rw [hC0, hC1] at HZ HSUM
  rw [hC0, hC1]
  have HC0 := Lib.hid hC0
  have HC1 := Lib.hid hC1
  clear hZ k0 k1 hb0 hz h0 hI hC0 hC1
  go_enter Try.func16, Try.ntmps16
  go_wp2_with (first
    | ((with_reducible show wpList _ _ _ _ _ _); rw [HZ.out]; refine wpList_loadC (op := ⟨some 19, _, _, _, _, _⟩) _ rfl (by rfl) w.heap.size (by rfl) six a ha K0.out C0 HC0.out ?_)
    | ((with_reducible show wpList _ _ _ _ _ _); refine wpList_loadC (op := ⟨some 20, _, _, _, _, _⟩) _ rfl (by rfl) (w.heap.size + 1) (by rfl) six b hb K1.out C1 HC1.out ?_))
  refine (HSUM.out _ HB0.out).mono ?_
  rintro e w7 ⟨rfl, hb7⟩
  have HB7 := Lib.hid (HB0.out.trans (hb7.mono HB0.out.size))
  clear hb7
  by_cases hc0 : c = 0
  · have hrr : rr = true := HRR.out.symm.trans (decide_eq_true hc0)
    subst hc0 hrr
    go_wp2_with fail
    go_ret
    exact ⟨rfl, HB7.out⟩
  · have hrr : rr = false := HRR.out.symm.trans (decide_eq_false hc0)
    subst hrr
    have hr1 : ((c : Int) == 0) = false := beq_eq_false_iff_ne.2 (by omega)
    have hr2 : (c == 0) = false := beq_eq_false_iff_ne.2 hc0
    go_wp2_with fail
    go_ret
    exact ⟨rfl, HB7.out⟩
set_option maxRecDepth 100000 in
set_option maxHeartbeats 2000000 in
theorem rright_U0 (six : Bool) (a b : List UInt8) (ha : a.length = 16) (hb : b.length = 16) {A : Option Addr} {len cap : Nat} {xs : List UInt8} (hlen : len ≤ 65535) (hcap : len ≤ cap) (w : World) (hI : Rd w w.heap.size A len xs) (h0 : faultB true xs = 0) (hz6 : wat xs 6 = 0) :
    Calls Try.prog 16 #[.agg (addrC six a), .agg (addrC six b), .int .i64 17, .slice A len cap] w fun e w' => e = .returned (.bool (rightS six a b true xs)) ∧ Below w.heap.size w w' := by
  have hL := hI.len
  have HSUM := Lib.hid (fun W (hB : Below w.heap.size w W) => rsumS_U six a b ha hb hlen hcap W ((hI.below hB).more hB.size) h0)
  obtain ⟨t1, t2, t3⟩ := tot_ok h0
  have T6 := Lib.hid (fun W (hB : Below w.heap.size w W) => two_b (p := 6) (cap := cap) (by omega) (by omega) 6 rfl (hI.below hB))
  clear t1 t2 t3
  have e : rightS six a b true xs = !six := by unfold rightS; rw [if_pos ⟨rfl, hz6⟩]
  rw [e]
  clear e
  have hcl := ckS_le six a b true xs
  generalize ckS six a b true xs = c at *
  generalize wat xs 6 = q at *
  obtain ⟨k0, k1, hb0, hz⟩ := boxes w six a b
  obtain ⟨Z, hZ⟩ : ∃ Z : World, (w.alloc (.cells (addrC six a) 25)).alloc (.cells (addrC six b) 25) = Z := ⟨_, rfl⟩
  rw [hZ] at k0 k1 hb0 hz
  have HZ := Lib.hid hZ
  have K0 := Lib.hid k0
  have K1 := Lib.hid k1
  have HB0 := Lib.hid hb0
  have HG := Lib.hid hz
  obtain ⟨C0, hC0⟩ : ∃ C, addrC six a = C := ⟨_, rfl⟩
  obtain ⟨C1, hC1⟩ : ∃ C, addrC six b = C := ⟨_, rfl⟩
  rw [hC0, hC1] at HZ HSUM
  rw [hC0, hC1]
  have HC0 := Lib.hid hC0
  have HC1 := Lib.hid hC1
  clear hZ k0 k1 hb0 hz h0 hI hC0 hC1
  subst hz6
  go_enter Try.func16, Try.ntmps16
  go_wp2_with fail
  rw [HZ.out]
  refine (T6.out _ HB0.out).mono ?_
  rintro e w3 ⟨rfl, hb3⟩
  have HB3 := Lib.hid (HB0.out.trans (hb3.mono HB0.out.size))
  have K0d := Lib.hid (range_keep K0.out (Nat.lt_of_succ_lt HG.out) hb3)
  have K1d := Lib.hid (range_keep K1.out HG.out hb3)
  clear hb3
  have d0 := addr_six K0d.out
  cases six
  all_goals
    go_wp2_with fail
    go_ret
    exact ⟨rfl, HB3.out⟩
set_option maxRecDepth 100000 in
set_option maxHeartbeats 2000000 in
theorem rright_U (six : Bool) (a b : List UInt8) (ha : a.length = 16) (hb : b.length = 16) {A : Option Addr} {len cap : Nat} {xs : List UInt8} (hlen : len ≤ 65535) (hcap : len ≤ cap) (w : World) (hI : Rd w w.heap.size A len xs) (h0 : faultB true xs = 0) (hz6 : wat xs 6 ≠ 0) :
    Calls Try.prog 16 #[.agg (addrC six a), .agg (addrC six b), .int .i64 17, .slice A len cap] w fun e w' => e = .returned (.bool (rightS six a b true xs)) ∧ Below w.heap.size w w' := by
  have hL := hI.len
  have HSUM := Lib.hid (fun W (hB : Below w.heap.size w W) => rsumS_U six a b ha hb hlen hcap W ((hI.below hB).more hB.size) h0)
  obtain ⟨t1, t2, t3⟩ := tot_ok h0
  have T6 := Lib.hid (fun W (hB : Below w.heap.size w W) => two_b (p := 6) (cap := cap) (by omega) (by omega) 6 rfl (hI.below hB))
  clear t1 t2 t3
  have e : rightS six a b true xs = decide (ckS six a b true xs = 0) := by unfold rightS; rw [if_neg (fun h => hz6 h.2)]
  rw [e]
  clear e
  have hcl := ckS_le six a b true xs
  generalize ckS six a b true xs = c at *
  obtain ⟨rr, hrr⟩ : ∃ rr, decide (c = 0) = rr := ⟨_, rfl⟩
  rw [hrr]
  have HRR := Lib.hid hrr
  clear hrr
  generalize wat xs 6 = q at *
  obtain ⟨k0, k1, hb0, hz⟩ := boxes w six a b
  obtain ⟨Z, hZ⟩ : ∃ Z : World, (w.alloc (.cells (addrC six a) 25)).alloc (.cells (addrC six b) 25) = Z := ⟨_, rfl⟩
  rw [hZ] at k0 k1 hb0 hz
  have HZ := Lib.hid hZ
  have K0 := Lib.hid k0
  have K1 := Lib.hid k1
  have HB0 := Lib.hid hb0
  have HG := Lib.hid hz
  obtain ⟨C0, hC0⟩ : ∃ C, addrC six a = C := ⟨_, rfl⟩
  obtain ⟨C1, hC1⟩ : ∃ C, addrC six b = C := ⟨_, rfl⟩
  rw [hC0, hC1] at HZ HSUM
  rw [hC0, hC1]
  have HC0 := Lib.hid hC0
  have HC1 := Lib.hid hC1
  clear hZ k0 k1 hb0 hz h0 hI hC0 hC1
  have hq1 : ((q : Int) == 0) = false := beq_eq_false_iff_ne.2 (by omega)
  have hq2 : (q == 0) = false := beq_eq_false_iff_ne.2 hz6
  go_enter Try.func16, Try.ntmps16
  go_wp2_with fail
  rw [HZ.out]
  refine (T6.out _ HB0.out).mono ?_
  rintro e w3 ⟨rfl, hb3⟩
  have HB3 := Lib.hid (HB0.out.trans (hb3.mono HB0.out.size))
  have K0d := Lib.hid (range_keep K0.out (Nat.lt_of_succ_lt HG.out) hb3)
  have K1d := Lib.hid (range_keep K1.out HG.out hb3)
  clear hb3
  go_wp2_with (first
    | ((with_reducible show wpList _ _ _ _ _ _); refine wpList_loadC (op := ⟨some 19, _, _, _, _, _⟩) _ rfl (by rfl) w.heap.size (by rfl) six a ha K0d.out C0 HC0.out ?_)
    | ((with_reducible show wpList _ _ _ _ _ _); refine wpList_loadC (op := ⟨some 20, _, _, _, _, _⟩) _ rfl (by rfl) (w.heap.size + 1) (by rfl) six b hb K1d.out C1 HC1.out ?_))
  refine (HSUM.out _ HB3.out).mono ?_
  rintro e w7 ⟨rfl, hb7⟩
  have HB7 := Lib.hid (HB3.out.trans (hb7.mono HB3.out.size))
  clear hb7
  by_cases hc0 : c = 0
  · have hrr : rr = true := HRR.out.symm.trans (decide_eq_true hc0)
    subst hc0 hrr
    go_wp2_with fail
    go_ret
    exact ⟨rfl, HB7.out⟩
  · have hrr : rr = false := HRR.out.symm.trans (decide_eq_false hc0)
    subst hrr
    have hr1 : ((c : Int) == 0) = false := beq_eq_false_iff_ne.2 (by omega)
    have hr2 : (c == 0) = false := beq_eq_false_iff_ne.2 hc0
    go_wp2_with fail
    go_ret
    exact ⟨rfl, HB7.out⟩
/-- The document's Right. -/
theorem rright_any (six : Bool) (a b : List UInt8) (ha : a.length = 16) (hb : b.length = 16) {A : Option Addr} {len cap : Nat} {xs : List UInt8} (hlen : len ≤ 65535) (hcap : len ≤ cap) (w : World) (hI : Rd w w.heap.size A len xs) (u : Bool) (h0 : faultB u xs = 0) :
    Calls Try.prog 16 #[.agg (addrC six a), .agg (addrC six b), .int .i64 (prN u : Nat), .slice A len cap] w fun e w' => e = .returned (.bool (rightS six a b u xs)) ∧ Below w.heap.size w w' := by
  cases u
  · exact rright_T six a b ha hb hlen hcap w hI h0
  · by_cases hz : wat xs 6 = 0
    · exact rright_U0 six a b ha hb hlen hcap w hI h0 hz
    · exact rright_U six a b ha hb hlen hcap w hI h0 hz
end Go.Proofs.Ytkmcopenflakkaa
