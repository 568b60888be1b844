/-
  The document's Pick and Same of tables.
-/
import Derived.Test.YtmngagcekhlppaaVMay
namespace Go.Proofs.Ytmngagcekhlppaa
set_option maxRecDepth 100000
open Go.RowKit Go.Lib

def tblV (nv sv : Value) : Value := .agg #[nv, sv]
/-- What a table picks for a hash. -/
def pickS (nm : List (List UInt8)) (xs : List Int) (h : Nat) : List UInt8 :=
  match xs[h % xs.length]? with
  | some x => (nm[x.toNat]?).getD []
  | none => []
theorem pickS_eq {nm : List (List UInt8)} {xs : List Int} {h : Nat} {j : Nat} {s : List UInt8} (hx : xs[h % xs.length]? = some (j : Int)) (hs : nm[j]? = some s) : pickS nm xs h = s := by
  unfold pickS
  rw [hx]
  show (nm[((j : Nat) : Int).toNat]?).getD [] = s
  rw [Int.toNat_natCast, hs]
  rfl
set_option maxHeartbeats 4000000 in
theorem rpick_any {B B' n m : Nat} {A A' : Option Addr} (c c' : Nat) {nm : List (List UInt8)} {xs : List Int} (hm : m ≤ 100000) (w : World) (hB : B ≤ w.heap.size) (hB' : B' ≤ w.heap.size) (h : RdG eN w B A n nm) (h' : RdG eZ w B' A' m xs) (hr : ∀ x, x ∈ xs → 0 ≤ x ∧ x < n) (v : Nat) (hv : v < 18446744073709551616) :
    Calls Try.prog 18 #[tblV (.slice A n c) (.slice A' m c'), .int .u64 (v : Int)] w fun e w' => e = .returned (.tuple #[strV (pickS nm xs v), .bool (decide (0 < m))]) ∧ Below w.heap.size w w' := by
  have HR := Lib.hid h
  have HR2 := Lib.hid h'
  unfold tblV
  rcases Nat.eq_zero_or_pos m with rfl | h0
  · obtain rfl : xs = [] := List.eq_nil_of_length_eq_zero HR2.out.len
    clear h h' hr
    go_enter Try.func18, Try.ntmps18
    go_wp2_with fail
    go_ret2
    exact ⟨rfl, (Below.refl w.heap.size w).alloc (Nat.le_refl _) _⟩
  · obtain ⟨i, hi⟩ : ∃ i, v % m = i := ⟨_, rfl⟩
    have him : i < m := by rw [← hi]; exact Nat.mod_lt _ h0
    have hvi : (v : Int) % (m : Int) = (i : Int) := by omega
    obtain ⟨x, hx⟩ : ∃ x, xs[i]? = some x := ⟨_, List.getElem?_eq_getElem (by rw [h'.len]; exact him)⟩
    have hxr := hr x (List.mem_of_getElem? hx)
    obtain ⟨j, rfl⟩ := Int.eq_ofNat_of_zero_le hxr.1
    have hj : j < n := by omega
    obtain ⟨s, hs⟩ : ∃ s, nm[j]? = some s := ⟨_, List.getElem?_eq_getElem (by rw [h.len]; exact hj)⟩
    have hp : pickS nm xs v = s := pickS_eq (by rw [h'.len, hi]; exact hx) hs
    rw [hp, decide_eq_true h0]
    obtain ⟨b, off, rfl, _⟩ := h.addr (by omega)
    obtain ⟨b', off', rfl, _⟩ := h'.addr (by omega)
    have Y0 := Lib.hid (fun o : Obj => (h.alloc hB o).cell1 hs (u := strV s) rfl)
    have Y1 := Lib.hid (fun o : Obj => (h'.alloc hB' o).cell1 hx (u := .int .i64 (j : Int)) rfl)
    have k1 : ((m : Int) == 0) = false := by simp; omega
    have k2 : (i : Int) < (m : Int) := by omega
    have k3 : (j : Int) < (n : Int) := by omega
    have k4 : (0 : Int) ≤ (i : Int) := by omega
    have k5 : (0 : Int) ≤ (j : Int) := by omega
    clear h h' hr hp hx hs hi hxr h0 HR HR2 him hj hB hB'
    go_enter Try.func18, Try.ntmps18
    go_wp2_with fail
    have q0 := Y0.out (.cells #[.slice (some ⟨b, off, none⟩) n c, .slice (some ⟨b', off', none⟩) m c'] 30)
    have q1 := Y1.out (.cells #[.slice (some ⟨b, off, none⟩) n c, .slice (some ⟨b', off', none⟩) m c'] 30)
    have b1 := Lib.hid ((Below.refl w.heap.size w).alloc (Nat.le_refl _) (.cells #[.slice (some ⟨b, off, none⟩) n c, .slice (some ⟨b', off', none⟩) m c'] 30))
    have g0 := (Blk_10.new w 30 [.slice (some ⟨b, off, none⟩) n c, .slice (some ⟨b', off', none⟩) m c']).cell (i := 0) rfl
    have g1 := (Blk_10.new w 30 [.slice (some ⟨b, off, none⟩) n c, .slice (some ⟨b', off', none⟩) m c']).cell (i := 1) rfl
    generalize w.alloc (.cells #[.slice (some ⟨b, off, none⟩) n c, .slice (some ⟨b', off', none⟩) m c'] 30) = Y at q0 q1 b1 g0 g1 ⊢
    clear Y0 Y1
    go_quiet (fail)
    go_wp2_with fail
    go_ret2
    exact ⟨rfl, ⟨b1.out.os, b1.out.tape, b1.out.output, b1.out.size, b1.out.block⟩⟩
set_option maxHeartbeats 4000000 in
theorem rtsame_any {B B' C C' n m : Nat} {A A' D D' : Option Addr} (c c' d d' : Nat) {nm : List (List UInt8)} {xs : List Int} (hn : n ≤ 100000) (hm : m ≤ 100000) (w : World) (hB : B ≤ w.heap.size) (hB' : B' ≤ w.heap.size) (hC : C ≤ w.heap.size) (hC' : C' ≤ w.heap.size) (h : RdG eN w B A n nm) (h' : RdG eN w B' A' n nm) (k : RdG eZ w C D m xs) (k' : RdG eZ w C' D' m xs) :
    Calls Try.prog 15 #[tblV (.slice A n c) (.slice D m d), tblV (.slice A' n c') (.slice D' m d')] w fun e w' => e = .returned (.bool true) ∧ Below w.heap.size w w' := by
  have HR := Lib.hid h
  have HR2 := Lib.hid h'
  obtain ⟨Y, hY⟩ : ∃ Y, (w.alloc (.cells #[.slice A n c, .slice D m d] 30)).alloc (.cells #[.slice A' n c', .slice D' m d'] 30) = Y := ⟨_, rfl⟩
  have hs1 : (w.alloc (.cells #[.slice A n c, .slice D m d] 30)).heap.size = w.heap.size + 1 := by simp
  have HY := Lib.hid hY
  have HB0 := Lib.hid (show Below w.heap.size w Y by rw [← hY]; exact ((Below.refl w.heap.size w).alloc (Nat.le_refl _) _).alloc (by rw [hs1]; omega) _)
  have HG0 := Lib.hid (show Blk Y 30 w.heap.size [.slice A n c, .slice D m d] by rw [← hY]; exact (Blk_10.new w _ [.slice A n c, .slice D m d]).alloc _)
  have HG1 := Lib.hid (show Blk Y 30 (w.heap.size + 1) [.slice A' n c', .slice D' m d'] by rw [← hY, ← hs1]; exact Blk_10.new _ _ [.slice A' n c', .slice D' m d'])
  have HSZ := Lib.hid (show Y.heap.size = w.heap.size + 2 by rw [← hY]; simp)
  have HK := Lib.hid (show Calls Try.prog 30 #[.slice D m d, .slice D' m d'] Y fun e w' => e = .returned (.bool true) ∧ Below Y.heap.size Y w' from jrsame_any d d' (by omega) Y (by rw [← hY]; exact (k.alloc hC _).alloc (by rw [hs1]; omega) _) (by rw [← hY]; exact (k'.alloc hC' _).alloc (by rw [hs1]; omega) _))
  have hnn : ((n : Int) != (n : Int)) = false := by simp
  clear h h' k k' hY hs1
  unfold tblV
  go_enter Try.func15, Try.ntmps15
  go_upto_region 1 with (fail)
  rw [HY.out]
  have g0 := HG0.out.cell (i := 0) rfl
  have g1 := HG0.out.cell (i := 1) rfl
  have g2 := HG1.out.cell (i := 0) rfl
  have g3 := HG1.out.cell (i := 1) rfl
  go_wp2_with (with_reducible refine HK.out.mono ?_; rintro e w1 ⟨rfl, hb1⟩; have HB1 := Lib.hid hb1; clear hb1)
  have HBW := Lib.hid (HB0.out.trans (HB1.out.mono HB0.out.size))
  have HR3 := Lib.hid (HR.out.below (HBW.out.mono hB))
  have HR4 := Lib.hid (HR2.out.below (HBW.out.mono hB'))
  have HG2 := Lib.hid (HG0.out.below (by rw [HSZ.out]; omega) HB1.out)
  have HG3 := Lib.hid (HG1.out.below (by rw [HSZ.out]; omega) HB1.out)
  clear g0 g1 g2 g3 hnn HG0 HG1 HB1 HB0 HR HR2 HSZ HY HK hB hB' hC hC'
  go_loopw [5] (fun i wr => ∃ k : Nat, k ≤ n ∧ i = .int .i64 (k : Int) ∧ Below w.heap.size w wr ∧ wr.heap = w1.heap)
    (fun i _ => n - (intOf i).toNat)
  case atStart => exact ⟨0, Nat.zero_le _, rfl, HBW.out, rfl⟩
  case round =>
    obtain ⟨k, hk, rfl, hbel, hheap⟩ := hrel
    have ec : ∀ p : Addr, wr.cell? p = w1.cell? p := fun p => by unfold World.cell?; rw [hheap]
    have g0 := (ec _).trans (HG2.out.cell (i := 0) rfl)
    have g1 := (ec _).trans (HG3.out.cell (i := 0) rfl)
    have HBE := Lib.hid hbel
    have HHE := Lib.hid hheap
    clear hbel hheap
    by_cases hlt : k < n
    · have h1 : (k : Int) < (n : Int) := by omega
      have h0 : (0 : Int) ≤ (k : Int) := by omega
      obtain ⟨b, off, rfl, _⟩ := HR3.out.addr (by omega)
      obtain ⟨b', off', rfl, _⟩ := HR4.out.addr (by omega)
      obtain ⟨x, hx⟩ : ∃ x, nm[k]? = some x := ⟨_, List.getElem?_eq_getElem (by rw [HR3.out.len]; exact hlt)⟩
      have c1 := (ec _).trans (HR3.out.cell1 hx (u := .string ⟨x.toArray⟩) rfl)
      have c2 := (ec _).trans (HR4.out.cell1 hx (u := .string ⟨x.toArray⟩) rfl)
      have hxx : (x != x) = false := by simp
      clear ec hx
      go_wp2_with fail
      go_quiet (fail)
      go_wp2_with fail
      go_roundw
      case rel => exact ⟨k + 1, by omega, by go_num, ⟨HBE.out.os, HBE.out.tape, HBE.out.output, HBE.out.size, HBE.out.block⟩, HHE.out⟩
      case measure => simp [intOf]; omega
    · obtain rfl : k = n := by omega
      have h1 : ¬ (k : Int) < (k : Int) := by omega
      clear ec hlt hk
      go_wp2_with fail
      go_ret
      exact ⟨rfl, HBE.out⟩
end Go.Proofs.Ytmngagcekhlppaa
