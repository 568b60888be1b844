/-
  The document's All and Same.
-/
import Derived.Test.YtmngagcekhlppaaJROf
import Derived.Test.YtmngagcekhlppaaGSl
import Derived.Deep.RegionHeld3
import Derived.BigQuiet
import Derived.Deep.DeepCutAuto
namespace Go.Proofs.Ytmngagcekhlppaa
set_option maxRecDepth 100000
open Go.RowKit Go.Lib
/-- Whole numbers in a slice. -/
def eZ : Enc Int where
  S := 28
  T := 3
  k := 1
  bytes := 8
  zero := .int .i64 0
  f x := [.int .i64 x]
  len _ := rfl
  one _ v hv := by rw [List.mem_singleton.1 hv]; rfl
  und := Try.underlying28
  info := by kernel_rfl
  pos := by decide
  zlen := rfl
  small := by decide
def allZ (a b p : Nat) : List Int := (allN a b p).map fun x : Nat => (x : Int)
def upZ (a b p k : Nat) : List Int := ((List.range k).map (chN a b p)).map fun x : Nat => (x : Int)
theorem upZ_succ (a b p k : Nat) : upZ a b p (k + 1) = upZ a b p k ++ [(chN a b p k : Int)] := by
  unfold upZ
  rw [List.range_succ, List.map_append, List.map_append]
  rfl
theorem upZ_all (a b p : Nat) : upZ a b p p = allZ a b p := rfl
theorem upZ_len (a b p k : Nat) : (upZ a b p k).length = k := by simp [upZ]
theorem allZ_len (a b p : Nat) : (allZ a b p).length = p := by simp [allZ, allN_len]
theorem allZ_get (a b : Nat) {p i : Nat} (h : i < p) : (allZ a b p)[i]? = some ((chN a b p i : Nat) : Int) := by simp [allZ, allN_get a b h]
set_option maxHeartbeats 4000000 in
theorem jrsame_any {B B' n : Nat} {A A' : Option Addr} (c c' : Nat) {xs : List Int} (hn : n ≤ 1000000) (w : World) (h : RdG eZ w B A n xs) (h' : RdG eZ w B' A' n xs) :
    Calls Try.prog 30 #[.slice A n c, .slice A' n c'] w fun e w' => e = .returned (.bool true) ∧ Below w.heap.size w w' := by
  have HR := Lib.hid h
  have HR2 := Lib.hid h'
  have hnn : ((n : Int) != (n : Int)) = false := by simp
  clear h h'
  go_enter Try.func30, Try.ntmps30
  go_wp2_with fail
  go_loopw [5] (fun i wr => ∃ k : Nat, k ≤ n ∧ i = .int .i64 (k : Int) ∧ Below w.heap.size w wr ∧ wr.heap = w.heap)
    (fun i _ => n - (intOf i).toNat)
  case atStart => exact ⟨0, Nat.zero_le _, rfl, Below.refl _ _, rfl⟩
  case round =>
    obtain ⟨k, hk, rfl, hbel, hheap⟩ := hrel
    by_cases hlt : k < n
    · have h1 : (k : Int) < (n : Int) := by omega
      have h0 : (0 : Int) ≤ (k : Int) := by omega
      obtain ⟨b, off, rfl, _⟩ := HR.out.addr (by omega)
      obtain ⟨b', off', rfl, _⟩ := HR2.out.addr (by omega)
      obtain ⟨x, hx⟩ : ∃ x, xs[k]? = some x := ⟨_, List.getElem?_eq_getElem (by rw [HR.out.len]; exact hlt)⟩
      have ec : ∀ p : Addr, wr.cell? p = w.cell? p := fun p => by unfold World.cell?; rw [hheap]
      have c1 := (ec _).trans (HR.out.cell1 hx (u := .int .i64 x) rfl)
      have c2 := (ec _).trans (HR2.out.cell1 hx (u := .int .i64 x) rfl)
      have hxx : (x != x) = false := by simp
      have HBE := Lib.hid hbel
      have HHE := Lib.hid hheap
      clear ec hx hbel hheap
      go_wp2_with fail
      go_quiet (fail)
      go_wp2_with fail
      go_roundw
      case rel => exact ⟨k + 1, by omega, by go_num, ⟨HBE.out.os, HBE.out.tape, HBE.out.output, HBE.out.size, HBE.out.block⟩, HHE.out⟩
      case measure => simp [intOf]; omega
    · obtain rfl : k = n := by omega
      have h1 : ¬ (k : Int) < (k : Int) := by omega
      have HBE := Lib.hid hbel
      clear hbel hheap hlt hk
      go_wp2_with fail
      go_ret
      exact ⟨rfl, HBE.out⟩
set_option maxHeartbeats 4000000 in
theorem jrall_any (key : List UInt8) (hk : key.length = 16) (s : ByteArray) (hs : s.size ≤ 1000) (p : Nat) (hp : SizeN p) (w : World) :
    Calls Try.prog 31 #[keyC key, .string s, .int .i64 (p : Int)] w fun e W' => ∃ v, e = .returned v ∧ OwnG eZ W' w.heap.size v (allZ (offN key s.data.toList p) (skN key s.data.toList p) p) ∧ Below w.heap.size w W' := by
  have hp2 := hp.two
  have hpm := hp.most
  obtain ⟨C0, hC0⟩ : ∃ C, (key.map v8).toArray = C := ⟨_, rfl⟩
  obtain ⟨Y, hY⟩ : ∃ Y, w.alloc (.cells C0 22) = Y := ⟨_, rfl⟩
  have HK0 := Lib.hid (show Blk Y 22 w.heap.size (key.map v8) by rw [← hY, ← hC0]; exact Blk_10.new w _ _)
  have HB0 := Lib.hid (show Below w.heap.size w Y by rw [← hY]; exact (Below.refl w.heap.size w).alloc (Nat.le_refl _) _)
  have HY := Lib.hid hY
  have HKE : Hid (keyC key = .agg C0) := Lib.hid (by rw [← hC0]; rfl)
  rw [HKE.out]
  have HKL := Lib.hid hk
  have HOF : Hid (∀ W : World, Calls Try.prog 24 #[.agg (key.map v8).toArray, .string s, .int .i64 (p : Int)] W fun e w' => e = .returned (.tuple #[.int .i64 (offN key s.data.toList p : Nat), .int .i64 (skN key s.data.toList p : Nat)]) ∧ Below W.heap.size W w') := Lib.hid (fun W => jrof_any key hk s hs p hp W)
  have ho := offN_lt hp key s.data.toList
  have hsk := skN_lt hp key s.data.toList
  obtain ⟨a, ha⟩ : ∃ a, offN key s.data.toList p = a := ⟨_, rfl⟩
  obtain ⟨b, hb⟩ : ∃ b, skN key s.data.toList p = b := ⟨_, rfl⟩
  rw [ha, hb] at HOF
  rw [ha] at ho
  rw [hb] at hsk
  rw [ha, hb]
  obtain ⟨L, hL⟩ : ∃ L, allZ a b p = L := ⟨_, rfl⟩
  rw [hL]
  have HLL := Lib.hid hL
  have HZ := Lib.hid (chN_zero ho b)
  have HS := Lib.hid (fun i => chN_succ (a := a) hp2 hsk.2 i)
  have HLT := Lib.hid (fun i => chN_lt hp2 a b i)
  have HSK := Lib.hid hsk
  clear hY hC0 hk ha hb hs hL hp
  go_enter Try.func31, Try.ntmps31
  go_upto_region 1 with (fail)
  rw [HY.out]
  go_wp2_with (first
    | ((with_reducible show wpList _ _ _ (⟨some 12, _, _, _, _, _⟩ :: _) _ _); refine wpList_loadM (op := ⟨some 12, _, _, _, _, _⟩) 22 _ rfl (by rfl) w.heap.size 0 (by rfl) (key.map v8) (Blk_10.range HK0.out) _ Try.underlying22 rfl (keyp_size HKL.out) ?_)
    | (with_reducible refine (HOF.out Y).mono ?_; rintro e w1 ⟨rfl, hb1⟩; have HB1 := Lib.hid (HB0.out.trans (hb1.mono HB0.out.size)); clear hb1))
  have HB2 := HB1
  go_loopw [7, 9, 10] (fun t v i wr => ∃ k : Nat, k ≤ p ∧ i = .int .i64 (k : Int) ∧ t = .int .i64 (chN a b p k : Nat) ∧ OwnG eZ wr w.heap.size v (upZ a b p k) ∧ Below w.heap.size w wr)
    (fun _ _ i _ => p - (intOf i).toNat)
  case atStart => exact ⟨0, Nat.zero_le _, rfl, by rw [HZ.out], OwnG.nil_ eZ _ _, HB1.out⟩
  case round =>
    obtain ⟨k, hk, rfl, rfl, hown, hbel⟩ := hrel
    by_cases hlt : k < p
    · have h1 : (k : Int) < (p : Int) := by omega
      have h0 : (0 : Int) ≤ (k : Int) := by omega
      have hsz := hbel.size
      have hc := HLT.out k
      have hn := HS.out k
      have hU := Lib.hid (upZ_succ a b p k)
      have hsk := HSK.out
      obtain ⟨c, hce⟩ : ∃ c, chN a b p k = c := ⟨_, rfl⟩
      rw [hce] at hc hn hU
      rw [hce]
      have HN := Lib.hid hn
      have HO := Lib.hid hown
      have HBE := Lib.hid hbel
      have HSZ := Lib.hid hsz
      have HLN : Hid ((upZ a b p k).length + 1 ≤ 100000000) := Lib.hid (by rw [upZ_len]; omega)
      clear hce hn hown hbel hsz hk
      have arm : True := trivial
      clear arm
      by_cases hw : c + b < p
      · have hw2 : ¬ (p : Int) ≤ (c : Int) + (b : Int) := by omega
        have hnx : chN a b p (k + 1) = c + b := by rw [HN.out, if_pos hw]
        have HX := Lib.hid hnx
        clear hnx hw
        go_wp2_with (at_builtin; refine wpList_appendG eZ rfl _ _ rfl w.heap.size _ _ (by rfl) (HO.out.alloc _) (wr.heap.size + 1) _ 1 1 [(c : Int)] (by rfl) (RdG.laid eZ wr [(c : Int)] 1 rfl _ rfl) HLN.out (by simp; exact Nat.le_succ_of_le HSZ.out) ?_; intro v' w5 ho5 hg5 _; have hb5 := Lib.hid ((HBE.out.alloc HSZ.out (.cells #[.int .i64 (c : Int)] 3)).grown hg5 (by simp; exact Nat.le_succ_of_le HSZ.out) HO.out.lt); have ho6 := Lib.hid ho5; clear ho5 hg5)
        refine ⟨⟨k + 1, hlt, by go_num, by rw [HX.out, Int.natCast_add], by rw [hU.out]; exact ho6.out, hb5.out⟩, ?_⟩
        simp [intOf]
        omega
      · have hw2 : (p : Int) ≤ (c : Int) + (b : Int) := by omega
        have hnx : chN a b p (k + 1) = c + b - p := by rw [HN.out, if_neg hw]
        have HX := Lib.hid hnx
        have hle : p ≤ c + b := by omega
        clear hnx hw
        go_wp2_with (at_builtin; refine wpList_appendG eZ rfl _ _ rfl w.heap.size _ _ (by rfl) (HO.out.alloc _) (wr.heap.size + 1) _ 1 1 [(c : Int)] (by rfl) (RdG.laid eZ wr [(c : Int)] 1 rfl _ rfl) HLN.out (by simp; exact Nat.le_succ_of_le HSZ.out) ?_; intro v' w5 ho5 hg5 _; have hb5 := Lib.hid ((HBE.out.alloc HSZ.out (.cells #[.int .i64 (c : Int)] 3)).grown hg5 (by simp; exact Nat.le_succ_of_le HSZ.out) HO.out.lt); have ho6 := Lib.hid ho5; clear ho5 hg5)
        refine ⟨⟨k + 1, hlt, by go_num, by rw [HX.out, Int.natCast_sub hle, Int.natCast_add], by rw [hU.out]; exact ho6.out, hb5.out⟩, ?_⟩
        simp [intOf]
        omega
    · obtain rfl : k = p := by omega
      have h1 : ¬ (k : Int) < (k : Int) := by omega
      rw [upZ_all, HLL.out] at hown
      have HO := Lib.hid hown
      have HBE := Lib.hid hbel
      clear hown hbel hlt hk
      go_wp2_with fail
      go_ret
      exact ⟨_, rfl, HO.out, HBE.out⟩
end Go.Proofs.Ytmngagcekhlppaa
