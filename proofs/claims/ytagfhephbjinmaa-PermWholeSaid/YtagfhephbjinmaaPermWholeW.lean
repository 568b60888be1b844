/-
  PermWhole: its walk, the program's contracts a premise.
-/
import Derived.Test.YtagfhephbjinmaaJAwake
import Derived.Deep.DeepCutAuto
namespace Go.Proofs.Ytagfhephbjinmaa
set_option maxRecDepth 100000
open Go.RowKit Go.Lib Go.ChangeShapes Go.WideShapes Go.ChangeAt

/-- Bools in a slice. -/
def eB : Enc Bool where
  S := 35
  T := 4
  k := 1
  bytes := 1
  zero := .bool false
  f x := [.bool x]
  len _ := rfl
  one _ v hv := by rw [List.mem_singleton.1 hv]; rfl
  und := Try.underlying35
  info := by kernel_rfl
  pos := by decide
  zlen := rfl
  small := by decide
theorem size_bool : (Try.prog.info? 4).map (·.size) = some 1 := by kernel_rfl
set_option maxHeartbeats 16000000 in
theorem permWhole_walkW (S : PermC) (key : List UInt8) (hk : key.length = 16) (s : ByteArray) (_hs : s.size ≤ maxLen) (n : Nat) (hn : n < 65536) (w : World) :
    Calls Try.prog 6 #[keyC key, .string s, .int .u16 (n : Int)] w fun e w' => e = .returned (.bool true) ∧ Below w.heap.size w w' := by
  obtain ⟨C0, hC0⟩ : ∃ C, (key.map v8).toArray = C := ⟨_, rfl⟩
  obtain ⟨Y, hY⟩ : ∃ Y, w.alloc (.cells C0 28) = Y := ⟨_, rfl⟩
  have HK0 := Lib.hid (show Blk Y 28 w.heap.size (key.map v8) by rw [← hY, ← hC0]; exact Blk_10.new w _ _)
  have HB0 := Lib.hid (show Below w.heap.size w Y by rw [← hY]; exact (Below.refl w.heap.size w).alloc (Nat.le_refl _) _)
  have HY := Lib.hid hY
  have HKE : Hid (keyC key = .agg C0) := Lib.hid (by rw [← hC0]; rfl)
  rw [HKE.out]
  have HKL := Lib.hid hk
  clear hY hC0 hk
  go_enter Try.func6, Try.ntmps6
  go_wp2_with fail
  rw [HY.out]
  refine (awake_any S _).mono ?_
  rintro e w1 ⟨rfl, hb1⟩
  have HB1 := Lib.hid (HB0.out.trans (hb1.mono HB0.out.size))
  have HK1 := Lib.hid (Blk_10.below HK0.out (Blk_10.lt HK0.out) hb1)
  clear hb1
  by_cases hg : 300 < s.size
  · have hn' : (300 : Int) < (s.size : Int) := by omega
    have hnb : decide ((300 : Int) < (s.size : Int)) = true := decide_eq_true hn'
    clear hg
    go_wp2_with fail
    refine (awake_any S _).mono ?_
    rintro e w2 ⟨rfl, hb2⟩
    go_wp2_with fail
    go_ret
    exact ⟨rfl, HB1.out.trans (hb2.mono HB1.out.size)⟩
  · have hn' : ¬ (300 : Int) < (s.size : Int) := by omega
    have hnb : decide ((300 : Int) < (s.size : Int)) = false := decide_eq_false hn'
    have hs : s.size ≤ 1000 := by omega
    clear hg
    have hm0 : n % 500 < 500 := Nat.mod_lt _ (by decide)
    have em : (n : Int) % 500 = ((n % 500 : Nat) : Int) := by rw [Int.natCast_emod]; rfl
    obtain ⟨m, hm⟩ : ∃ m, n % 500 = m := ⟨_, rfl⟩
    rw [hm] at em hm0
    have P1 := Lib.hid (fun W => rnext_any (m : Int) (by omega) (by omega) W)
    obtain ⟨hsz, _, _⟩ := nextN_size (z := (m : Int)) (by omega)
    obtain ⟨p, hp⟩ : ∃ p, nextN (m : Int) = p := ⟨_, rfl⟩
    rw [hp] at P1 hsz
    have hp2 := hsz.two
    have hpm := hsz.most
    have HSZ := Lib.hid hsz
    have HS := Lib.hid hs
    clear hp hsz
    have PA0 : Hid (∀ W : World, Calls Try.prog 17 #[.agg (key.map v8).toArray, .string s, .int .i64 (p : Int)] W fun e W' => ∃ v, e = .returned v ∧ OwnG eZ W' W.heap.size v (allZ (offN key s.data.toList p) (skN key s.data.toList p) p) ∧ Below W.heap.size W W') := Lib.hid (fun W => S.all key HKL.out s HS.out p HSZ.out W)
    have hsk := skN_lt HSZ.out key s.data.toList
    obtain ⟨a, ha⟩ : ∃ a, offN key s.data.toList p = a := ⟨_, rfl⟩
    obtain ⟨b, hb⟩ : ∃ b, skN key s.data.toList p = b := ⟨_, rfl⟩
    rw [hb] at hsk
    rw [ha, hb] at PA0
    have HFR := Lib.hid (fun (k : Nat) (hk : k < p) => seenN_fresh (a := a) HSZ.out.prime hsk.1 hsk.2 hk)
    have HLT := Lib.hid (fun i => chN_lt hp2 a b i)
    clear ha hb hsk
    have q1 : ((p : Int) != (p : Int)) = false := by simp
    go_upto_region 7 with (first
      | (with_reducible refine (P1.out w1).mono ?_; rintro e w' ⟨rfl, rfl⟩)
      | ((with_reducible show wpList _ _ _ (⟨some 23, _, _, _, _, _⟩ :: _) _ _); refine wpList_loadM (op := ⟨some 23, _, _, _, _, _⟩) 28 _ rfl (by rfl) w.heap.size 0 (by rfl) (key.map v8) (Blk_10.range HK1.out) _ Try.underlying28 rfl (keyp_size HKL.out) ?_)
      | (with_reducible refine (PA0.out w1).mono ?_; rintro e w2 ⟨v2, rfl, hown, hb⟩; have HB2 := Lib.hid (HB1.out.trans (hb.mono HB1.out.size)); obtain ⟨A2, m2, c2, rfl, hm2, _, _, hr2, _⟩ := hown.sl; rw [allZ_len] at hm2; subst hm2; have HR2 := Lib.hid hr2; clear hb hown hr2))
    obtain ⟨w3, hrun, hown3, hg3⟩ := run_makeG eB false rfl m2 (by omega) w2.heap.size w2 (Nat.le_refl _)
    rw [← seenL_zero a b m2] at hown3
    have HO3 := Lib.hid hown3
    have HB3 := Lib.hid ((Below.refl w2.heap.size w2).grown hg3 (Nat.le_refl _) (fun k hk => by cases hk))
    clear hown3 hg3
    have hrun2 : (Instr.makeSlice 35 (.int .i64 (m2 : Int)) (.int .i64 (m2 : Int))).run Try.prog w2 = .ok (.slice (some ⟨w2.heap.size, 0, none⟩) m2 m2) w3 := hrun
    clear hrun
    go_wp2_with fail
    clear hrun2
    go_loopw [10] (fun i wr => ∃ k : Nat, k ≤ m2 ∧ i = .int .i64 (k : Int) ∧ OwnG eB wr w2.heap.size (.slice (some ⟨w2.heap.size, 0, none⟩) m2 m2) (seenL a b m2 k) ∧ Below w2.heap.size w2 wr)
      (fun i _ => m2 - (intOf i).toNat)
    case atStart => exact ⟨0, Nat.zero_le _, rfl, HO3.out, HB3.out⟩
    case round =>
      clear HO3 HB3
      obtain ⟨k, hk, rfl, hown, hbel⟩ := hrel
      by_cases hlt : k < m2
      · have h1 : (k : Int) < (m2 : Int) := by omega
        have h0 : (0 : Int) ≤ (k : Int) := by omega
        obtain ⟨b2, off2, rfl, _⟩ := HR2.out.addr (by omega)
        have c1 := (HR2.out.below hbel).cell1 (allZ_get a b hlt) (u := .int .i64 ((chN a b m2 k : Nat) : Int)) rfl
        have hx := HLT.out k
        have hfr := HFR.out k hlt
        have hsg := seenL_get a b k hx
        have HST := Lib.hid (seenL_set (a := a) (b := b) (p := m2) (k := k))
        obtain ⟨x, hxe⟩ : ∃ x, chN a b m2 k = x := ⟨_, rfl⟩
        rw [hxe] at c1 hx hfr hsg HST
        rw [hfr] at hsg
        have c2' := hown.rd.cell1 hsg (u := .bool false) rfl
        rw [Nat.zero_add] at c2'
        have d1 : (x : Int) < (m2 : Int) := by omega
        have d2 : ¬ (m2 : Int) ≤ (x : Int) := by omega
        have d3 : ¬ (x : Int) < 0 := by omega
        have d4 : decide ((m2 : Int) ≤ (x : Int)) = false := decide_eq_false d2
        have d5 : decide (m2 ≤ x) = false := decide_eq_false (by omega)
        have d6 : ¬ m2 ≤ x := by omega
        have HSG := Lib.hid hsg
        have HO := Lib.hid hown
        have HBE := Lib.hid hbel
        have HKQ : Hid (x = x * eB.k + 0) := Lib.hid (by show x = x * 1 + 0; omega)
        clear hxe hown hbel hk hfr hsg
        go_wp2_with ((with_reducible show wpList _ _ _ (⟨none, .store 4 (.tmp 65) _, _, _, _, _⟩ :: _) _ _); refine wpList_storeG eB rfl 4 (.tmp 65) _ rfl w2.heap.size x 0 x HKQ.out (by rfl) (.bool true) (by rfl) _ m2 m2 w2.heap.size HO.out false true HSG.out (by decide) rfl size_bool rfl rfl ?_; intro w6 ho6 hg6; rw [HST.out] at ho6; have HO6 := Lib.hid ho6; have HB6 := Lib.hid (below_gb HBE.out hg6 (Nat.le_refl _) HBE.out.size); clear ho6 hg6)
        refine ⟨⟨k + 1, hlt, by go_num, HO6.out, HB6.out⟩, ?_⟩
        simp [intOf]
        omega
      · obtain rfl : k = m2 := by omega
        have h1 : ¬ (k : Int) < (k : Int) := by omega
        have HB9 := Lib.hid (HB2.out.trans (hbel.mono HB2.out.size))
        clear hown hbel hlt hk
        go_wp2_with fail
        go_ret
        exact ⟨rfl, HB9.out⟩
end Go.Proofs.Ytagfhephbjinmaa
