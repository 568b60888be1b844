/-
  PROVED HERE: 'PortSpoiltSaid': whatever src, dst, udp, b, at and turn are, the Go function PortSpoilt of package wayleavelaw10 returns true, and its arguments read behind the call as they read before. No condition.
-/
import Derived.Test.YtgjjepcjdekihaaPOpen
import Derived.Deep.DeepCutAuto
namespace Go.Proofs.Ytgjjepcjdekihaa
open Go.RowKit Go.Lib Go.ChangeShapes Go.WideShapes Go.ChangeAt

theorem xor_nat_ne {x t : Nat} (ht : t ≠ 0) : x ≠ x ^^^ t := by
  intro h
  apply ht
  have := congrArg (x ^^^ ·) h
  simpa [← Nat.xor_assoc] using this.symm
/-- One byte of what is filled in changed, but the lengths: how it is read, and whether it is right. -/
theorem spoilt_all {six : Bool} {a b : List UInt8} {u : Bool} {xs : List UInt8} (ha : a.length = 16) (hb : b.length = 16) (h0 : faultB u xs = 0) {i z : Nat} (hi : i < totN u xs) (hz : z < 256) (hne : batN (fillS six a b u xs) i ≠ z)
    (hT : u = false → i ≠ 12) (hU : u = true → i ≠ 4 ∧ i ≠ 5) :
    faultB u ((fillS six a b u xs).set i (UInt8.ofNat z)) = 0 ∧ rightS six a b u ((fillS six a b u xs).set i (UInt8.ofNat z)) = if u = true ∧ wat ((fillS six a b u xs).set i (UInt8.ofNat z)) 6 = 0 then !six else false := by
  obtain ⟨f1, f2⟩ := fill_fault (six := six) (a := a) (b := b) (u := u) (xs := xs)
  obtain ⟨t1, t2, t3⟩ := tot_ok h0
  have hlen := fillS_len (six := six) (a := a) (b := b) (u := u) (xs := xs)
  have hck := fill_ck (six := six) ha hb h0
  generalize fillS six a b u xs = fs at *
  obtain ⟨k1, k2⟩ := keep_fault (u := u) (xs := fs) (ys := fs.set i (UInt8.ofNat z)) (List.length_set ..) (fun h => batN_set_ne _ _ (hT h))
    (fun h => by unfold wat; rw [batN_set_ne _ _ (hU h).1, batN_set_ne _ _ (hU h).2])
  refine ⟨k1.trans (f1.trans h0), ?_⟩
  unfold rightS
  split
  · rfl
  · refine decide_eq_false (spoilt_ck ha hb hck (i := i) (x := fs[i]'(by omega)) (List.getElem?_eq_getElem _) ?_ (by omega) k2)
    intro e
    apply hne
    unfold batN
    rw [List.getD_eq_getElem?_getD, List.getElem?_eq_getElem (show i < fs.length by omega), Option.getD_some, e, u8nat hz]

set_option maxRecDepth 100000 in
set_option maxHeartbeats 20000000 in
theorem portSpoilt_walk (sa : Bool) (a : List UInt8) (ha : a.length = 16) (sb : Bool) (b : List UInt8) (hb : b.length = 16) (u : Bool) (A : Option Addr) (len cap : Nat) (xs : List UInt8) (hcap : len ≤ cap) (hcm : cap ≤ maxLen) (k : Nat) (hk : k < 65536) (tn : Nat) (ht : tn < 256) (w : World) (hI : Rd w w.heap.size A len xs) :
    Calls Try.prog 6 #[.agg (addrC sa a), .agg (addrC sb b), .bool u, .slice A len cap, .int .u16 (k : Int), .int .u8 (tn : Int)] w fun e w' => e = .returned (.bool true) ∧ Below w.heap.size w w' := by
  have hml : len ≤ 9223372036854775807 := by unfold maxLen at hcm; omega
  obtain ⟨k0, k1, hb0, hz⟩ := boxes2 w sa sb a b
  obtain ⟨Z, hZ⟩ : ∃ Z : World, (w.alloc (.cells (addrC sa a) 35)).alloc (.cells (addrC sb b) 35) = Z := ⟨_, rfl⟩
  rw [hZ] at k0 k1 hb0 hz
  have HFT := Lib.hid (fun W (hB : Below w.heap.size w W) => fit_any sa sb a b u (cap := cap) W ((hI.below hB).more hB.size))
  obtain ⟨ft, hft⟩ : ∃ ft, fitB sa sb (faultB u xs) len = ft := ⟨_, rfl⟩
  rw [hft] at HFT
  have HF := Lib.hid hft
  have HZ := Lib.hid hZ
  have K0 := Lib.hid k0
  have K1 := Lib.hid k1
  have HB0 := Lib.hid hb0
  have HG := Lib.hid hz
  have HI := Lib.hid hI
  obtain ⟨C0, hC0⟩ : ∃ C, addrC sa a = C := ⟨_, rfl⟩
  obtain ⟨C1, hC1⟩ : ∃ C, addrC sb b = C := ⟨_, rfl⟩
  rw [hC0, hC1] at HZ HFT
  rw [hC0, hC1]
  have HC0 := Lib.hid hC0
  have HC1 := Lib.hid hC1
  clear hft hZ k0 k1 hb0 hz hI hC0 hC1
  go_enter Try.func6, Try.ntmps6
  go_wp2_with fail
  rw [HZ.out]
  refine (awake_any _).mono ?_
  rintro e w1 ⟨rfl, hb1⟩
  have g0 := Nat.lt_of_succ_lt HG.out
  have HB1 := Lib.hid (HB0.out.trans (hb1.mono HB0.out.size))
  have K0a := Lib.hid (range_keep K0.out g0 hb1)
  have K1a := Lib.hid (range_keep K1.out HG.out hb1)
  have hg1 := Nat.lt_of_lt_of_le HG.out hb1.size
  have HG1 := Lib.hid hg1
  clear hb1 hg1
  go_wp2_with (first
    | ((with_reducible show wpList _ _ _ _ _ _); refine wpList_loadC (op := ⟨some 21, _, _, _, _, _⟩) _ rfl (by rfl) w.heap.size (by rfl) sa a ha K0a.out C0 HC0.out ?_)
    | ((with_reducible show wpList _ _ _ _ _ _); refine wpList_loadC (op := ⟨some 22, _, _, _, _, _⟩) _ rfl (by rfl) (w.heap.size + 1) (by rfl) sb b hb K1a.out C1 HC1.out ?_))
  refine (HFT.out _ HB1.out).mono ?_
  rintro e w2 ⟨rfl, hb2⟩
  have HB2 := Lib.hid (HB1.out.trans (hb2.mono HB1.out.size))
  have K0b := Lib.hid (range_keep K0a.out (Nat.lt_of_succ_lt HG1.out) hb2)
  have K1b := Lib.hid (range_keep K1a.out HG1.out hb2)
  have hg2 := Nat.lt_of_lt_of_le HG1.out hb2.size
  have HG2 := Lib.hid hg2
  clear hb2 hg2 HFT
  cases ft with
  | false =>
    clear HF
    go_wp2_with fail
    refine (awake_any _).mono ?_
    rintro e w3 ⟨rfl, hb3⟩
    have HB3 := Lib.hid (HB2.out.trans (hb3.mono HB2.out.size))
    clear hb3
    go_wp2_with fail
    go_ret
    exact ⟨rfl, HB3.out⟩
  | true =>
    obtain ⟨hs, h0, hle⟩ := fit_yes HF.out
    subst hs
    have hL := HI.out.len
    by_cases ht0 : tn = 0
    · subst ht0
      go_wp2_with fail
      refine (awake_any _).mono ?_
      rintro e w3 ⟨rfl, hb3⟩
      have HB3 := Lib.hid (HB2.out.trans (hb3.mono HB2.out.size))
      clear hb3
      go_wp2_with fail
      go_ret
      exact ⟨rfl, HB3.out⟩
    have htt1 : ((tn : Int) == 0) = false := beq_eq_false_iff_ne.2 (by omega)
    have htt2 : (tn == 0) = false := beq_eq_false_iff_ne.2 ht0
    have HFi := Lib.hid (fun W (hB : Below w2.heap.size w2 W) => fill_any sa a b ha hb (cap := cap) (by omega) hcap hcm W ((HI.out.below (HB2.out.trans (hB.mono HB2.out.size))).more (Nat.le_trans HB2.out.size hB.size)) u h0)
    have HLF := Lib.hid (show (fillS sa a b u xs).length = len by rw [fillS_len]; exact hL)
    obtain ⟨t1, t2, t3⟩ := tot_ok h0
    rw [hL] at t3
    have hff : faultB u (fillS sa a b u xs) = 0 := fill_fault.1.trans h0
    have hpt : (rdP (prN u : Nat) (fillS sa a b u xs)).t = totN u xs := (rdP_tot hff).trans fill_fault.2
    have HRD := Lib.hid (fun (A : Option Addr) (c : Nat) (h1 : len ≤ c) (h2 : c ≤ maxLen) W (hI : Rd W W.heap.size A len (fillS sa a b u xs)) => read_any (cap := c) (prN u : Nat) (by omega) h1 h2 W hI)
    rw [faultP_pr, hff] at HRD
    have HRIGHT := Lib.hid (fun zs (A : Option Addr) (c : Nat) (h1 : len ≤ c) (h2 : c ≤ maxLen) W (hI : Rd W W.heap.size A len zs) (hz : faultB u zs = 0) => right_any sa a b ha hb (cap := c) (by omega) h1 h2 W hI u hz)
    have HPR := Lib.hid (proto_any u)
    obtain ⟨i, hi⟩ : ∃ i, k % totN u xs = i := ⟨_, rfl⟩
    have hiT : i < totN u xs := by rw [← hi]; exact Nat.mod_lt _ (by omega)
    have hil : i < len := by omega
    obtain ⟨z, hz⟩ : ∃ z, batN (fillS sa a b u xs) i ^^^ tn = z := ⟨_, rfl⟩
    have hx := batN_lt (fillS sa a b u xs) i
    have hz256 : z < 256 := by rw [← hz]; exact Nat.xor_lt_two_pow (n := 8) (by omega) (by omega)
    have HSP := Lib.hid (fun hT hU => spoilt_all (six := sa) ha hb h0 hiT hz256 (by rw [← hz]; exact xor_nat_ne ht0) hT hU)
    have hxor : bits .xor .u8 (batN (fillS sa a b u xs) i : Int) (tn : Int) = (z : Int) := by rw [u8_xor_nat _ _ hx ht, hz]
    have hmod1 : Int.tmod (k : Int) (totN u xs : Int) = (i : Int) := by rw [Int.tmod_eq_emod_of_nonneg (by omega), ← hi]; rfl
    have hmod2 : (k : Int) % (totN u xs : Int) = (i : Int) := by rw [← hi]; rfl
    have HZV := Lib.hid (show (z : Int) = ((UInt8.ofNat z).toNat : Int) by rw [u8nat hz256])
    obtain ⟨p, hp⟩ : ∃ p, rdP (prN u : Nat) (fillS sa a b u xs) = p := ⟨_, rfl⟩
    rw [hp] at HRD hpt
    have HPT := Lib.hid hpt
    generalize totN u xs = T at *
    generalize fillS sa a b u xs = fs at *
    obtain ⟨x, hxe⟩ : ∃ x, batN fs i = x := ⟨_, rfl⟩
    rw [hxe] at hxor hx
    have HXE := Lib.hid hxe
    obtain ⟨P, hP⟩ : ∃ P, prN u = P := ⟨_, rfl⟩
    rw [hP] at HPR HFi HRD HRIGHT
    rw [HC0.out, HC1.out] at HFi HRIGHT
    have hT8 : ¬ (T : Int) < 8 := by omega
    have hTl : ¬ (len : Int) < (T : Int) := by omega
    have hT0 : ¬ (T : Int) = 0 := by omega
    have hT0n : ¬ T = 0 := by omega
    have hne : ((len : Int) != (len : Int)) = false := by simp
    have hwk : IntKind.i64.wrap (k : Int) = (k : Int) := by rw [IntKind.wrap_i64]; omega
    have hli : (i : Int) < (len : Int) := by omega
    have hl8 : 8 ≤ len := by omega
    clear hP h0 HF hL hff hp hpt hz hi hxe
    have gg := HG2.out
    have g2 : w.heap.size < w2.heap.size := by omega
    go_wp2_with fail
    refine (HPR.out _).mono ?_
    rintro e w' ⟨rfl, rfl⟩
    go_wp2_with (first
      | ((with_reducible show wpList _ _ _ _ _ _); refine wpList_loadC (op := ⟨some 35, _, _, _, _, _⟩) _ rfl (by rfl) w.heap.size (by rfl) sa a ha K0b.out C0 HC0.out ?_)
      | ((with_reducible show wpList _ _ _ _ _ _); refine wpList_loadC (op := ⟨some 36, _, _, _, _, _⟩) _ rfl (by rfl) (w.heap.size + 1) (by rfl) sa b hb K1b.out C1 HC1.out ?_))
    refine (HFi.out _ (Below.refl _ _)).mono ?_
    rintro e w4 ⟨v4, rfl, ho4, hb4⟩
    obtain ⟨g, c4, rfl, hc4, hm4, hg4, hgl4, hr4⟩ := ho4.formG HLF.out (by omega)
    have HR4 := Lib.hid hr4
    have HO4 := Lib.hid ho4
    have HB4 := Lib.hid (HB2.out.trans (hb4.mono HB2.out.size))
    have K0c := Lib.hid (range_keep K0b.out g2 hb4)
    have K1c := Lib.hid (range_keep K1b.out gg hb4)
    have z4 := hb4.size
    clear ho4 hb4 hr4 HFi
    go_wp2_with fail
    refine (HRD.out _ c4 hc4 hm4 _ HR4.out).mono ?_
    rintro e w5 ⟨rfl, hb5⟩
    have HB5 := Lib.hid (HB4.out.trans (hb5.mono HB4.out.size))
    have HO5 := Lib.hid (HO4.out.below hb5)
    have K0d := Lib.hid (range_keep K0c.out (by omega) hb5)
    have K1d := Lib.hid (range_keep K1c.out (by omega) hb5)
    have z5 := hb5.size
    clear hb5 HRD HR4 HO4
    have hiT' : i < T := hiT
    clear hcap hml hx hk ht hz256 t1 t2 htt1 htt2 hle g0
    go_upto_region 9 with ((with_reducible show wpList _ _ _ _ _ _); refine wpList_storeNew rfl _ _ rfl (by rfl) p (by rfl) ?_; intro w6 hp6 hb6 hz6; clear hz6; have HB6 := Lib.hid (HB5.out.trans (hb6.mono HB5.out.size)); have HO6 := Lib.hid (HO5.out.below hb6); have K0e := Lib.hid (range_keep K0d.out (by omega) hb6); have K1e := Lib.hid (range_keep K1d.out (by omega) hb6); have c4t := hp6.cell (i := 4) (v := .int .i64 (T : Int)) (by rw [← HPT.out]; rfl); have z6 := hb6.size; have cxi : w6.cell? ⟨g, i, none⟩ = some (.int .u8 (x : Int)) := (by obtain ⟨g', c', eg, _, _, _, _, h⟩ := HO6.out.formG HLF.out (by omega); cases eg; have := h.cellD hil; rw [HXE.out, Nat.zero_add] at this; exact this); clear hp6 hb6)
    clear hmod1 hmod2 hT8 hTl hT0 hT0n hne hwk c4t
    cases u with
    | false =>
      by_cases hi12 : i = 12
      · have e1 : ((i : Int) == 12) = true := by rw [hi12]; rfl
        have e2 : (i == 12) = true := by rw [hi12]; rfl
        clear hi12
        go_wp2_with fail
        go_ret
        exact ⟨rfl, HB6.out⟩
      · have e1 : ((i : Int) == 12) = false := beq_eq_false_iff_ne.2 (by omega)
        have e2 : (i == 12) = false := beq_eq_false_iff_ne.2 hi12
        obtain ⟨z1, z2⟩ := HSP.out (fun _ => hi12) (fun h => by cases h)
        have HRz := Lib.hid (fun (A : Option Addr) (c : Nat) (h1 : len ≤ c) (h2 : c ≤ maxLen) W (hI : Rd W W.heap.size A len (fs.set i (UInt8.ofNat z))) => HRIGHT.out _ A c h1 h2 W hI z1)
        rw [z2] at HRz
        have HZL := Lib.hid (show (fs.set i (UInt8.ofNat z)).length = len by rw [List.length_set]; exact HLF.out)
        clear z1 z2
        rw [show (if false = true ∧ wat (fs.set i (UInt8.ofNat z)) 6 = 0 then !sa else false) = false from if_neg (fun h => by cases h.1)] at HRz
        go_wp2_with (first
          | ((with_reducible show wpList _ _ _ _ _ _); refine wpList_storeO rfl (.tmp 93) _ rfl g i (by rfl) (UInt8.ofNat z) (z : Int) HZV.out (by rfl) fs len c4 w2.heap.size HLF.out HO6.out hil ?_; intro w7 ho7 hb7; obtain ⟨g', c', eg, _, _, _, _, hr7⟩ := ho7.formG HZL.out (by omega); cases eg; have HR7 := Lib.hid hr7; have HB7 := Lib.hid (HB6.out.trans (hb7.mono (Nat.le_trans HB2.out.size hg4))); have K0f := Lib.hid (range_keep K0e.out (by omega) hb7); have K1f := Lib.hid (range_keep K1e.out (by omega) hb7); have z7 := hb7.size; clear ho7 hb7 hr7)
          | ((with_reducible show wpList _ _ _ _ _ _); refine wpList_loadC (op := ⟨some 116, _, _, _, _, _⟩) _ rfl (by rfl) w.heap.size (by rfl) sa a ha K0f.out C0 HC0.out ?_)
          | ((with_reducible show wpList _ _ _ _ _ _); refine wpList_loadC (op := ⟨some 117, _, _, _, _, _⟩) _ rfl (by rfl) (w.heap.size + 1) (by rfl) sa b hb K1f.out C1 HC1.out ?_))
        refine (HRz.out _ c4 hc4 hm4 _ HR7.out).mono ?_
        rintro e w8 ⟨rfl, hb8⟩
        have HB8 := Lib.hid (HB7.out.trans (hb8.mono HB7.out.size))
        clear hb8
        go_wp2_with fail
        go_ret
        exact ⟨rfl, HB8.out⟩
    | true =>
      by_cases hi4 : i = 4
      · have e1 : ((i : Int) == 4) = true := by rw [hi4]; rfl
        have e2 : (i == 4) = true := by rw [hi4]; rfl
        clear hi4
        go_wp2_with fail
        go_ret
        exact ⟨rfl, HB6.out⟩
      · have e1 : ((i : Int) == 4) = false := beq_eq_false_iff_ne.2 (by omega)
        have e2 : (i == 4) = false := beq_eq_false_iff_ne.2 hi4
        by_cases hi5 : i = 5
        · have e3 : ((i : Int) == 5) = true := by rw [hi5]; rfl
          have e4 : (i == 5) = true := by rw [hi5]; rfl
          clear hi5
          go_wp2_with fail
          go_ret
          exact ⟨rfl, HB6.out⟩
        · have e3 : ((i : Int) == 5) = false := beq_eq_false_iff_ne.2 (by omega)
          have e4 : (i == 5) = false := beq_eq_false_iff_ne.2 hi5
          obtain ⟨z1, z2⟩ := HSP.out (fun h => by cases h) (fun _ => ⟨hi4, hi5⟩)
          have HRz := Lib.hid (fun (A : Option Addr) (c : Nat) (h1 : len ≤ c) (h2 : c ≤ maxLen) W (hI : Rd W W.heap.size A len (fs.set i (UInt8.ofNat z))) => HRIGHT.out _ A c h1 h2 W hI z1)
          rw [z2] at HRz
          have HZL := Lib.hid (show (fs.set i (UInt8.ofNat z)).length = len by rw [List.length_set]; exact HLF.out)
          clear z1 z2
          have HW6 := Lib.hid (show wat (fs.set i (UInt8.ofNat z)) 6 = 256 * batN (fs.set i (UInt8.ofNat z)) 6 + batN (fs.set i (UInt8.ofNat z)) 7 from rfl)
          obtain ⟨qq, hqq⟩ : ∃ q, wat (fs.set i (UInt8.ofNat z)) 6 = q := ⟨_, rfl⟩
          rw [hqq] at HW6 HRz
          clear hqq
          have n6 : 6 < len := by omega
          have n7 : 7 < len := by omega
          have l6 : (6 : Int) < (len : Int) := by omega
          have l7 : (7 : Int) < (len : Int) := by omega
          obtain ⟨p6, hp6⟩ : ∃ q, batN (fs.set i (UInt8.ofNat z)) 6 = q := ⟨_, rfl⟩
          obtain ⟨p7, hp7⟩ : ∃ q, batN (fs.set i (UInt8.ofNat z)) 7 = q := ⟨_, rfl⟩
          rw [hp6, hp7] at HW6
          have HP6 := Lib.hid hp6
          have HP7 := Lib.hid hp7
          clear hp6 hp7
          by_cases h6 : p6 = 0
          · by_cases h7 : p7 = 0
            · rw [show (if true = true ∧ qq = 0 then !sa else false) = !sa from if_pos ⟨rfl, by have := HW6.out; omega⟩] at HRz
              subst h6 h7
              go_wp2_with ((with_reducible show wpList _ _ _ _ _ _); refine wpList_storeO rfl (.tmp 93) _ rfl g i (by rfl) (UInt8.ofNat z) (z : Int) HZV.out (by rfl) fs len c4 w2.heap.size HLF.out HO6.out hil ?_; intro w7 ho7 hb7; obtain ⟨g', c', eg, _, _, _, _, hr7⟩ := ho7.formG HZL.out (by omega); cases eg; have HR7 := Lib.hid hr7; have HB7 := Lib.hid (HB6.out.trans (hb7.mono (Nat.le_trans HB2.out.size hg4))); have K0f := Lib.hid (range_keep K0e.out (by omega) hb7); have K1f := Lib.hid (range_keep K1e.out (by omega) hb7); have z7 := hb7.size; have c6 := HR7.out.cellD n6; have c7 := HR7.out.cellD n7; simp only [Nat.zero_add] at c6 c7; rw [HP6.out] at c6; rw [HP7.out] at c7; clear ho7 hb7 hr7)
              have hnn : ((!sa) == (!sa)) = true := eq_bool _
              have HSX := Lib.hid (fun W (hW : Below w7.heap.size w7 W) => addr_six (range_keep K0f.out (by omega) hW))
              have hgw : w.heap.size + 1 < w7.heap.size := by omega
              refine wp_region_held_drew (S := fun W => Below w7.heap.size w7 W) (by kernel_rfl) ((Below.refl _ _).drew) (fun hHeld => ?_)
              refine wpAnyH_take (i := 0) (oi := ⟨some 107, _, _, _, _, _⟩) (v := .agg C0) rfl (by kernel_rfl) (by kernel_rfl) (by kernel_rfl) (fun _ _ _ h => h) (by rw [← HC0.out]; exact yields_loadA (by rfl) _ rfl w.heap.size (by rfl) sa a ha (fun W hW => range_keep K0f.out (by omega) hW)) hHeld ?_
              simp only [Act.put, List.setIfInBounds_toArray, List.set_cons_zero, List.set_cons_succ]
              refine wpAnyH_take (i := 1) (oi := ⟨some 108, _, _, _, _, _⟩) (v := .agg C1) rfl (by kernel_rfl) (by kernel_rfl) (by kernel_rfl) (fun _ _ _ h => h) (by rw [← HC1.out]; exact yields_loadA (by rfl) _ rfl (w.heap.size + 1) (by rfl) sa b hb (fun W hW => range_keep K1f.out (by omega) hW)) hHeld ?_
              simp only [Act.put, List.setIfInBounds_toArray, List.set_cons_zero, List.set_cons_succ]
              refine wpAnyH_take (i := 2) (oi := ⟨some 109, _, _, _, _, _⟩) (v := .int .i64 (P : Int)) rfl (by kernel_rfl) (by kernel_rfl) (by kernel_rfl) (fun _ _ _ h => h) (Or.inl ⟨by rfl, fun _ _ => by go_simp⟩) hHeld ?_
              simp only [Act.put, List.setIfInBounds_toArray, List.set_cons_zero, List.set_cons_succ]
              refine wpAnyH_take (i := 3) (oi := ⟨some 110, _, _, _, _, _⟩) (v := .slice (some ⟨g, 0, none⟩) len c4) rfl (by kernel_rfl) (by kernel_rfl) (by kernel_rfl) (fun _ _ _ h => h) (Or.inl ⟨by rfl, fun _ _ => by go_simp⟩) hHeld ?_
              simp only [Act.put, List.setIfInBounds_toArray, List.set_cons_zero, List.set_cons_succ]
              refine wpAnyH_take (i := 5) (oi := ⟨some 112, _, _, _, _, _⟩) (v := .pointer (some ⟨w.heap.size, 0, none⟩)) rfl (by kernel_rfl) (by kernel_rfl) (by kernel_rfl) (fun _ _ _ h => h) (Or.inl ⟨by rfl, fun _ _ => by go_simp⟩) hHeld ?_
              simp only [Act.put, List.setIfInBounds_toArray, List.set_cons_zero, List.set_cons_succ]
              refine wpAnyH_take (i := 6) (oi := ⟨some 113, _, _, _, _, _⟩) (v := .bool sa) rfl (by kernel_rfl) (by kernel_rfl) (by kernel_rfl) (fun _ _ _ h => h) (Or.inl ⟨by rfl, fun W hW => by have hc := HSX.out W hW; go_simp⟩) hHeld ?_
              simp only [Act.put, List.setIfInBounds_toArray, List.set_cons_zero, List.set_cons_succ]
              refine wpAnyH_take (i := 7) (oi := ⟨some 114, _, _, _, _, _⟩) (v := .bool (!sa)) rfl (by kernel_rfl) (by kernel_rfl) (by kernel_rfl) (fun _ _ _ h => h) (Or.inl ⟨by rfl, fun _ _ => by go_simp⟩) hHeld ?_
              simp only [Act.put, List.setIfInBounds_toArray, List.set_cons_zero, List.set_cons_succ]
              refine wpAnyH_ready (rs := [4]) (by kernel_rfl) (by simp) (AllReadyH.cons (o := ⟨some 111, _, _, _, _, _⟩) rfl (fun K hK => ?_) AllReadyH.nil)
              go_simp
              refine (HRz.out _ c4 hc4 hm4 _ ((HR7.out.below hHeld).more hHeld.size)).mono ?_
              rintro e w8 ⟨rfl, hb8⟩
              refine hK.out _ _ (hHeld.trans (hb8.mono hHeld.size)) (fun hHeld => ?_)
              clear hK K hb8
              refine wpAnyH_take (i := 8) (oi := ⟨some 115, _, _, _, _, _⟩) (v := .bool true) rfl (by kernel_rfl) (by kernel_rfl) (by kernel_rfl) (fun _ _ _ h => h) (Or.inl ⟨by rfl, fun _ _ => by go_simp⟩) hHeld ?_
              simp only [Act.put, List.setIfInBounds_toArray, List.set_cons_zero, List.set_cons_succ]
              refine wpAnyH_take (i := 9) (oi := ⟨some 12, _, _, _, _, _⟩) (v := .bool true) rfl (by kernel_rfl) (by kernel_rfl) (by kernel_rfl) (fun _ _ _ h => h) (Or.inl ⟨by rfl, fun _ _ => by go_simp⟩) hHeld ?_
              simp only [Act.put, List.setIfInBounds_toArray, List.set_cons_zero, List.set_cons_succ]
              refine wpAnyH_done (by kernel_rfl) ?_ _
              go_wp2_with fail
              go_ret
              exact ⟨rfl, HB7.out.trans (hHeld.mono HB7.out.size)⟩
            · rw [show (if true = true ∧ qq = 0 then !sa else false) = false from if_neg (fun h => h7 (by have := HW6.out; have := h.2; omega))] at HRz
              have e1 : ((p7 : Int) == 0) = false := beq_eq_false_iff_ne.2 (by omega)
              have e2 : (p7 == 0) = false := beq_eq_false_iff_ne.2 h7
              subst h6
              go_wp2_with (first
                | ((with_reducible show wpList _ _ _ _ _ _); refine wpList_storeO rfl (.tmp 93) _ rfl g i (by rfl) (UInt8.ofNat z) (z : Int) HZV.out (by rfl) fs len c4 w2.heap.size HLF.out HO6.out hil ?_; intro w7 ho7 hb7; obtain ⟨g', c', eg, _, _, _, _, hr7⟩ := ho7.formG HZL.out (by omega); cases eg; have HR7 := Lib.hid hr7; have HB7 := Lib.hid (HB6.out.trans (hb7.mono (Nat.le_trans HB2.out.size hg4))); have K0f := Lib.hid (range_keep K0e.out (by omega) hb7); have K1f := Lib.hid (range_keep K1e.out (by omega) hb7); have z7 := hb7.size; have c6 := HR7.out.cellD n6; have c7 := HR7.out.cellD n7; simp only [Nat.zero_add] at c6 c7; rw [HP6.out] at c6; rw [HP7.out] at c7; clear ho7 hb7 hr7)
                | ((with_reducible show wpList _ _ _ _ _ _); refine wpList_loadC (op := ⟨some 116, _, _, _, _, _⟩) _ rfl (by rfl) w.heap.size (by rfl) sa a ha K0f.out C0 HC0.out ?_)
                | ((with_reducible show wpList _ _ _ _ _ _); refine wpList_loadC (op := ⟨some 117, _, _, _, _, _⟩) _ rfl (by rfl) (w.heap.size + 1) (by rfl) sa b hb K1f.out C1 HC1.out ?_))
              refine (HRz.out _ c4 hc4 hm4 _ HR7.out).mono ?_
              rintro e w8 ⟨rfl, hb8⟩
              have HB8 := Lib.hid (HB7.out.trans (hb8.mono HB7.out.size))
              clear hb8
              go_wp2_with fail
              go_ret
              exact ⟨rfl, HB8.out⟩
          · rw [show (if true = true ∧ qq = 0 then !sa else false) = false from if_neg (fun h => h6 (by have := HW6.out; have := h.2; omega))] at HRz
            have e1 : ((p6 : Int) == 0) = false := beq_eq_false_iff_ne.2 (by omega)
            have e2 : (p6 == 0) = false := beq_eq_false_iff_ne.2 h6
            go_wp2_with (first
              | ((with_reducible show wpList _ _ _ _ _ _); refine wpList_storeO rfl (.tmp 93) _ rfl g i (by rfl) (UInt8.ofNat z) (z : Int) HZV.out (by rfl) fs len c4 w2.heap.size HLF.out HO6.out hil ?_; intro w7 ho7 hb7; obtain ⟨g', c', eg, _, _, _, _, hr7⟩ := ho7.formG HZL.out (by omega); cases eg; have HR7 := Lib.hid hr7; have HB7 := Lib.hid (HB6.out.trans (hb7.mono (Nat.le_trans HB2.out.size hg4))); have K0f := Lib.hid (range_keep K0e.out (by omega) hb7); have K1f := Lib.hid (range_keep K1e.out (by omega) hb7); have z7 := hb7.size; have c6 := HR7.out.cellD n6; have c7 := HR7.out.cellD n7; simp only [Nat.zero_add] at c6 c7; rw [HP6.out] at c6; rw [HP7.out] at c7; clear ho7 hb7 hr7)
              | ((with_reducible show wpList _ _ _ _ _ _); refine wpList_loadC (op := ⟨some 116, _, _, _, _, _⟩) _ rfl (by rfl) w.heap.size (by rfl) sa a ha K0f.out C0 HC0.out ?_)
              | ((with_reducible show wpList _ _ _ _ _ _); refine wpList_loadC (op := ⟨some 117, _, _, _, _, _⟩) _ rfl (by rfl) (w.heap.size + 1) (by rfl) sa b hb K1f.out C1 HC1.out ?_))
            refine (HRz.out _ c4 hc4 hm4 _ HR7.out).mono ?_
            rintro e w8 ⟨rfl, hb8⟩
            have HB8 := Lib.hid (HB7.out.trans (hb8.mono HB7.out.size))
            clear hb8
            go_wp2_with fail
            go_ret
            exact ⟨rfl, HB8.out⟩

theorem portSpoilt_walks : WalksTrue 6 Try.f6 := by
  intro H enc W base args ds p hval hA
  rw [Try.params6] at hA hval
  obtain ⟨v0, vs0, d0, ds0, p0, q0, hargs, rfl, rfl, h0, r0⟩ := trodAll_cons hA
  obtain ⟨v1, vs1, d1, ds1, p1, q1, rfl, rfl, rfl, h1, r1⟩ := trodAll_cons r0
  obtain ⟨v2, vs2, d2, ds2, p2, q2, rfl, rfl, rfl, h2, r2⟩ := trodAll_cons r1
  obtain ⟨v3, vs3, d3, ds3, p3, q3, rfl, rfl, rfl, h3, r3⟩ := trodAll_cons r2
  obtain ⟨v4, vs4, d4, ds4, p4, q4, rfl, rfl, rfl, h4, r4⟩ := trodAll_cons r3
  obtain ⟨v5, vs5, d5, ds5, p5, q5, rfl, rfl, rfl, h5, r5⟩ := trodAll_cons r4
  obtain ⟨rfl, rfl, rfl⟩ := trodAll_nil r5
  obtain rfl : args = #[v0, v1, v2, v3, v4, v5] := by cases args; simp_all
  obtain ⟨s0, bs0, rfl, hl0⟩ := open_addr (hval 0 35 v0 rfl rfl) h0
  obtain ⟨s1, bs1, rfl, hl1⟩ := open_addr (hval 1 35 v1 rfl rfl) h1
  obtain ⟨a2, rfl, rfl, rfl⟩ := open_bool Try.underlying4 (hval 2 4 v2 rfl rfl) h2
  obtain ⟨A3, len3, cap3, xs3, rfl, hc3, hm3, hI3⟩ := open_bytes (hval 3 22 v3 rfl rfl) h3
  obtain ⟨a4, rfl, rfl, rfl, w4⟩ := open_int Try.underlying41 (hval 4 41 v4 rfl rfl) h4
  obtain ⟨g4a, g4b⟩ := range_u16 w4
  obtain ⟨n4, rfl⟩ := Int.eq_ofNat_of_zero_le g4a
  obtain ⟨a5, rfl, rfl, rfl, w5⟩ := open_int Try.underlying5 (hval 5 5 v5 rfl rfl) h5
  obtain ⟨g5a, g5b⟩ := range_u8 w5
  obtain ⟨n5, rfl⟩ := Int.eq_ofNat_of_zero_le g5a
  exact portSpoilt_walk s0 bs0 hl0 s1 bs1 hl1 a2 A3 len3 cap3 xs3 hc3 hm3 n4 (by omega) n5 (by omega) W hI3

theorem portSpoilt_said : Rows.PortSpoiltSaid :=
  OpenClaim.holds_of_wide 6 Try.f6 rfl rfl rfl rfl rfl rfl rfl ⟨rfl, rfl, rfl, rfl, rfl⟩ rfl rfl rfl rfl rfl (by kernel_rfl) Try.func6 (by kernel_rfl)
    (of_decide_eq_true (by kernel_rfl)) (by unfold Func.isWrapper; first | (rw [if_pos (by decide +kernel)]; kernel_rfl) | (rw [if_neg (by decide +kernel)]; exact ⟨rfl, rfl⟩))
    (fun os started H enc _ => law_lift (s := Rows.portSpoiltSpec) Try.func6 (by kernel_rfl) rfl rfl (by intro H ds hd; match ds, hd with | [_, _, _, _, _, _], _ => exact ⟨rfl, rfl, rfl⟩) (by kernel_rfl) portSpoilt_walks os started H enc
      (ChangeSpec.witness6 (enc := enc) (C := Try.checked) false ⟨#[], #[.agg #[.bool false, .int .u8 0, .int .u8 0, .int .u8 0, .int .u8 0, .int .u8 0, .int .u8 0, .int .u8 0, .int .u8 0, .int .u8 0, .int .u8 0, .int .u8 0, .int .u8 0, .int .u8 0, .int .u8 0, .int .u8 0, .int .u8 0], .agg #[.bool false, .int .u8 0, .int .u8 0, .int .u8 0, .int .u8 0, .int .u8 0, .int .u8 0, .int .u8 0, .int .u8 0, .int .u8 0, .int .u8 0, .int .u8 0, .int .u8 0, .int .u8 0, .int .u8 0, .int .u8 0, .int .u8 0], .bool false, .slice none 0 0, .int .u16 0, .int .u8 0], []⟩ 8 (by kernel_rfl) (by kernel_rfl) (by kernel_rfl) (by kernel_rfl)))

end Go.Proofs.Ytgjjepcjdekihaa
