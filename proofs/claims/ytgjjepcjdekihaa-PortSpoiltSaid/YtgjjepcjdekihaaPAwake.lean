/-
  The statements' fit, and their 'awake', which answers true.
-/
import Derived.Test.YtgjjepcjdekihaaPRFill
import Derived.Test.YtgjjepcjdekihaaLift
namespace Go.Proofs.Ytgjjepcjdekihaa
open Go.RowKit Go.Lib

/-- What is looked at. -/
def fitB (sa sb : Bool) (F len : Nat) : Bool := sa == sb && (decide (F = 0) && decide (len ≤ 1000))
theorem boxes2 (w : World) (sa sb : Bool) (a b : List UInt8) :
    ((w.alloc (.cells (addrC sa a) 35)).alloc (.cells (addrC sb b) 35)).rangeAt w.heap.size 0 (addrL sa a) ∧ ((w.alloc (.cells (addrC sa a) 35)).alloc (.cells (addrC sb b) 35)).rangeAt (w.heap.size + 1) 0 (addrL sb b) ∧
    Below w.heap.size w ((w.alloc (.cells (addrC sa a) 35)).alloc (.cells (addrC sb b) 35)) ∧ w.heap.size + 1 < ((w.alloc (.cells (addrC sa a) 35)).alloc (.cells (addrC sb b) 35)).heap.size := by
  have k0 := addr_range w sa a
  have k1 := addr_range (w.alloc (.cells (addrC sa a) 35)) sb b
  simp only [World.size_alloc] at k1
  refine ⟨range_keep k0 (Nat.lt_succ_self _) ?_, k1, ((Below.refl w.heap.size w).alloc (Nat.le_refl _) _).alloc (by simp) _, by simp⟩
  exact (Below.refl (w.heap.size + 1) (w.alloc (.cells (addrC sa a) 35))).alloc (by simp) _

set_option maxRecDepth 100000 in
set_option maxHeartbeats 2000000 in
theorem fit_any (sa sb : Bool) (a b : List UInt8) (u : Bool) {A : Option Addr} {len cap : Nat} {xs : List UInt8} (w : World) (hI : Rd w w.heap.size A len xs) :
    Calls Try.prog 14 #[.agg (addrC sa a), .agg (addrC sb b), .bool u, .slice A len cap] w fun e w' => e = .returned (.bool (fitB sa sb (faultB u xs) len)) ∧ Below w.heap.size w w' := by
  obtain ⟨k0, k1, hb0, hz⟩ := boxes2 w sa sb a b
  obtain ⟨Z, hZ⟩ : ∃ Z : World, (w.alloc (.cells (addrC sa a) 35)).alloc (.cells (addrC sb b) 35) = Z := ⟨_, rfl⟩
  rw [hZ] at k0 k1 hb0 hz
  have HR := Lib.hid (rread_any (A := A) (cap := cap) (xs := xs) (prN u : Nat) Z ((hI.below hb0).more hb0.size))
  rw [faultP_pr] at HR
  have HPR := Lib.hid (proto_any u)
  obtain ⟨P, hP⟩ : ∃ P, prN u = P := ⟨_, rfl⟩
  rw [hP] at HR HPR
  obtain ⟨p, hp⟩ : ∃ p, rdP (P : Nat) xs = p := ⟨_, rfl⟩
  rw [hp] at HR
  generalize faultB u xs = F at *
  have HZ := Lib.hid hZ
  have HB0 := Lib.hid hb0
  have HG := Lib.hid hz
  have d0 := addr_six k0
  have d1 := addr_six k1
  obtain ⟨C0, hC0⟩ : ∃ C, addrC sa a = C := ⟨_, rfl⟩
  obtain ⟨C1, hC1⟩ : ∃ C, addrC sb b = C := ⟨_, rfl⟩
  rw [hC0, hC1] at HZ
  rw [hC0, hC1]
  clear hZ k0 k1 hb0 hz hp hP hI hC0 hC1
  go_enter Try.func14, Try.ntmps14
  go_wp2_with fail
  refine (HPR.out _).mono ?_
  rintro e w' ⟨rfl, rfl⟩
  go_wp2_with fail
  rw [HZ.out]
  refine HR.out.mono ?_
  rintro e w1 ⟨rfl, hb1⟩
  have HB1 := Lib.hid (HB0.out.trans (hb1.mono HB0.out.size))
  have e0 := (hb1.cell (p := ⟨w.heap.size, 0, none⟩) (Nat.lt_of_succ_lt HG.out)).trans d0
  have e1 := (hb1.cell (p := ⟨w.heap.size + 1, 0, none⟩) HG.out).trans d1
  have z1 := hb1.size
  clear hb1 d0 d1
  by_cases hst : sa = sb
  · subst hst
    have q1 : (sa == sa) = true := by simp
    by_cases hF : F = 0
    · subst hF
      by_cases hl : len ≤ 1000
      · have hl' : (len : Int) ≤ 1000 := by omega
        go_wp2_with ((with_reducible show wpList _ _ _ _ _ _); refine wpList_storeNew rfl _ _ rfl (by rfl) p (by rfl) ?_; intro w2 hp2 hb2 hz2; clear hz2; have HB2 := Lib.hid (HB1.out.trans (hb2.mono HB1.out.size)); have f0 := (hb2.cell (p := ⟨w.heap.size, 0, none⟩) (Nat.lt_of_lt_of_le (Nat.lt_of_succ_lt HG.out) z1)).trans e0; have f1 := (hb2.cell (p := ⟨w.heap.size + 1, 0, none⟩) (Nat.lt_of_lt_of_le HG.out z1)).trans e1; clear hp2 hb2)
        go_ret
        exact ⟨by simp [fitB, hl], HB2.out⟩
      · have hl' : ¬ (len : Int) ≤ 1000 := by omega
        go_wp2_with ((with_reducible show wpList _ _ _ _ _ _); refine wpList_storeNew rfl _ _ rfl (by rfl) p (by rfl) ?_; intro w2 hp2 hb2 hz2; clear hz2; have HB2 := Lib.hid (HB1.out.trans (hb2.mono HB1.out.size)); have f0 := (hb2.cell (p := ⟨w.heap.size, 0, none⟩) (Nat.lt_of_lt_of_le (Nat.lt_of_succ_lt HG.out) z1)).trans e0; have f1 := (hb2.cell (p := ⟨w.heap.size + 1, 0, none⟩) (Nat.lt_of_lt_of_le HG.out z1)).trans e1; clear hp2 hb2)
        go_ret
        exact ⟨by simp [fitB, hl]; omega, HB2.out⟩
    · have hF1 : ((F : Int) == 0) = false := beq_eq_false_iff_ne.2 (by omega)
      have hF2 : (F == 0) = false := beq_eq_false_iff_ne.2 hF
      go_wp2_with ((with_reducible show wpList _ _ _ _ _ _); refine wpList_storeNew rfl _ _ rfl (by rfl) p (by rfl) ?_; intro w2 hp2 hb2 hz2; clear hz2; have HB2 := Lib.hid (HB1.out.trans (hb2.mono HB1.out.size)); have f0 := (hb2.cell (p := ⟨w.heap.size, 0, none⟩) (Nat.lt_of_lt_of_le (Nat.lt_of_succ_lt HG.out) z1)).trans e0; have f1 := (hb2.cell (p := ⟨w.heap.size + 1, 0, none⟩) (Nat.lt_of_lt_of_le HG.out z1)).trans e1; clear hp2 hb2)
      go_ret
      exact ⟨by simp [fitB, hF], HB2.out⟩
  · have q1 : (sa == sb) = false := by simp [hst]
    go_wp2_with ((with_reducible show wpList _ _ _ _ _ _); refine wpList_storeNew rfl _ _ rfl (by rfl) p (by rfl) ?_; intro w2 hp2 hb2 hz2; clear hz2; have HB2 := Lib.hid (HB1.out.trans (hb2.mono HB1.out.size)); have f0 := (hb2.cell (p := ⟨w.heap.size, 0, none⟩) (Nat.lt_of_lt_of_le (Nat.lt_of_succ_lt HG.out) z1)).trans e0; have f1 := (hb2.cell (p := ⟨w.heap.size + 1, 0, none⟩) (Nat.lt_of_lt_of_le HG.out z1)).trans e1; clear hp2 hb2)
    go_ret
    exact ⟨by simp [fitB, hst], HB2.out⟩

/-- The statements' own bytes and address. -/
def BS : List UInt8 := [0, 1, 0, 2, 0, 8, 0, 0]
def AS : List UInt8 := [1, 2, 3, 4, 0, 0, 0, 0, 0, 0, 0, 0, 0, 0, 0, 0]
def CS : List UInt8 := [0, 1, 0, 2, 0, 8, 247, 207]
theorem bs_fault : faultP 17 BS = 0 := by decide
theorem bs_read : rdP 17 BS = ⟨1, 2, 0, 8, 8⟩ := rfl
theorem bs_t : faultP 6 BS = 2 := by decide
theorem bs_n : faultP 1 BS = 5 := by decide
theorem bs_right : rightS false AS AS true BS = true := by decide
theorem bs_fill : fillS false AS AS true BS = CS := by decide +kernel
theorem cs_fault : faultB true CS = 0 := by decide
theorem cs_right : rightS false AS AS true CS = true := by rw [← bs_fill]; exact fill_right rfl rfl bs_fault
theorem zeroA : (#[.bool false, .int .u8 0, .int .u8 0, .int .u8 0, .int .u8 0, .int .u8 0, .int .u8 0, .int .u8 0, .int .u8 0, .int .u8 0, .int .u8 0, .int .u8 0, .int .u8 0, .int .u8 0, .int .u8 0, .int .u8 0, .int .u8 0] : Array Value) = (addrL false (List.replicate 16 0)).toArray := rfl
theorem addrL_one (s : Bool) (bs : List UInt8) : ∀ v ∈ addrL s bs, v.oneCell' = true := by
  intro v hv
  unfold addrL at hv
  rcases List.mem_cons.1 hv with rfl | hv
  · rfl
  · exact oneCell8 _ v hv
/-- An address is stored into a cell that was just laid. -/
theorem wpList_storeNewA {w : World} {ops : Array Oper} {rest : List Oper} {op : Oper} {a : Act} {Q : Exit → Act → World → Prop} (hgd : op.guard = none) (x y : Operand) (ho : op.op = .store 35 x y)
    (hx : a.eval x = .pointer (some ⟨w.heap.size, 0, none⟩)) (s : Bool) (bs : List UInt8) (hbs : bs.length = 16) (hy : a.eval y = .agg (addrL s bs).toArray)
    (h : ∀ w', w'.rangeAt w.heap.size 0 (addrL s bs) → w.heap.size < w'.heap.size → Below w.heap.size w w' → wpList Try.prog ops Q rest (a.put op.dst undef) w') :
    wpList Try.prog ops Q (op :: rest) a (w.alloc (.cells #[.bool false, .int .u8 0, .int .u8 0, .int .u8 0, .int .u8 0, .int .u8 0, .int .u8 0, .int .u8 0, .int .u8 0, .int .u8 0, .int .u8 0, .int .u8 0, .int .u8 0, .int .u8 0, .int .u8 0, .int .u8 0, .int .u8 0] 35)) := by
  rw [zeroA]
  have hb := Blk.new w 35 (addrL false (List.replicate 16 0))
  refine wpList_storeR hgd 35 x y ho w.heap.size hx (addrL s bs) hy _ hb (by rw [addrL_len s bs hbs]; rfl) (size_addr s bs hbs) (addrL_one _ _) ?_
  have hb2 := hb.setRow_ (addrL s bs)
  exact h _ hb2.range hb2.lt (below_setRow ((Below.refl _ _).alloc (Nat.le_refl _) _) (Nat.le_refl _) _)

set_option maxRecDepth 100000 in
set_option maxHeartbeats 4000000 in
theorem awake_any (w : World) : Calls Try.prog 9 #[] w fun e w' => e = .returned (.bool true) ∧ Below w.heap.size w w' := by
  obtain ⟨Z, hZ⟩ : ∃ Z : World, w.alloc (.cells (BS.map v8).toArray 5) = Z := ⟨_, rfl⟩
  have hB0 : Below w.heap.size w Z := by rw [← hZ]; exact (Below.refl w.heap.size w).alloc (Nat.le_refl _) _
  have hI0 : Rd Z Z.heap.size (some ⟨w.heap.size, 0, none⟩) 8 BS := by rw [← hZ]; exact (Rd.laid w BS 8 rfl).more (by simp)
  have HZ : Hid (w.alloc (.cells #[.int .u8 0, .int .u8 1, .int .u8 0, .int .u8 2, .int .u8 0, .int .u8 8, .int .u8 0, .int .u8 0] 5) = Z) := Lib.hid hZ
  have HI0 := Lib.hid hI0
  have HB0 := Lib.hid hB0
  have R17 := Lib.hid (fun W (hB : Below Z.heap.size Z W) => read_any (cap := 8) (xs := BS) 17 (by omega) (Nat.le_refl 8) (small_max (by omega)) W ((hI0.below hB).more hB.size))
  have R6 := Lib.hid (fun W (hB : Below Z.heap.size Z W) => read_any (cap := 8) (xs := BS) 6 (by omega) (Nat.le_refl 8) (small_max (by omega)) W ((hI0.below hB).more hB.size))
  have R1 := Lib.hid (fun W (hB : Below Z.heap.size Z W) => read_any (cap := 8) (xs := BS) 1 (by omega) (Nat.le_refl 8) (small_max (by omega)) W ((hI0.below hB).more hB.size))
  have RF := Lib.hid (fun W (hB : Below Z.heap.size Z W) => fill_any false AS AS rfl rfl (cap := 8) (xs := BS) (by omega) (Nat.le_refl 8) (small_max (by omega)) W ((hI0.below hB).more hB.size) true bs_fault)
  have RR := Lib.hid (fun W (hB : Below Z.heap.size Z W) => right_any false AS AS rfl rfl (cap := 8) (xs := BS) (by omega) (Nat.le_refl 8) (small_max (by omega)) W ((hI0.below hB).more hB.size) true bs_fault)
  have RC := Lib.hid (fun (A : Option Addr) (c : Nat) (h1 : 8 ≤ c) (h2 : c ≤ maxLen) W (hI : Rd W W.heap.size A 8 CS) => right_any false AS AS rfl rfl (cap := c) (xs := CS) (by omega) h1 h2 W hI true cs_fault)
  rw [bs_read, bs_fault] at R17
  rw [rdP_no (n := 6) (xs := BS) (by rw [bs_t]; decide), bs_t] at R6
  rw [rdP_no (n := 1) (xs := BS) (by rw [bs_n]; decide), bs_n] at R1
  rw [bs_fill] at RF
  rw [bs_right] at RR
  rw [cs_right] at RC
  obtain ⟨CA, hCA⟩ : ∃ C, addrC false AS = C := ⟨_, rfl⟩
  rw [hCA] at RF RR RC
  have HCA := Lib.hid hCA
  clear hZ hB0 hI0 hCA
  go_enter Try.func9, Try.ntmps9
  go_wp2_with fail
  rw [HZ.out]
  refine (R17.out _ (Below.refl _ _)).mono ?_
  rintro e w1 ⟨rfl, hb1⟩
  have HB1 := Lib.hid hb1
  clear hb1
  go_wp2_with ((with_reducible show wpList _ _ _ _ _ _); refine wpList_storeNew rfl _ _ rfl (by rfl) ⟨1, 2, 0, 8, 8⟩ (by rfl) ?_; intro w2 hp2 hb2 hz2; clear hz2; have HB2 := Lib.hid (HB1.out.trans (hb2.mono HB1.out.size)); have HP2 := Lib.hid hp2; clear hp2 hb2)
  refine (R6.out _ HB2.out).mono ?_
  rintro e w3 ⟨rfl, hb3⟩
  have HB3 := Lib.hid (HB2.out.trans (hb3.mono HB2.out.size))
  have HP3 := Lib.hid (HP2.out.below HP2.out.lt hb3)
  clear hb3
  go_wp2_with ((with_reducible show wpList _ _ _ _ _ _); refine wpList_storeNew rfl _ _ rfl (by rfl) Po.zero (by rfl) ?_; intro w4 hp4 hb4 hz4; clear hz4 hp4; have HB4 := Lib.hid (HB3.out.trans (hb4.mono HB3.out.size)); have HP4 := Lib.hid (HP3.out.below HP3.out.lt hb4); clear hb4)
  refine (R1.out _ HB4.out).mono ?_
  rintro e w5 ⟨rfl, hb5⟩
  have HB5 := Lib.hid (HB4.out.trans (hb5.mono HB4.out.size))
  have HP5 := Lib.hid (HP4.out.below HP4.out.lt hb5)
  clear hb5
  go_wp2_with (first
    | ((with_reducible show wpList _ _ _ _ _ _); refine wpList_storeNew rfl _ _ rfl (by rfl) Po.zero (by rfl) ?_; intro w6 hp6 hb6 hz6; clear hz6 hp6; have HB6 := Lib.hid (HB5.out.trans (hb6.mono HB5.out.size)); have HP6 := Lib.hid (HP5.out.below HP5.out.lt hb6); clear hb6)
    | ((with_reducible show wpList _ _ _ _ _ _); refine wpList_buildTo rfl 33 _ rfl (some 26) rfl (AS.map v8).toArray (by kernel_rfl) ?_)
    | ((with_reducible show wpList _ _ _ _ _ _); refine wpList_buildTo rfl 35 _ rfl (some 27) rfl (addrL false AS).toArray (by kernel_rfl) ?_)
    | ((with_reducible show wpList _ _ _ _ _ _); refine wpList_storeNewA rfl _ _ rfl (by rfl) false AS rfl (by rfl) ?_; intro w7 hk7 hg7 hb7; have HB7 := Lib.hid (HB6.out.trans (hb7.mono HB6.out.size)); have HP7 := Lib.hid (HP6.out.below HP6.out.lt hb7); have HK7 := Lib.hid hk7; have HG7 := Lib.hid hg7; clear hk7 hg7 hb7)
    | ((with_reducible show wpList _ _ _ _ _ _); refine wpList_loadC (op := ⟨some 28, _, _, _, _, _⟩) _ rfl (by rfl) w6.heap.size (by rfl) false AS rfl HK7.out CA HCA.out ?_)
    | ((with_reducible show wpList _ _ _ _ _ _); refine wpList_loadC (op := ⟨some 29, _, _, _, _, _⟩) _ rfl (by rfl) w6.heap.size (by rfl) false AS rfl HK7.out CA HCA.out ?_))
  refine (RF.out _ HB7.out).mono ?_
  rintro e w8 ⟨v8, rfl, ho8, hb8⟩
  obtain ⟨g8, c8, rfl, hnc8, hcm8, _, _, hrd8⟩ := ho8.formG (n := 8) rfl (by omega)
  have HB8 := Lib.hid (HB7.out.trans (hb8.mono HB7.out.size))
  have HP8 := Lib.hid (HP7.out.below HP7.out.lt hb8)
  have HK8 := Lib.hid (range_keep HK7.out HG7.out hb8)
  have HG8 := Lib.hid (Nat.lt_of_lt_of_le HG7.out hb8.size)
  have HD8 := Lib.hid hrd8
  clear ho8 hb8 hrd8
  go_wp2_with (first
    | ((with_reducible show wpList _ _ _ _ _ _); refine wpList_loadP _ rfl (by rfl) w1.heap.size (by rfl) _ HP8.out ?_)
    | ((with_reducible show wpList _ _ _ _ _ _); refine wpList_buildw 25 _ rfl (by rfl) _ (by kernel_rfl) (poL ⟨1, 2, 0, 8, 8⟩).toArray (by kernel_rfl) ?_)
    | ((with_reducible show wpList _ _ _ _ _ _); refine wpList_eqlw 25 _ _ _ rfl (by rfl) (poL ⟨1, 2, 0, 8, 8⟩).toArray (poL ⟨1, 2, 0, 8, 8⟩).toArray (by rfl) (by rfl) guard_po true (fun w => run_eql_po w _) ?_)
    | ((with_reducible show wpList _ _ _ _ _ _); refine wpList_loadC (op := ⟨some 48, _, _, _, _, _⟩) _ rfl (by rfl) w6.heap.size (by rfl) false AS rfl HK8.out CA HCA.out ?_)
    | ((with_reducible show wpList _ _ _ _ _ _); refine wpList_loadC (op := ⟨some 49, _, _, _, _, _⟩) _ rfl (by rfl) w6.heap.size (by rfl) false AS rfl HK8.out CA HCA.out ?_))
  refine (RR.out _ HB8.out).mono ?_
  rintro e w9 ⟨rfl, hb9⟩
  have HB9 := Lib.hid (HB8.out.trans (hb9.mono HB8.out.size))
  have HK9 := Lib.hid (range_keep HK8.out HG8.out hb9)
  have HD9 := Lib.hid ((HD8.out.below hb9).more hb9.size)
  clear hb9
  go_wp2_with (first
    | ((with_reducible show wpList _ _ _ _ _ _); refine wpList_loadC (op := ⟨some 59, _, _, _, _, _⟩) _ rfl (by rfl) w6.heap.size (by rfl) false AS rfl HK9.out CA HCA.out ?_)
    | ((with_reducible show wpList _ _ _ _ _ _); refine wpList_loadC (op := ⟨some 60, _, _, _, _, _⟩) _ rfl (by rfl) w6.heap.size (by rfl) false AS rfl HK9.out CA HCA.out ?_))
  refine (RC.out _ c8 hnc8 hcm8 _ HD9.out).mono ?_
  rintro e w10 ⟨rfl, hb10⟩
  have HB10 := Lib.hid (HB9.out.trans (hb10.mono HB9.out.size))
  have c6 := (HD9.out.below hb10).cell (k := 6) (by omega)
  rw [show (CS[6]'(by decide)).toNat = 247 from rfl] at c6
  clear hb10
  go_wp2_with fail
  refine (place_any 6 _).mono ?_
  rintro e w' ⟨rfl, rfl⟩
  rw [show plcI 6 = 16 from rfl]
  go_wp2_with fail
  go_ret
  exact ⟨rfl, HB0.out.trans (HB10.out.mono HB0.out.size)⟩
end Go.Proofs.Ytgjjepcjdekihaa
