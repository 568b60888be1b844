/-
  PROVED HERE: 'TunnelLongSaid': whatever the number n and the truth values inner and outer are, the Go function TunnelLong of package wayleavelaw13 returns true, and its arguments read behind the call as they read before. No condition.
-/
import Derived.Deep.DeepCutAuto
import Derived.Test.YtomkfcpellcncaaTSup
import Derived.Test.YtomkfcpellcncaaTAwake
namespace Go.Proofs.Ytomkfcpellcncaa
set_option maxRecDepth 100000
open Go.RowKit Go.Lib Go.ChangeShapes Go.WideShapes Go.ChangeAt

/-- IPv6's address 1 and noughts; the tuple of the statement's frame. -/
def I6 : Ad := ⟨true, [1, 0, 0, 0, 0, 0, 0, 0, 0, 0, 0, 0, 0, 0, 0, 0]⟩
def SI (z : Ad) : Tu := ⟨z, z, 17, 0, 0⟩
theorem long_ok (z : Ad) (hz : z = AA ∨ z = I6) : MakeOk Lk.zero (SI z) 0 := by
  rcases hz with rfl | rfl <;> exact ⟨by decide, by decide, .inr rfl, by decide, by decide, by decide, by decide, by decide, by decide, fun _ => rfl⟩
theorem long_math {i o : Ad} (hi : i = AA ∨ i = I6) (ho : o = AA ∨ o = I6) {load : List UInt8} {K : Nat} (hK : lenT i + (8 + load.length) = K) (hb : K ≤ if i.six = true then 65575 else 65535) :
    (makeK Lk.zero (SI i) 0 load).length = 14 + K ∧ (K ≤ mostT o → wrapE (makeK Lk.zero (SI i) 0 load) o o = 0) ∧ (¬ K ≤ mostT o → wrapE (makeK Lk.zero (SI i) 0 load) o o = 4) ∧ (wrapL (makeK Lk.zero (SI i) 0 load) o o).length = 14 + (lenT o + K) := by
  have hil : i.b.length = 16 := by rcases hi with rfl | rfl <;> rfl
  have hol : o.b.length = 16 := by rcases ho with rfl | rfl <;> rfl
  have hih : ihN (SI i) = lenT i := rfl
  have hsh : shN_ (SI i) = 8 := rfl
  have h := made_read zero_six (t := SI i) ⟨hil, hil⟩ (long_ok i hi) (p := 17) rfl (load := load) (by rw [hih, hsh, hK]; exact hb) []
  rw [List.append_nil, hih, hsh, hK] at h
  obtain ⟨_, _, _, h4, h5⟩ := h
  have hfam : famB o o = true := by rcases ho with rfl | rfl <;> rfl
  refine ⟨?_, fun hm => ?_, fun hm => ?_, ?_⟩
  · rw [makeK_len zero_six ⟨hil, hil⟩, hih, hsh, hK]; rfl
  · unfold wrapE
    rw [h5, hfam]
    show (if (0 : Nat) ≠ 0 then 3 else if true = false then 1 else if mostT o < K then 4 else 0) = 0
    rw [if_neg (by omega), if_neg (by decide), if_neg (by omega)]
  · unfold wrapE
    rw [h5, hfam]
    show (if (0 : Nat) ≠ 0 then 3 else if true = false then 1 else if mostT o < K then 4 else 0) = 4
    rw [if_neg (by omega), if_neg (by decide), if_pos (by omega)]
  · rw [wrapL_len hol hol (by rw [h5]), h5, h4]
    rfl
set_option maxHeartbeats 16000000 in
theorem long_00 (n : Nat) (hn : n < 65536) (w : World) : Calls Try.prog 7 #[.int .u16 (n : Int), .bool false, .bool false] w fun e w' => e = .returned (.bool true) ∧ Below w.heap.size w w' := by
  obtain ⟨r, hr⟩ : ∃ r, n % 96 = r := ⟨_, rfl⟩
  have hr96 : r < 96 := by omega
  have hmod : Int.tmod (n : Int) 96 = (r : Int) := by rw [Int.tmod_eq_emod_of_nonneg (by omega)]; omega
  obtain ⟨K, hK⟩ : ∃ K, 65480 + r = K := ⟨_, rfl⟩
  have hwu : IntKind.u16.wrap (r : Int) = (r : Int) := by rw [IntKind.wrap_u16]; omega
  have hwi : IntKind.i64.wrap (r : Int) = (r : Int) := by rw [IntKind.wrap_i64]; omega
  have hwk : IntKind.i64.wrap (65480 + (r : Int)) = (K : Int) := by rw [IntKind.wrap_i64]; omega
  have HR := Lib.hid (show 65480 ≤ K ∧ K ≤ 65575 by omega)
  clear hr hr96 hn hK
  by_cases hbig : 65535 < K
  case pos =>
    have hg1 : (65535 : Int) < (K : Int) := by omega
    have hg2 : decide ((65535 : Int) < (K : Int)) = true := decide_eq_true hg1
    clear hbig
    go_enter Try.func7, Try.ntmps7
    go_wp2_with fail
    refine (awake_any _).mono ?_
    rintro e w1 ⟨rfl, hb1⟩
    have HB1 := Lib.hid hb1
    clear hb1
    go_wp2_with (first
      | ((with_reducible show wpList _ _ _ (⟨some 18, _, _, _, _, _⟩ :: _) _ _); refine wpList_buildw (op := ⟨some 18, _, _, _, _, _⟩) 23 _ rfl (by rfl) _ (by kernel_rfl) (AA.b.map v8).toArray (by kernel_rfl) ?_)
      | ((with_reducible show wpList _ _ _ (⟨some 19, _, _, _, _, _⟩ :: _) _ _); refine wpList_buildw (op := ⟨some 19, _, _, _, _, _⟩) 25 _ rfl (by rfl) _ (by kernel_rfl) (adL AA).toArray (by kernel_rfl) ?_)
      | ((with_reducible show wpList _ _ _ (⟨none, .store 25 (.tmp 7) (.tmp 19), _, _, _, _⟩ :: _) _ _); refine wpList_storeNewG (op := ⟨none, .store 25 (.tmp 7) (.tmp 19), _, _, _, _⟩) rfl 25 _ _ rfl (by rfl) (adL AA) (by rfl) (by rfl) (sizeAdL rfl) (adL_one _) ?_; intro w2 hq_ hb_ hz_; clear hz_; have HI2 := Lib.hid hq_; have HB2 := Lib.hid (HB1.out.trans (hb_.mono HB1.out.size)); have HG1 := Lib.hid HB1.out.size; clear hq_ hb_; generalize w1.heap.size = G1 at HI2 HG1 ⊢)
      | ((with_reducible show wpList _ _ _ (⟨some 20, _, _, _, _, _⟩ :: _) _ _); refine wpList_buildw (op := ⟨some 20, _, _, _, _, _⟩) 23 _ rfl (by rfl) _ (by kernel_rfl) (AA.b.map v8).toArray (by kernel_rfl) ?_)
      | ((with_reducible show wpList _ _ _ (⟨some 21, _, _, _, _, _⟩ :: _) _ _); refine wpList_buildw (op := ⟨some 21, _, _, _, _, _⟩) 25 _ rfl (by rfl) _ (by kernel_rfl) (adL AA).toArray (by kernel_rfl) ?_)
      | ((with_reducible show wpList _ _ _ (⟨none, .store 25 (.tmp 8) (.tmp 21), _, _, _, _⟩ :: _) _ _); refine wpList_storeNewG (op := ⟨none, .store 25 (.tmp 8) (.tmp 21), _, _, _, _⟩) rfl 25 _ _ rfl (by rfl) (adL AA) (by rfl) (by rfl) (sizeAdL rfl) (adL_one _) ?_; intro w3 hq_ hb_ hz_; clear hz_; have HO3 := Lib.hid hq_; have HB3 := Lib.hid (HB2.out.trans (hb_.mono HB2.out.size)); have HI3 := Lib.hid (HI2.out.below HI2.out.lt hb_); have HG2 := Lib.hid HI2.out.lt; have HG3 := Lib.hid HB2.out.size; clear hq_ hb_; generalize w2.heap.size = G2 at HO3 HG2 HG3 ⊢))
    go_ret
    exact ⟨rfl, HB3.out⟩
  have hg1 : ¬ (65535 : Int) < (K : Int) := by omega
  have hg2 : decide ((65535 : Int) < (K : Int)) = false := decide_eq_false hg1
  have HKB := Lib.hid (show K ≤ if AA.six = true then 65575 else 65535 by show K ≤ 65535; omega)
  obtain ⟨M, hM⟩ : ∃ M, K - 20 - 8 = M := ⟨_, rfl⟩
  obtain ⟨K1, hK1⟩ : ∃ K1, K - 20 = K1 := ⟨_, rfl⟩
  have hRR := HR.out
  have hw1 : IntKind.i64.wrap ((K : Int) - 20) = (K1 : Int) := by rw [IntKind.wrap_i64]; omega
  have hw2 : IntKind.i64.wrap ((K1 : Int) - 8) = (M : Int) := by rw [IntKind.wrap_i64]; omega
  have HW1 := Lib.hid hw1
  have HW2 := Lib.hid hw2
  obtain ⟨FL, hFL⟩ : ∃ FL, 14 + K = FL := ⟨_, rfl⟩
  obtain ⟨XL, hXL⟩ : ∃ XL, 34 + K = XL := ⟨_, rfl⟩
  have HW3 := Lib.hid (show IntKind.i64.wrap (14 + (K : Int)) = (FL : Int) by rw [IntKind.wrap_i64]; omega)
  have HW4 := Lib.hid (show IntKind.i64.wrap (34 + (K : Int)) = (XL : Int) by rw [IntKind.wrap_i64]; omega)
  have HML := Lib.hid (show M ≤ 1000000 by omega)
  have HMK := Lib.hid (run_make8 M M (Nat.le_refl _) (by omega))
  obtain ⟨zs, hzs⟩ : ∃ zs, List.replicate M (0 : UInt8) = zs := ⟨_, rfl⟩
  obtain ⟨C, hC⟩ : ∃ C, madeCells #[.int .u8 0] M = C := ⟨_, rfl⟩
  have HZL := Lib.hid (show zs.length = M by rw [← hzs, List.length_replicate])
  have HCC := Lib.hid (show C = (zs.map v8).toArray by rw [← hC, ← hzs]; exact madeCells8 M)
  rw [hC] at HMK
  have hLM := long_math (i := AA) (o := AA) (by exact .inl rfl) (by exact .inl rfl) (load := zs) (K := K) (by rw [HZL.out]; show 20 + (8 + M) = K; omega) HKB.out
  have HMA := Lib.hid (fun (W : World) (B : Option Addr) (cb : Nat) (hR : Rd W W.heap.size B M zs) => rmake_U4 zero_six (A := none) (n := 0) (cap := 0) (by omega) (t := SI AA) ⟨rfl, rfl⟩ (long_ok AA (by exact .inl rfl)) (B := B) (len := M) (cb := cb) (load := zs) (by show 20 + (8 + M) ≤ _; omega) W (TagsAt.nil_ none) hR rfl rfl)
  obtain ⟨F, hF⟩ : ∃ F, makeK Lk.zero (SI AA) 0 zs = F := ⟨_, rfl⟩
  rw [hF] at HMA hLM
  have HFL := Lib.hid (show F.length = FL from hLM.1.trans hFL)
  have HXLL := Lib.hid (show (wrapL F AA AA).length = XL by rw [hLM.2.2.2]; show 14 + (20 + K) = XL; omega)
  have HE0 := Lib.hid (show K ≤ 65515 → wrapE F AA AA = 0 from hLM.2.1)
  have HE4 := Lib.hid (show ¬ K ≤ 65515 → wrapE F AA AA = 4 from hLM.2.2.1)
  have HFB := Lib.hid (show FL ≤ 900000 by omega)
  clear hM hK1 hRR hw1 hw2 hFL hXL hzs hC hLM hF HKB hbig 
  go_enter Try.func7, Try.ntmps7
  go_wp2_with fail
  refine (awake_any _).mono ?_
  rintro e w1 ⟨rfl, hb1⟩
  have HB1 := Lib.hid hb1
  clear hb1
  go_upto_region 18 with (first
    | ((with_reducible show wpList _ _ _ (⟨some 18, _, _, _, _, _⟩ :: _) _ _); refine wpList_buildw (op := ⟨some 18, _, _, _, _, _⟩) 23 _ rfl (by rfl) _ (by kernel_rfl) (AA.b.map v8).toArray (by kernel_rfl) ?_)
    | ((with_reducible show wpList _ _ _ (⟨some 19, _, _, _, _, _⟩ :: _) _ _); refine wpList_buildw (op := ⟨some 19, _, _, _, _, _⟩) 25 _ rfl (by rfl) _ (by kernel_rfl) (adL AA).toArray (by kernel_rfl) ?_)
    | ((with_reducible show wpList _ _ _ (⟨none, .store 25 (.tmp 7) (.tmp 19), _, _, _, _⟩ :: _) _ _); refine wpList_storeNewG (op := ⟨none, .store 25 (.tmp 7) (.tmp 19), _, _, _, _⟩) rfl 25 _ _ rfl (by rfl) (adL AA) (by rfl) (by rfl) (sizeAdL rfl) (adL_one _) ?_; intro w2 hq_ hb_ hz_; clear hz_; have HI2 := Lib.hid hq_; have HB2 := Lib.hid (HB1.out.trans (hb_.mono HB1.out.size)); have HG1 := Lib.hid HB1.out.size; clear hq_ hb_; generalize w1.heap.size = G1 at HI2 HG1 ⊢)
    | ((with_reducible show wpList _ _ _ (⟨some 20, _, _, _, _, _⟩ :: _) _ _); refine wpList_buildw (op := ⟨some 20, _, _, _, _, _⟩) 23 _ rfl (by rfl) _ (by kernel_rfl) (AA.b.map v8).toArray (by kernel_rfl) ?_)
    | ((with_reducible show wpList _ _ _ (⟨some 21, _, _, _, _, _⟩ :: _) _ _); refine wpList_buildw (op := ⟨some 21, _, _, _, _, _⟩) 25 _ rfl (by rfl) _ (by kernel_rfl) (adL AA).toArray (by kernel_rfl) ?_)
    | ((with_reducible show wpList _ _ _ (⟨none, .store 25 (.tmp 8) (.tmp 21), _, _, _, _⟩ :: _) _ _); refine wpList_storeNewG (op := ⟨none, .store 25 (.tmp 8) (.tmp 21), _, _, _, _⟩) rfl 25 _ _ rfl (by rfl) (adL AA) (by rfl) (by rfl) (sizeAdL rfl) (adL_one _) ?_; intro w3 hq_ hb_ hz_; clear hz_; have HO3 := Lib.hid hq_; have HB3 := Lib.hid (HB2.out.trans (hb_.mono HB2.out.size)); have HI3 := Lib.hid (HI2.out.below HI2.out.lt hb_); have HG2 := Lib.hid HI2.out.lt; have HG3 := Lib.hid HB2.out.size; clear hq_ hb_; generalize w2.heap.size = G2 at HO3 HG2 HG3 ⊢))
  clear hmod hwu hwi hwk hg1 hg2
  refine wp_region_held_drew (S := fun W => Below w3.heap.size w3 W) (by kernel_rfl) ((Below.refl _ _).drew) (fun hHeld => ?_)
  obtain ⟨V, hV⟩ : ∃ V, w3.drew = V := ⟨_, rfl⟩
  rw [hV] at hHeld ⊢
  clear hV
  refine tkY 0 38 (lkC Lk.zero (.slice none 0 0)) rfl (yields_build (by rfl) 41 _ rfl [] (by kernel_rfl) _ built_lk0) hHeld ?_
  simp only [Act.put, sA, sZ, sS]
  refine tkY 1 39 (.agg (adL AA).toArray) rfl (yieldsIf_load_mid (by rfl) 25 _ rfl G1 0 rfl (adL AA) _ (fun W hW => Blk_10.range (HI3.out.below HI3.out.lt hW)) Try.underlying25 rfl (sizeAdL rfl)) hHeld ?_
  simp only [Act.put, sA, sZ, sS]
  refine tkY 2 40 (.agg (adL AA).toArray) rfl (yieldsIf_load_mid (by rfl) 25 _ rfl G1 0 rfl (adL AA) _ (fun W hW => Blk_10.range (HI3.out.below HI3.out.lt hW)) Try.underlying25 rfl (sizeAdL rfl)) hHeld ?_
  simp only [Act.put, sA, sZ, sS]
  refine tkY 3 41 (tuC (SI AA)) rfl (yields_build (by rfl) 51 _ rfl [(0, adC AA), (1, adC AA), (2, .int .i64 17)] (by kernel_rfl) _ (by kernel_rfl)) hHeld ?_
  simp only [Act.put, sA, sZ, sS]
  refine tk 4 42 (.int .i64 (K : Int)) rfl hHeld ?_
  simp only [Act.put, sA, sZ, sS]
  refine tk 5 43 (.int .i64 20) rfl hHeld ?_
  simp only [Act.put, sA, sZ, sS]
  refine tkY 6 44 (.int .i64 (K1 : Int)) rfl (Or.inl ⟨by rfl, fun W _ => by have h_ := HW1.out; go_simp⟩) hHeld ?_
  simp only [Act.put, sA, sZ, sS]
  refine tkY 7 45 (.int .i64 (M : Int)) rfl (Or.inl ⟨by rfl, fun W _ => by have h_ := HW2.out; go_simp⟩) hHeld ?_
  simp only [Act.put, sA, sZ, sS]
  refine wpAnyH_ready (rs := [8]) (by kernel_rfl) (by simp) (AllReadyH.cons (o := ⟨some 46, _, _, _, _, _⟩) rfl (fun K hK => ?_) AllReadyH.nil)
  have hmk := HMK.out V
  go_simp
  have HH := Lib.hid (hHeld.alloc hHeld.size (.cells C 5))
  have HZR := Lib.hid (show Row8 (V.alloc (.cells C 5)) V.heap.size zs from by rw [HCC.out]; exact heap_alloc_new V _)
  generalize V.alloc (.cells C 5) = V2 at HH HZR ⊢
  generalize V.heap.size = GZ at HZR ⊢
  refine hK.out _ _ (HH.out) (fun hHeld => ?_)
  clear hK K hmk
  have HMC := Lib.hid (HMA.out V2 (some ⟨GZ, 0, none⟩) M (HZL.out ▸ HZR.out.rd HZR.out.lt))
  refine wpAnyH_ready (rs := [9]) (by kernel_rfl) (by simp) (AllReadyH.cons (o := ⟨some 47, _, _, _, _, _⟩) rfl (fun K hK => ?_) AllReadyH.nil)
  go_simp
  refine HMC.out.mono ?_
  rintro e w6 ⟨v6, rfl, ho6, hb6⟩
  obtain ⟨A6, c6, rfl, h61, h62, hr6⟩ := ho6.formN HFL.out
  have TO := Lib.hid (twrap_any A6 FL c6 F (s := AA) (d := AA) rfl rfl HFB.out h61 h62 w6 hr6)
  have HH6 := Lib.hid (HH.out.trans (hb6.mono HH.out.size))
  refine hK.out _ _ (HH6.out) (fun hHeld => ?_)
  clear hK K ho6 hb6 h61 h62 hr6
  refine tk 10 13 (.slice A6 FL c6) rfl hHeld ?_
  simp only [Act.put, sA, sZ, sS]
  refine wpAnyH_done (by kernel_rfl) ?_ _
  clear hHeld
  have HB6 := Lib.hid (HB3.out.trans (HH6.out.mono HB3.out.size))
  go_wp2_with (first
    | ((with_reducible show wpList _ _ _ (⟨some 50, _, _, _, _, _⟩ :: _) _ _); refine wpList_loadM (op := ⟨some 50, _, _, _, _, _⟩) 25 _ rfl (by rfl) G2 0 (by rfl) (adL AA) (Blk_10.range (HO3.out.below HO3.out.lt HH6.out)) _ Try.underlying25 rfl (sizeAdL rfl) ?_)
    | ((with_reducible show wpList _ _ _ (⟨some 51, _, _, _, _, _⟩ :: _) _ _); refine wpList_loadM (op := ⟨some 51, _, _, _, _, _⟩) 25 _ rfl (by rfl) G2 0 (by rfl) (adL AA) (Blk_10.range (HO3.out.below HO3.out.lt HH6.out)) _ Try.underlying25 rfl (sizeAdL rfl) ?_))
  refine TO.out.mono ?_
  rintro e w7 ⟨hy, hno, hb7⟩
  have HB7 := Lib.hid (HB6.out.trans (hb7.mono HB6.out.size))
  clear hb7
  by_cases hm : K ≤ 65515
  · have e0 := HE0.out hm
    obtain ⟨v, rfl, ho⟩ := hy e0
    obtain ⟨A7, c7, rfl, _, _, _⟩ := ho.formN HXLL.out
    have hg1 : ¬ (65515 : Int) < (K : Int) := by omega
    have hg2 : decide ((65515 : Int) < (K : Int)) = false := decide_eq_false hg1
    have hw3 := HW3.out
    have hw4 := HW4.out
    clear hy hno ho hm e0
    go_wp2_with fail
    go_ret
    exact ⟨rfl, HB7.out⟩
  · have e4 := HE4.out hm
    have hx := hno (by rw [e4]; decide)
    rw [e4] at hx
    subst hx
    have hg1 : (65515 : Int) < (K : Int) := by omega
    have hg2 : decide ((65515 : Int) < (K : Int)) = true := decide_eq_true hg1
    clear hy hno hm e4
    go_wp2_with fail
    go_ret
    exact ⟨rfl, HB7.out⟩
set_option maxHeartbeats 16000000 in
theorem long_01 (n : Nat) (hn : n < 65536) (w : World) : Calls Try.prog 7 #[.int .u16 (n : Int), .bool false, .bool true] w fun e w' => e = .returned (.bool true) ∧ Below w.heap.size w w' := by
  obtain ⟨r, hr⟩ : ∃ r, n % 96 = r := ⟨_, rfl⟩
  have hr96 : r < 96 := by omega
  have hmod : Int.tmod (n : Int) 96 = (r : Int) := by rw [Int.tmod_eq_emod_of_nonneg (by omega)]; omega
  obtain ⟨K, hK⟩ : ∃ K, 65480 + r = K := ⟨_, rfl⟩
  have hwu : IntKind.u16.wrap (r : Int) = (r : Int) := by rw [IntKind.wrap_u16]; omega
  have hwi : IntKind.i64.wrap (r : Int) = (r : Int) := by rw [IntKind.wrap_i64]; omega
  have hwk : IntKind.i64.wrap (65480 + (r : Int)) = (K : Int) := by rw [IntKind.wrap_i64]; omega
  have HR := Lib.hid (show 65480 ≤ K ∧ K ≤ 65575 by omega)
  clear hr hr96 hn hK
  by_cases hbig : 65535 < K
  case pos =>
    have hg1 : (65535 : Int) < (K : Int) := by omega
    have hg2 : decide ((65535 : Int) < (K : Int)) = true := decide_eq_true hg1
    clear hbig
    go_enter Try.func7, Try.ntmps7
    go_wp2_with fail
    refine (awake_any _).mono ?_
    rintro e w1 ⟨rfl, hb1⟩
    have HB1 := Lib.hid hb1
    clear hb1
    go_wp2_with (first
      | ((with_reducible show wpList _ _ _ (⟨some 18, _, _, _, _, _⟩ :: _) _ _); refine wpList_buildw (op := ⟨some 18, _, _, _, _, _⟩) 23 _ rfl (by rfl) _ (by kernel_rfl) (AA.b.map v8).toArray (by kernel_rfl) ?_)
      | ((with_reducible show wpList _ _ _ (⟨some 19, _, _, _, _, _⟩ :: _) _ _); refine wpList_buildw (op := ⟨some 19, _, _, _, _, _⟩) 25 _ rfl (by rfl) _ (by kernel_rfl) (adL AA).toArray (by kernel_rfl) ?_)
      | ((with_reducible show wpList _ _ _ (⟨none, .store 25 (.tmp 7) (.tmp 19), _, _, _, _⟩ :: _) _ _); refine wpList_storeNewG (op := ⟨none, .store 25 (.tmp 7) (.tmp 19), _, _, _, _⟩) rfl 25 _ _ rfl (by rfl) (adL AA) (by rfl) (by rfl) (sizeAdL rfl) (adL_one _) ?_; intro w2 hq_ hb_ hz_; clear hz_; have HI2 := Lib.hid hq_; have HB2 := Lib.hid (HB1.out.trans (hb_.mono HB1.out.size)); have HG1 := Lib.hid HB1.out.size; clear hq_ hb_; generalize w1.heap.size = G1 at HI2 HG1 ⊢)
      | ((with_reducible show wpList _ _ _ (⟨some 20, _, _, _, _, _⟩ :: _) _ _); refine wpList_buildw (op := ⟨some 20, _, _, _, _, _⟩) 23 _ rfl (by rfl) _ (by kernel_rfl) (AA.b.map v8).toArray (by kernel_rfl) ?_)
      | ((with_reducible show wpList _ _ _ (⟨some 21, _, _, _, _, _⟩ :: _) _ _); refine wpList_buildw (op := ⟨some 21, _, _, _, _, _⟩) 25 _ rfl (by rfl) _ (by kernel_rfl) (adL AA).toArray (by kernel_rfl) ?_)
      | ((with_reducible show wpList _ _ _ (⟨none, .store 25 (.tmp 8) (.tmp 21), _, _, _, _⟩ :: _) _ _); refine wpList_storeNewG (op := ⟨none, .store 25 (.tmp 8) (.tmp 21), _, _, _, _⟩) rfl 25 _ _ rfl (by rfl) (adL AA) (by rfl) (by rfl) (sizeAdL rfl) (adL_one _) ?_; intro w3 hq_ hb_ hz_; clear hz_; have HO3 := Lib.hid hq_; have HB3 := Lib.hid (HB2.out.trans (hb_.mono HB2.out.size)); have HI3 := Lib.hid (HI2.out.below HI2.out.lt hb_); have HG2 := Lib.hid HI2.out.lt; have HG3 := Lib.hid HB2.out.size; clear hq_ hb_; generalize w2.heap.size = G2 at HO3 HG2 HG3 ⊢)
      | ((with_reducible show wpList _ _ _ (⟨some 26, _, _, _, _, _⟩ :: _) _ _); refine wpList_buildw (op := ⟨some 26, _, _, _, _, _⟩) 23 _ rfl (by rfl) _ (by kernel_rfl) (I6.b.map v8).toArray (by kernel_rfl) ?_)
      | ((with_reducible show wpList _ _ _ (⟨some 27, _, _, _, _, _⟩ :: _) _ _); refine wpList_buildw (op := ⟨some 27, _, _, _, _, _⟩) 25 _ rfl (by rfl) _ (by kernel_rfl) (adL I6).toArray (by kernel_rfl) ?_)
      | ((with_reducible show wpList _ _ _ (⟨none, .store 25 (.tmp 8) (.tmp 27), _, _, _, _⟩ :: _) _ _); refine wpList_storeRG rfl 25 (.tmp 8) _ rfl G2 (by rfl) (adL I6) (by rfl) _ HO3.out (by rfl) (sizeAdL rfl) (adL_one _) ?_; intro w5 hq_ hn_ hb_; have HO5 := Lib.hid hq_; have HI5 := Lib.hid (show Blk w5 25 G1 _ from (hn_ _ (Nat.ne_of_lt HG2.out)).trans HI3.out); have HB5 := Lib.hid (HB3.out.trans (hb_.mono HG3.out)); clear hq_ hn_ hb_))
    go_ret
    exact ⟨rfl, HB5.out⟩
  have hg1 : ¬ (65535 : Int) < (K : Int) := by omega
  have hg2 : decide ((65535 : Int) < (K : Int)) = false := decide_eq_false hg1
  have HKB := Lib.hid (show K ≤ if AA.six = true then 65575 else 65535 by show K ≤ 65535; omega)
  obtain ⟨M, hM⟩ : ∃ M, K - 20 - 8 = M := ⟨_, rfl⟩
  obtain ⟨K1, hK1⟩ : ∃ K1, K - 20 = K1 := ⟨_, rfl⟩
  have hRR := HR.out
  have hw1 : IntKind.i64.wrap ((K : Int) - 20) = (K1 : Int) := by rw [IntKind.wrap_i64]; omega
  have hw2 : IntKind.i64.wrap ((K1 : Int) - 8) = (M : Int) := by rw [IntKind.wrap_i64]; omega
  have HW1 := Lib.hid hw1
  have HW2 := Lib.hid hw2
  obtain ⟨FL, hFL⟩ : ∃ FL, 14 + K = FL := ⟨_, rfl⟩
  obtain ⟨XL, hXL⟩ : ∃ XL, 54 + K = XL := ⟨_, rfl⟩
  have HW3 := Lib.hid (show IntKind.i64.wrap (14 + (K : Int)) = (FL : Int) by rw [IntKind.wrap_i64]; omega)
  have HW4 := Lib.hid (show IntKind.i64.wrap (54 + (K : Int)) = (XL : Int) by rw [IntKind.wrap_i64]; omega)
  have HML := Lib.hid (show M ≤ 1000000 by omega)
  have HMK := Lib.hid (run_make8 M M (Nat.le_refl _) (by omega))
  obtain ⟨zs, hzs⟩ : ∃ zs, List.replicate M (0 : UInt8) = zs := ⟨_, rfl⟩
  obtain ⟨C, hC⟩ : ∃ C, madeCells #[.int .u8 0] M = C := ⟨_, rfl⟩
  have HZL := Lib.hid (show zs.length = M by rw [← hzs, List.length_replicate])
  have HCC := Lib.hid (show C = (zs.map v8).toArray by rw [← hC, ← hzs]; exact madeCells8 M)
  rw [hC] at HMK
  have hLM := long_math (i := AA) (o := I6) (by exact .inl rfl) (by exact .inr rfl) (load := zs) (K := K) (by rw [HZL.out]; show 20 + (8 + M) = K; omega) HKB.out
  have HMA := Lib.hid (fun (W : World) (B : Option Addr) (cb : Nat) (hR : Rd W W.heap.size B M zs) => rmake_U4 zero_six (A := none) (n := 0) (cap := 0) (by omega) (t := SI AA) ⟨rfl, rfl⟩ (long_ok AA (by exact .inl rfl)) (B := B) (len := M) (cb := cb) (load := zs) (by show 20 + (8 + M) ≤ _; omega) W (TagsAt.nil_ none) hR rfl rfl)
  obtain ⟨F, hF⟩ : ∃ F, makeK Lk.zero (SI AA) 0 zs = F := ⟨_, rfl⟩
  rw [hF] at HMA hLM
  have HFL := Lib.hid (show F.length = FL from hLM.1.trans hFL)
  have HXLL := Lib.hid (show (wrapL F I6 I6).length = XL by rw [hLM.2.2.2]; show 14 + (40 + K) = XL; omega)
  have HE0 := Lib.hid (show K ≤ 65535 → wrapE F I6 I6 = 0 from hLM.2.1)
  have HE4 := Lib.hid (show ¬ K ≤ 65535 → wrapE F I6 I6 = 4 from hLM.2.2.1)
  have HFB := Lib.hid (show FL ≤ 900000 by omega)
  clear hM hK1 hRR hw1 hw2 hFL hXL hzs hC hLM hF HKB hbig 
  go_enter Try.func7, Try.ntmps7
  go_wp2_with fail
  refine (awake_any _).mono ?_
  rintro e w1 ⟨rfl, hb1⟩
  have HB1 := Lib.hid hb1
  clear hb1
  go_upto_region 18 with (first
    | ((with_reducible show wpList _ _ _ (⟨some 18, _, _, _, _, _⟩ :: _) _ _); refine wpList_buildw (op := ⟨some 18, _, _, _, _, _⟩) 23 _ rfl (by rfl) _ (by kernel_rfl) (AA.b.map v8).toArray (by kernel_rfl) ?_)
    | ((with_reducible show wpList _ _ _ (⟨some 19, _, _, _, _, _⟩ :: _) _ _); refine wpList_buildw (op := ⟨some 19, _, _, _, _, _⟩) 25 _ rfl (by rfl) _ (by kernel_rfl) (adL AA).toArray (by kernel_rfl) ?_)
    | ((with_reducible show wpList _ _ _ (⟨none, .store 25 (.tmp 7) (.tmp 19), _, _, _, _⟩ :: _) _ _); refine wpList_storeNewG (op := ⟨none, .store 25 (.tmp 7) (.tmp 19), _, _, _, _⟩) rfl 25 _ _ rfl (by rfl) (adL AA) (by rfl) (by rfl) (sizeAdL rfl) (adL_one _) ?_; intro w2 hq_ hb_ hz_; clear hz_; have HI2 := Lib.hid hq_; have HB2 := Lib.hid (HB1.out.trans (hb_.mono HB1.out.size)); have HG1 := Lib.hid HB1.out.size; clear hq_ hb_; generalize w1.heap.size = G1 at HI2 HG1 ⊢)
    | ((with_reducible show wpList _ _ _ (⟨some 20, _, _, _, _, _⟩ :: _) _ _); refine wpList_buildw (op := ⟨some 20, _, _, _, _, _⟩) 23 _ rfl (by rfl) _ (by kernel_rfl) (AA.b.map v8).toArray (by kernel_rfl) ?_)
    | ((with_reducible show wpList _ _ _ (⟨some 21, _, _, _, _, _⟩ :: _) _ _); refine wpList_buildw (op := ⟨some 21, _, _, _, _, _⟩) 25 _ rfl (by rfl) _ (by kernel_rfl) (adL AA).toArray (by kernel_rfl) ?_)
    | ((with_reducible show wpList _ _ _ (⟨none, .store 25 (.tmp 8) (.tmp 21), _, _, _, _⟩ :: _) _ _); refine wpList_storeNewG (op := ⟨none, .store 25 (.tmp 8) (.tmp 21), _, _, _, _⟩) rfl 25 _ _ rfl (by rfl) (adL AA) (by rfl) (by rfl) (sizeAdL rfl) (adL_one _) ?_; intro w3 hq_ hb_ hz_; clear hz_; have HO3 := Lib.hid hq_; have HB3 := Lib.hid (HB2.out.trans (hb_.mono HB2.out.size)); have HI3 := Lib.hid (HI2.out.below HI2.out.lt hb_); have HG2 := Lib.hid HI2.out.lt; have HG3 := Lib.hid HB2.out.size; clear hq_ hb_; generalize w2.heap.size = G2 at HO3 HG2 HG3 ⊢)
    | ((with_reducible show wpList _ _ _ (⟨some 26, _, _, _, _, _⟩ :: _) _ _); refine wpList_buildw (op := ⟨some 26, _, _, _, _, _⟩) 23 _ rfl (by rfl) _ (by kernel_rfl) (I6.b.map v8).toArray (by kernel_rfl) ?_)
    | ((with_reducible show wpList _ _ _ (⟨some 27, _, _, _, _, _⟩ :: _) _ _); refine wpList_buildw (op := ⟨some 27, _, _, _, _, _⟩) 25 _ rfl (by rfl) _ (by kernel_rfl) (adL I6).toArray (by kernel_rfl) ?_)
    | ((with_reducible show wpList _ _ _ (⟨none, .store 25 (.tmp 8) (.tmp 27), _, _, _, _⟩ :: _) _ _); refine wpList_storeRG rfl 25 (.tmp 8) _ rfl G2 (by rfl) (adL I6) (by rfl) _ HO3.out (by rfl) (sizeAdL rfl) (adL_one _) ?_; intro w5 hq_ hn_ hb_; have HO5 := Lib.hid hq_; have HI5 := Lib.hid (show Blk w5 25 G1 _ from (hn_ _ (Nat.ne_of_lt HG2.out)).trans HI3.out); have HB5 := Lib.hid (HB3.out.trans (hb_.mono HG3.out)); clear hq_ hn_ hb_))
  clear hmod hwu hwi hwk hg1 hg2
  refine wp_region_held_drew (S := fun W => Below w5.heap.size w5 W) (by kernel_rfl) ((Below.refl _ _).drew) (fun hHeld => ?_)
  obtain ⟨V, hV⟩ : ∃ V, w5.drew = V := ⟨_, rfl⟩
  rw [hV] at hHeld ⊢
  clear hV
  refine tkY 0 38 (lkC Lk.zero (.slice none 0 0)) rfl (yields_build (by rfl) 41 _ rfl [] (by kernel_rfl) _ built_lk0) hHeld ?_
  simp only [Act.put, sA, sZ, sS]
  refine tkY 1 39 (.agg (adL AA).toArray) rfl (yieldsIf_load_mid (by rfl) 25 _ rfl G1 0 rfl (adL AA) _ (fun W hW => Blk_10.range (HI5.out.below HI5.out.lt hW)) Try.underlying25 rfl (sizeAdL rfl)) hHeld ?_
  simp only [Act.put, sA, sZ, sS]
  refine tkY 2 40 (.agg (adL AA).toArray) rfl (yieldsIf_load_mid (by rfl) 25 _ rfl G1 0 rfl (adL AA) _ (fun W hW => Blk_10.range (HI5.out.below HI5.out.lt hW)) Try.underlying25 rfl (sizeAdL rfl)) hHeld ?_
  simp only [Act.put, sA, sZ, sS]
  refine tkY 3 41 (tuC (SI AA)) rfl (yields_build (by rfl) 51 _ rfl [(0, adC AA), (1, adC AA), (2, .int .i64 17)] (by kernel_rfl) _ (by kernel_rfl)) hHeld ?_
  simp only [Act.put, sA, sZ, sS]
  refine tk 4 42 (.int .i64 (K : Int)) rfl hHeld ?_
  simp only [Act.put, sA, sZ, sS]
  refine tk 5 43 (.int .i64 20) rfl hHeld ?_
  simp only [Act.put, sA, sZ, sS]
  refine tkY 6 44 (.int .i64 (K1 : Int)) rfl (Or.inl ⟨by rfl, fun W _ => by have h_ := HW1.out; go_simp⟩) hHeld ?_
  simp only [Act.put, sA, sZ, sS]
  refine tkY 7 45 (.int .i64 (M : Int)) rfl (Or.inl ⟨by rfl, fun W _ => by have h_ := HW2.out; go_simp⟩) hHeld ?_
  simp only [Act.put, sA, sZ, sS]
  refine wpAnyH_ready (rs := [8]) (by kernel_rfl) (by simp) (AllReadyH.cons (o := ⟨some 46, _, _, _, _, _⟩) rfl (fun K hK => ?_) AllReadyH.nil)
  have hmk := HMK.out V
  go_simp
  have HH := Lib.hid (hHeld.alloc hHeld.size (.cells C 5))
  have HZR := Lib.hid (show Row8 (V.alloc (.cells C 5)) V.heap.size zs from by rw [HCC.out]; exact heap_alloc_new V _)
  generalize V.alloc (.cells C 5) = V2 at HH HZR ⊢
  generalize V.heap.size = GZ at HZR ⊢
  refine hK.out _ _ (HH.out) (fun hHeld => ?_)
  clear hK K hmk
  have HMC := Lib.hid (HMA.out V2 (some ⟨GZ, 0, none⟩) M (HZL.out ▸ HZR.out.rd HZR.out.lt))
  refine wpAnyH_ready (rs := [9]) (by kernel_rfl) (by simp) (AllReadyH.cons (o := ⟨some 47, _, _, _, _, _⟩) rfl (fun K hK => ?_) AllReadyH.nil)
  go_simp
  refine HMC.out.mono ?_
  rintro e w6 ⟨v6, rfl, ho6, hb6⟩
  obtain ⟨A6, c6, rfl, h61, h62, hr6⟩ := ho6.formN HFL.out
  have TO := Lib.hid (twrap_any A6 FL c6 F (s := I6) (d := I6) rfl rfl HFB.out h61 h62 w6 hr6)
  have HH6 := Lib.hid (HH.out.trans (hb6.mono HH.out.size))
  refine hK.out _ _ (HH6.out) (fun hHeld => ?_)
  clear hK K ho6 hb6 h61 h62 hr6
  refine tk 10 13 (.slice A6 FL c6) rfl hHeld ?_
  simp only [Act.put, sA, sZ, sS]
  refine wpAnyH_done (by kernel_rfl) ?_ _
  clear hHeld
  have HB6 := Lib.hid (HB5.out.trans (HH6.out.mono HB5.out.size))
  go_wp2_with (first
    | ((with_reducible show wpList _ _ _ (⟨some 50, _, _, _, _, _⟩ :: _) _ _); refine wpList_loadM (op := ⟨some 50, _, _, _, _, _⟩) 25 _ rfl (by rfl) G2 0 (by rfl) (adL I6) (Blk_10.range (HO5.out.below HO5.out.lt HH6.out)) _ Try.underlying25 rfl (sizeAdL rfl) ?_)
    | ((with_reducible show wpList _ _ _ (⟨some 51, _, _, _, _, _⟩ :: _) _ _); refine wpList_loadM (op := ⟨some 51, _, _, _, _, _⟩) 25 _ rfl (by rfl) G2 0 (by rfl) (adL I6) (Blk_10.range (HO5.out.below HO5.out.lt HH6.out)) _ Try.underlying25 rfl (sizeAdL rfl) ?_))
  refine TO.out.mono ?_
  rintro e w7 ⟨hy, hno, hb7⟩
  have HB7 := Lib.hid (HB6.out.trans (hb7.mono HB6.out.size))
  clear hb7
  by_cases hm : K ≤ 65535
  · have e0 := HE0.out hm
    obtain ⟨v, rfl, ho⟩ := hy e0
    obtain ⟨A7, c7, rfl, _, _, _⟩ := ho.formN HXLL.out
    have hg1 : ¬ (65535 : Int) < (K : Int) := by omega
    have hg2 : decide ((65535 : Int) < (K : Int)) = false := decide_eq_false hg1
    have hw3 := HW3.out
    have hw4 := HW4.out
    clear hy hno ho hm e0
    go_wp2_with fail
    go_ret
    exact ⟨rfl, HB7.out⟩
  · have e4 := HE4.out hm
    have hx := hno (by rw [e4]; decide)
    rw [e4] at hx
    subst hx
    have hg1 : (65535 : Int) < (K : Int) := by omega
    have hg2 : decide ((65535 : Int) < (K : Int)) = true := decide_eq_true hg1
    clear hy hno hm e4
    go_wp2_with fail
    go_ret
    exact ⟨rfl, HB7.out⟩
set_option maxHeartbeats 16000000 in
theorem long_10 (n : Nat) (hn : n < 65536) (w : World) : Calls Try.prog 7 #[.int .u16 (n : Int), .bool true, .bool false] w fun e w' => e = .returned (.bool true) ∧ Below w.heap.size w w' := by
  obtain ⟨r, hr⟩ : ∃ r, n % 96 = r := ⟨_, rfl⟩
  have hr96 : r < 96 := by omega
  have hmod : Int.tmod (n : Int) 96 = (r : Int) := by rw [Int.tmod_eq_emod_of_nonneg (by omega)]; omega
  obtain ⟨K, hK⟩ : ∃ K, 65480 + r = K := ⟨_, rfl⟩
  have hwu : IntKind.u16.wrap (r : Int) = (r : Int) := by rw [IntKind.wrap_u16]; omega
  have hwi : IntKind.i64.wrap (r : Int) = (r : Int) := by rw [IntKind.wrap_i64]; omega
  have hwk : IntKind.i64.wrap (65480 + (r : Int)) = (K : Int) := by rw [IntKind.wrap_i64]; omega
  have HR := Lib.hid (show 65480 ≤ K ∧ K ≤ 65575 by omega)
  clear hr hr96 hn hK
  have HKB := Lib.hid (show K ≤ if I6.six = true then 65575 else 65535 by show K ≤ 65575; exact HR.out.2)
  obtain ⟨M, hM⟩ : ∃ M, K - 40 - 8 = M := ⟨_, rfl⟩
  obtain ⟨K1, hK1⟩ : ∃ K1, K - 40 = K1 := ⟨_, rfl⟩
  have hRR := HR.out
  have hw1 : IntKind.i64.wrap ((K : Int) - 40) = (K1 : Int) := by rw [IntKind.wrap_i64]; omega
  have hw2 : IntKind.i64.wrap ((K1 : Int) - 8) = (M : Int) := by rw [IntKind.wrap_i64]; omega
  have HW1 := Lib.hid hw1
  have HW2 := Lib.hid hw2
  obtain ⟨FL, hFL⟩ : ∃ FL, 14 + K = FL := ⟨_, rfl⟩
  obtain ⟨XL, hXL⟩ : ∃ XL, 34 + K = XL := ⟨_, rfl⟩
  have HW3 := Lib.hid (show IntKind.i64.wrap (14 + (K : Int)) = (FL : Int) by rw [IntKind.wrap_i64]; omega)
  have HW4 := Lib.hid (show IntKind.i64.wrap (34 + (K : Int)) = (XL : Int) by rw [IntKind.wrap_i64]; omega)
  have HML := Lib.hid (show M ≤ 1000000 by omega)
  have HMK := Lib.hid (run_make8 M M (Nat.le_refl _) (by omega))
  obtain ⟨zs, hzs⟩ : ∃ zs, List.replicate M (0 : UInt8) = zs := ⟨_, rfl⟩
  obtain ⟨C, hC⟩ : ∃ C, madeCells #[.int .u8 0] M = C := ⟨_, rfl⟩
  have HZL := Lib.hid (show zs.length = M by rw [← hzs, List.length_replicate])
  have HCC := Lib.hid (show C = (zs.map v8).toArray by rw [← hC, ← hzs]; exact madeCells8 M)
  rw [hC] at HMK
  have hLM := long_math (i := I6) (o := AA) (by exact .inr rfl) (by exact .inl rfl) (load := zs) (K := K) (by rw [HZL.out]; show 40 + (8 + M) = K; omega) HKB.out
  have HMA := Lib.hid (fun (W : World) (B : Option Addr) (cb : Nat) (hR : Rd W W.heap.size B M zs) => rmake_U6 zero_six (A := none) (n := 0) (cap := 0) (by omega) (t := SI I6) ⟨rfl, rfl⟩ (long_ok I6 (by exact .inr rfl)) (B := B) (len := M) (cb := cb) (load := zs) (by show 40 + (8 + M) ≤ _; omega) W (TagsAt.nil_ none) hR rfl rfl)
  obtain ⟨F, hF⟩ : ∃ F, makeK Lk.zero (SI I6) 0 zs = F := ⟨_, rfl⟩
  rw [hF] at HMA hLM
  have HFL := Lib.hid (show F.length = FL from hLM.1.trans hFL)
  have HXLL := Lib.hid (show (wrapL F AA AA).length = XL by rw [hLM.2.2.2]; show 14 + (20 + K) = XL; omega)
  have HE0 := Lib.hid (show K ≤ 65515 → wrapE F AA AA = 0 from hLM.2.1)
  have HE4 := Lib.hid (show ¬ K ≤ 65515 → wrapE F AA AA = 4 from hLM.2.2.1)
  have HFB := Lib.hid (show FL ≤ 900000 by omega)
  clear hM hK1 hRR hw1 hw2 hFL hXL hzs hC hLM hF HKB 
  go_enter Try.func7, Try.ntmps7
  go_wp2_with fail
  refine (awake_any _).mono ?_
  rintro e w1 ⟨rfl, hb1⟩
  have HB1 := Lib.hid hb1
  clear hb1
  go_upto_region 18 with (first
    | ((with_reducible show wpList _ _ _ (⟨some 18, _, _, _, _, _⟩ :: _) _ _); refine wpList_buildw (op := ⟨some 18, _, _, _, _, _⟩) 23 _ rfl (by rfl) _ (by kernel_rfl) (AA.b.map v8).toArray (by kernel_rfl) ?_)
    | ((with_reducible show wpList _ _ _ (⟨some 19, _, _, _, _, _⟩ :: _) _ _); refine wpList_buildw (op := ⟨some 19, _, _, _, _, _⟩) 25 _ rfl (by rfl) _ (by kernel_rfl) (adL AA).toArray (by kernel_rfl) ?_)
    | ((with_reducible show wpList _ _ _ (⟨none, .store 25 (.tmp 7) (.tmp 19), _, _, _, _⟩ :: _) _ _); refine wpList_storeNewG (op := ⟨none, .store 25 (.tmp 7) (.tmp 19), _, _, _, _⟩) rfl 25 _ _ rfl (by rfl) (adL AA) (by rfl) (by rfl) (sizeAdL rfl) (adL_one _) ?_; intro w2 hq_ hb_ hz_; clear hz_; have HI2 := Lib.hid hq_; have HB2 := Lib.hid (HB1.out.trans (hb_.mono HB1.out.size)); have HG1 := Lib.hid HB1.out.size; clear hq_ hb_; generalize w1.heap.size = G1 at HI2 HG1 ⊢)
    | ((with_reducible show wpList _ _ _ (⟨some 20, _, _, _, _, _⟩ :: _) _ _); refine wpList_buildw (op := ⟨some 20, _, _, _, _, _⟩) 23 _ rfl (by rfl) _ (by kernel_rfl) (AA.b.map v8).toArray (by kernel_rfl) ?_)
    | ((with_reducible show wpList _ _ _ (⟨some 21, _, _, _, _, _⟩ :: _) _ _); refine wpList_buildw (op := ⟨some 21, _, _, _, _, _⟩) 25 _ rfl (by rfl) _ (by kernel_rfl) (adL AA).toArray (by kernel_rfl) ?_)
    | ((with_reducible show wpList _ _ _ (⟨none, .store 25 (.tmp 8) (.tmp 21), _, _, _, _⟩ :: _) _ _); refine wpList_storeNewG (op := ⟨none, .store 25 (.tmp 8) (.tmp 21), _, _, _, _⟩) rfl 25 _ _ rfl (by rfl) (adL AA) (by rfl) (by rfl) (sizeAdL rfl) (adL_one _) ?_; intro w3 hq_ hb_ hz_; clear hz_; have HO3 := Lib.hid hq_; have HB3 := Lib.hid (HB2.out.trans (hb_.mono HB2.out.size)); have HI3 := Lib.hid (HI2.out.below HI2.out.lt hb_); have HG2 := Lib.hid HI2.out.lt; have HG3 := Lib.hid HB2.out.size; clear hq_ hb_; generalize w2.heap.size = G2 at HO3 HG2 HG3 ⊢)
    | ((with_reducible show wpList _ _ _ (⟨some 23, _, _, _, _, _⟩ :: _) _ _); refine wpList_buildw (op := ⟨some 23, _, _, _, _, _⟩) 23 _ rfl (by rfl) _ (by kernel_rfl) (I6.b.map v8).toArray (by kernel_rfl) ?_)
    | ((with_reducible show wpList _ _ _ (⟨some 24, _, _, _, _, _⟩ :: _) _ _); refine wpList_buildw (op := ⟨some 24, _, _, _, _, _⟩) 25 _ rfl (by rfl) _ (by kernel_rfl) (adL I6).toArray (by kernel_rfl) ?_)
    | ((with_reducible show wpList _ _ _ (⟨none, .store 25 (.tmp 7) (.tmp 24), _, _, _, _⟩ :: _) _ _); refine wpList_storeRG rfl 25 (.tmp 7) _ rfl G1 (by rfl) (adL I6) (by rfl) _ HI3.out (by rfl) (sizeAdL rfl) (adL_one _) ?_; intro w4 hq_ hn_ hb_; have HI4 := Lib.hid hq_; have HO4 := Lib.hid (show Blk w4 25 G2 _ from (hn_ _ (Nat.ne_of_gt HG2.out)).trans HO3.out); have HB4 := Lib.hid (HB3.out.trans (hb_.mono HG1.out)); clear hq_ hn_ hb_))
  clear hmod hwu hwi hwk 
  refine wp_region_held_drew (S := fun W => Below w4.heap.size w4 W) (by kernel_rfl) ((Below.refl _ _).drew) (fun hHeld => ?_)
  obtain ⟨V, hV⟩ : ∃ V, w4.drew = V := ⟨_, rfl⟩
  rw [hV] at hHeld ⊢
  clear hV
  refine tkY 0 38 (lkC Lk.zero (.slice none 0 0)) rfl (yields_build (by rfl) 41 _ rfl [] (by kernel_rfl) _ built_lk0) hHeld ?_
  simp only [Act.put, sA, sZ, sS]
  refine tkY 1 39 (.agg (adL I6).toArray) rfl (yieldsIf_load_mid (by rfl) 25 _ rfl G1 0 rfl (adL I6) _ (fun W hW => Blk_10.range (HI4.out.below HI4.out.lt hW)) Try.underlying25 rfl (sizeAdL rfl)) hHeld ?_
  simp only [Act.put, sA, sZ, sS]
  refine tkY 2 40 (.agg (adL I6).toArray) rfl (yieldsIf_load_mid (by rfl) 25 _ rfl G1 0 rfl (adL I6) _ (fun W hW => Blk_10.range (HI4.out.below HI4.out.lt hW)) Try.underlying25 rfl (sizeAdL rfl)) hHeld ?_
  simp only [Act.put, sA, sZ, sS]
  refine tkY 3 41 (tuC (SI I6)) rfl (yields_build (by rfl) 51 _ rfl [(0, adC I6), (1, adC I6), (2, .int .i64 17)] (by kernel_rfl) _ (by kernel_rfl)) hHeld ?_
  simp only [Act.put, sA, sZ, sS]
  refine tk 4 42 (.int .i64 (K : Int)) rfl hHeld ?_
  simp only [Act.put, sA, sZ, sS]
  refine tk 5 43 (.int .i64 40) rfl hHeld ?_
  simp only [Act.put, sA, sZ, sS]
  refine tkY 6 44 (.int .i64 (K1 : Int)) rfl (Or.inl ⟨by rfl, fun W _ => by have h_ := HW1.out; go_simp⟩) hHeld ?_
  simp only [Act.put, sA, sZ, sS]
  refine tkY 7 45 (.int .i64 (M : Int)) rfl (Or.inl ⟨by rfl, fun W _ => by have h_ := HW2.out; go_simp⟩) hHeld ?_
  simp only [Act.put, sA, sZ, sS]
  refine wpAnyH_ready (rs := [8]) (by kernel_rfl) (by simp) (AllReadyH.cons (o := ⟨some 46, _, _, _, _, _⟩) rfl (fun K hK => ?_) AllReadyH.nil)
  have hmk := HMK.out V
  go_simp
  have HH := Lib.hid (hHeld.alloc hHeld.size (.cells C 5))
  have HZR := Lib.hid (show Row8 (V.alloc (.cells C 5)) V.heap.size zs from by rw [HCC.out]; exact heap_alloc_new V _)
  generalize V.alloc (.cells C 5) = V2 at HH HZR ⊢
  generalize V.heap.size = GZ at HZR ⊢
  refine hK.out _ _ (HH.out) (fun hHeld => ?_)
  clear hK K hmk
  have HMC := Lib.hid (HMA.out V2 (some ⟨GZ, 0, none⟩) M (HZL.out ▸ HZR.out.rd HZR.out.lt))
  refine wpAnyH_ready (rs := [9]) (by kernel_rfl) (by simp) (AllReadyH.cons (o := ⟨some 47, _, _, _, _, _⟩) rfl (fun K hK => ?_) AllReadyH.nil)
  go_simp
  refine HMC.out.mono ?_
  rintro e w6 ⟨v6, rfl, ho6, hb6⟩
  obtain ⟨A6, c6, rfl, h61, h62, hr6⟩ := ho6.formN HFL.out
  have TO := Lib.hid (twrap_any A6 FL c6 F (s := AA) (d := AA) rfl rfl HFB.out h61 h62 w6 hr6)
  have HH6 := Lib.hid (HH.out.trans (hb6.mono HH.out.size))
  refine hK.out _ _ (HH6.out) (fun hHeld => ?_)
  clear hK K ho6 hb6 h61 h62 hr6
  refine tk 10 13 (.slice A6 FL c6) rfl hHeld ?_
  simp only [Act.put, sA, sZ, sS]
  refine wpAnyH_done (by kernel_rfl) ?_ _
  clear hHeld
  have HB6 := Lib.hid (HB4.out.trans (HH6.out.mono HB4.out.size))
  go_wp2_with (first
    | ((with_reducible show wpList _ _ _ (⟨some 50, _, _, _, _, _⟩ :: _) _ _); refine wpList_loadM (op := ⟨some 50, _, _, _, _, _⟩) 25 _ rfl (by rfl) G2 0 (by rfl) (adL AA) (Blk_10.range (HO4.out.below HO4.out.lt HH6.out)) _ Try.underlying25 rfl (sizeAdL rfl) ?_)
    | ((with_reducible show wpList _ _ _ (⟨some 51, _, _, _, _, _⟩ :: _) _ _); refine wpList_loadM (op := ⟨some 51, _, _, _, _, _⟩) 25 _ rfl (by rfl) G2 0 (by rfl) (adL AA) (Blk_10.range (HO4.out.below HO4.out.lt HH6.out)) _ Try.underlying25 rfl (sizeAdL rfl) ?_))
  refine TO.out.mono ?_
  rintro e w7 ⟨hy, hno, hb7⟩
  have HB7 := Lib.hid (HB6.out.trans (hb7.mono HB6.out.size))
  clear hb7
  by_cases hm : K ≤ 65515
  · have e0 := HE0.out hm
    obtain ⟨v, rfl, ho⟩ := hy e0
    obtain ⟨A7, c7, rfl, _, _, _⟩ := ho.formN HXLL.out
    have hg1 : ¬ (65515 : Int) < (K : Int) := by omega
    have hg2 : decide ((65515 : Int) < (K : Int)) = false := decide_eq_false hg1
    have hw3 := HW3.out
    have hw4 := HW4.out
    clear hy hno ho hm e0
    go_wp2_with fail
    go_ret
    exact ⟨rfl, HB7.out⟩
  · have e4 := HE4.out hm
    have hx := hno (by rw [e4]; decide)
    rw [e4] at hx
    subst hx
    have hg1 : (65515 : Int) < (K : Int) := by omega
    have hg2 : decide ((65515 : Int) < (K : Int)) = true := decide_eq_true hg1
    clear hy hno hm e4
    go_wp2_with fail
    go_ret
    exact ⟨rfl, HB7.out⟩
set_option maxHeartbeats 16000000 in
theorem long_11 (n : Nat) (hn : n < 65536) (w : World) : Calls Try.prog 7 #[.int .u16 (n : Int), .bool true, .bool true] w fun e w' => e = .returned (.bool true) ∧ Below w.heap.size w w' := by
  obtain ⟨r, hr⟩ : ∃ r, n % 96 = r := ⟨_, rfl⟩
  have hr96 : r < 96 := by omega
  have hmod : Int.tmod (n : Int) 96 = (r : Int) := by rw [Int.tmod_eq_emod_of_nonneg (by omega)]; omega
  obtain ⟨K, hK⟩ : ∃ K, 65480 + r = K := ⟨_, rfl⟩
  have hwu : IntKind.u16.wrap (r : Int) = (r : Int) := by rw [IntKind.wrap_u16]; omega
  have hwi : IntKind.i64.wrap (r : Int) = (r : Int) := by rw [IntKind.wrap_i64]; omega
  have hwk : IntKind.i64.wrap (65480 + (r : Int)) = (K : Int) := by rw [IntKind.wrap_i64]; omega
  have HR := Lib.hid (show 65480 ≤ K ∧ K ≤ 65575 by omega)
  clear hr hr96 hn hK
  have HKB := Lib.hid (show K ≤ if I6.six = true then 65575 else 65535 by show K ≤ 65575; exact HR.out.2)
  obtain ⟨M, hM⟩ : ∃ M, K - 40 - 8 = M := ⟨_, rfl⟩
  obtain ⟨K1, hK1⟩ : ∃ K1, K - 40 = K1 := ⟨_, rfl⟩
  have hRR := HR.out
  have hw1 : IntKind.i64.wrap ((K : Int) - 40) = (K1 : Int) := by rw [IntKind.wrap_i64]; omega
  have hw2 : IntKind.i64.wrap ((K1 : Int) - 8) = (M : Int) := by rw [IntKind.wrap_i64]; omega
  have HW1 := Lib.hid hw1
  have HW2 := Lib.hid hw2
  obtain ⟨FL, hFL⟩ : ∃ FL, 14 + K = FL := ⟨_, rfl⟩
  obtain ⟨XL, hXL⟩ : ∃ XL, 54 + K = XL := ⟨_, rfl⟩
  have HW3 := Lib.hid (show IntKind.i64.wrap (14 + (K : Int)) = (FL : Int) by rw [IntKind.wrap_i64]; omega)
  have HW4 := Lib.hid (show IntKind.i64.wrap (54 + (K : Int)) = (XL : Int) by rw [IntKind.wrap_i64]; omega)
  have HML := Lib.hid (show M ≤ 1000000 by omega)
  have HMK := Lib.hid (run_make8 M M (Nat.le_refl _) (by omega))
  obtain ⟨zs, hzs⟩ : ∃ zs, List.replicate M (0 : UInt8) = zs := ⟨_, rfl⟩
  obtain ⟨C, hC⟩ : ∃ C, madeCells #[.int .u8 0] M = C := ⟨_, rfl⟩
  have HZL := Lib.hid (show zs.length = M by rw [← hzs, List.length_replicate])
  have HCC := Lib.hid (show C = (zs.map v8).toArray by rw [← hC, ← hzs]; exact madeCells8 M)
  rw [hC] at HMK
  have hLM := long_math (i := I6) (o := I6) (by exact .inr rfl) (by exact .inr rfl) (load := zs) (K := K) (by rw [HZL.out]; show 40 + (8 + M) = K; omega) HKB.out
  have HMA := Lib.hid (fun (W : World) (B : Option Addr) (cb : Nat) (hR : Rd W W.heap.size B M zs) => rmake_U6 zero_six (A := none) (n := 0) (cap := 0) (by omega) (t := SI I6) ⟨rfl, rfl⟩ (long_ok I6 (by exact .inr rfl)) (B := B) (len := M) (cb := cb) (load := zs) (by show 40 + (8 + M) ≤ _; omega) W (TagsAt.nil_ none) hR rfl rfl)
  obtain ⟨F, hF⟩ : ∃ F, makeK Lk.zero (SI I6) 0 zs = F := ⟨_, rfl⟩
  rw [hF] at HMA hLM
  have HFL := Lib.hid (show F.length = FL from hLM.1.trans hFL)
  have HXLL := Lib.hid (show (wrapL F I6 I6).length = XL by rw [hLM.2.2.2]; show 14 + (40 + K) = XL; omega)
  have HE0 := Lib.hid (show K ≤ 65535 → wrapE F I6 I6 = 0 from hLM.2.1)
  have HE4 := Lib.hid (show ¬ K ≤ 65535 → wrapE F I6 I6 = 4 from hLM.2.2.1)
  have HFB := Lib.hid (show FL ≤ 900000 by omega)
  clear hM hK1 hRR hw1 hw2 hFL hXL hzs hC hLM hF HKB 
  go_enter Try.func7, Try.ntmps7
  go_wp2_with fail
  refine (awake_any _).mono ?_
  rintro e w1 ⟨rfl, hb1⟩
  have HB1 := Lib.hid hb1
  clear hb1
  go_upto_region 18 with (first
    | ((with_reducible show wpList _ _ _ (⟨some 18, _, _, _, _, _⟩ :: _) _ _); refine wpList_buildw (op := ⟨some 18, _, _, _, _, _⟩) 23 _ rfl (by rfl) _ (by kernel_rfl) (AA.b.map v8).toArray (by kernel_rfl) ?_)
    | ((with_reducible show wpList _ _ _ (⟨some 19, _, _, _, _, _⟩ :: _) _ _); refine wpList_buildw (op := ⟨some 19, _, _, _, _, _⟩) 25 _ rfl (by rfl) _ (by kernel_rfl) (adL AA).toArray (by kernel_rfl) ?_)
    | ((with_reducible show wpList _ _ _ (⟨none, .store 25 (.tmp 7) (.tmp 19), _, _, _, _⟩ :: _) _ _); refine wpList_storeNewG (op := ⟨none, .store 25 (.tmp 7) (.tmp 19), _, _, _, _⟩) rfl 25 _ _ rfl (by rfl) (adL AA) (by rfl) (by rfl) (sizeAdL rfl) (adL_one _) ?_; intro w2 hq_ hb_ hz_; clear hz_; have HI2 := Lib.hid hq_; have HB2 := Lib.hid (HB1.out.trans (hb_.mono HB1.out.size)); have HG1 := Lib.hid HB1.out.size; clear hq_ hb_; generalize w1.heap.size = G1 at HI2 HG1 ⊢)
    | ((with_reducible show wpList _ _ _ (⟨some 20, _, _, _, _, _⟩ :: _) _ _); refine wpList_buildw (op := ⟨some 20, _, _, _, _, _⟩) 23 _ rfl (by rfl) _ (by kernel_rfl) (AA.b.map v8).toArray (by kernel_rfl) ?_)
    | ((with_reducible show wpList _ _ _ (⟨some 21, _, _, _, _, _⟩ :: _) _ _); refine wpList_buildw (op := ⟨some 21, _, _, _, _, _⟩) 25 _ rfl (by rfl) _ (by kernel_rfl) (adL AA).toArray (by kernel_rfl) ?_)
    | ((with_reducible show wpList _ _ _ (⟨none, .store 25 (.tmp 8) (.tmp 21), _, _, _, _⟩ :: _) _ _); refine wpList_storeNewG (op := ⟨none, .store 25 (.tmp 8) (.tmp 21), _, _, _, _⟩) rfl 25 _ _ rfl (by rfl) (adL AA) (by rfl) (by rfl) (sizeAdL rfl) (adL_one _) ?_; intro w3 hq_ hb_ hz_; clear hz_; have HO3 := Lib.hid hq_; have HB3 := Lib.hid (HB2.out.trans (hb_.mono HB2.out.size)); have HI3 := Lib.hid (HI2.out.below HI2.out.lt hb_); have HG2 := Lib.hid HI2.out.lt; have HG3 := Lib.hid HB2.out.size; clear hq_ hb_; generalize w2.heap.size = G2 at HO3 HG2 HG3 ⊢)
    | ((with_reducible show wpList _ _ _ (⟨some 23, _, _, _, _, _⟩ :: _) _ _); refine wpList_buildw (op := ⟨some 23, _, _, _, _, _⟩) 23 _ rfl (by rfl) _ (by kernel_rfl) (I6.b.map v8).toArray (by kernel_rfl) ?_)
    | ((with_reducible show wpList _ _ _ (⟨some 24, _, _, _, _, _⟩ :: _) _ _); refine wpList_buildw (op := ⟨some 24, _, _, _, _, _⟩) 25 _ rfl (by rfl) _ (by kernel_rfl) (adL I6).toArray (by kernel_rfl) ?_)
    | ((with_reducible show wpList _ _ _ (⟨none, .store 25 (.tmp 7) (.tmp 24), _, _, _, _⟩ :: _) _ _); refine wpList_storeRG rfl 25 (.tmp 7) _ rfl G1 (by rfl) (adL I6) (by rfl) _ HI3.out (by rfl) (sizeAdL rfl) (adL_one _) ?_; intro w4 hq_ hn_ hb_; have HI4 := Lib.hid hq_; have HO4 := Lib.hid (show Blk w4 25 G2 _ from (hn_ _ (Nat.ne_of_gt HG2.out)).trans HO3.out); have HB4 := Lib.hid (HB3.out.trans (hb_.mono HG1.out)); clear hq_ hn_ hb_)
    | ((with_reducible show wpList _ _ _ (⟨some 26, _, _, _, _, _⟩ :: _) _ _); refine wpList_buildw (op := ⟨some 26, _, _, _, _, _⟩) 23 _ rfl (by rfl) _ (by kernel_rfl) (I6.b.map v8).toArray (by kernel_rfl) ?_)
    | ((with_reducible show wpList _ _ _ (⟨some 27, _, _, _, _, _⟩ :: _) _ _); refine wpList_buildw (op := ⟨some 27, _, _, _, _, _⟩) 25 _ rfl (by rfl) _ (by kernel_rfl) (adL I6).toArray (by kernel_rfl) ?_)
    | ((with_reducible show wpList _ _ _ (⟨none, .store 25 (.tmp 8) (.tmp 27), _, _, _, _⟩ :: _) _ _); refine wpList_storeRG rfl 25 (.tmp 8) _ rfl G2 (by rfl) (adL I6) (by rfl) _ HO4.out (by rfl) (sizeAdL rfl) (adL_one _) ?_; intro w5 hq_ hn_ hb_; have HO5 := Lib.hid hq_; have HI5 := Lib.hid (show Blk w5 25 G1 _ from (hn_ _ (Nat.ne_of_lt HG2.out)).trans HI4.out); have HB5 := Lib.hid (HB4.out.trans (hb_.mono HG3.out)); clear hq_ hn_ hb_))
  clear hmod hwu hwi hwk 
  refine wp_region_held_drew (S := fun W => Below w5.heap.size w5 W) (by kernel_rfl) ((Below.refl _ _).drew) (fun hHeld => ?_)
  obtain ⟨V, hV⟩ : ∃ V, w5.drew = V := ⟨_, rfl⟩
  rw [hV] at hHeld ⊢
  clear hV
  refine tkY 0 38 (lkC Lk.zero (.slice none 0 0)) rfl (yields_build (by rfl) 41 _ rfl [] (by kernel_rfl) _ built_lk0) hHeld ?_
  simp only [Act.put, sA, sZ, sS]
  refine tkY 1 39 (.agg (adL I6).toArray) rfl (yieldsIf_load_mid (by rfl) 25 _ rfl G1 0 rfl (adL I6) _ (fun W hW => Blk_10.range (HI5.out.below HI5.out.lt hW)) Try.underlying25 rfl (sizeAdL rfl)) hHeld ?_
  simp only [Act.put, sA, sZ, sS]
  refine tkY 2 40 (.agg (adL I6).toArray) rfl (yieldsIf_load_mid (by rfl) 25 _ rfl G1 0 rfl (adL I6) _ (fun W hW => Blk_10.range (HI5.out.below HI5.out.lt hW)) Try.underlying25 rfl (sizeAdL rfl)) hHeld ?_
  simp only [Act.put, sA, sZ, sS]
  refine tkY 3 41 (tuC (SI I6)) rfl (yields_build (by rfl) 51 _ rfl [(0, adC I6), (1, adC I6), (2, .int .i64 17)] (by kernel_rfl) _ (by kernel_rfl)) hHeld ?_
  simp only [Act.put, sA, sZ, sS]
  refine tk 4 42 (.int .i64 (K : Int)) rfl hHeld ?_
  simp only [Act.put, sA, sZ, sS]
  refine tk 5 43 (.int .i64 40) rfl hHeld ?_
  simp only [Act.put, sA, sZ, sS]
  refine tkY 6 44 (.int .i64 (K1 : Int)) rfl (Or.inl ⟨by rfl, fun W _ => by have h_ := HW1.out; go_simp⟩) hHeld ?_
  simp only [Act.put, sA, sZ, sS]
  refine tkY 7 45 (.int .i64 (M : Int)) rfl (Or.inl ⟨by rfl, fun W _ => by have h_ := HW2.out; go_simp⟩) hHeld ?_
  simp only [Act.put, sA, sZ, sS]
  refine wpAnyH_ready (rs := [8]) (by kernel_rfl) (by simp) (AllReadyH.cons (o := ⟨some 46, _, _, _, _, _⟩) rfl (fun K hK => ?_) AllReadyH.nil)
  have hmk := HMK.out V
  go_simp
  have HH := Lib.hid (hHeld.alloc hHeld.size (.cells C 5))
  have HZR := Lib.hid (show Row8 (V.alloc (.cells C 5)) V.heap.size zs from by rw [HCC.out]; exact heap_alloc_new V _)
  generalize V.alloc (.cells C 5) = V2 at HH HZR ⊢
  generalize V.heap.size = GZ at HZR ⊢
  refine hK.out _ _ (HH.out) (fun hHeld => ?_)
  clear hK K hmk
  have HMC := Lib.hid (HMA.out V2 (some ⟨GZ, 0, none⟩) M (HZL.out ▸ HZR.out.rd HZR.out.lt))
  refine wpAnyH_ready (rs := [9]) (by kernel_rfl) (by simp) (AllReadyH.cons (o := ⟨some 47, _, _, _, _, _⟩) rfl (fun K hK => ?_) AllReadyH.nil)
  go_simp
  refine HMC.out.mono ?_
  rintro e w6 ⟨v6, rfl, ho6, hb6⟩
  obtain ⟨A6, c6, rfl, h61, h62, hr6⟩ := ho6.formN HFL.out
  have TO := Lib.hid (twrap_any A6 FL c6 F (s := I6) (d := I6) rfl rfl HFB.out h61 h62 w6 hr6)
  have HH6 := Lib.hid (HH.out.trans (hb6.mono HH.out.size))
  refine hK.out _ _ (HH6.out) (fun hHeld => ?_)
  clear hK K ho6 hb6 h61 h62 hr6
  refine tk 10 13 (.slice A6 FL c6) rfl hHeld ?_
  simp only [Act.put, sA, sZ, sS]
  refine wpAnyH_done (by kernel_rfl) ?_ _
  clear hHeld
  have HB6 := Lib.hid (HB5.out.trans (HH6.out.mono HB5.out.size))
  go_wp2_with (first
    | ((with_reducible show wpList _ _ _ (⟨some 50, _, _, _, _, _⟩ :: _) _ _); refine wpList_loadM (op := ⟨some 50, _, _, _, _, _⟩) 25 _ rfl (by rfl) G2 0 (by rfl) (adL I6) (Blk_10.range (HO5.out.below HO5.out.lt HH6.out)) _ Try.underlying25 rfl (sizeAdL rfl) ?_)
    | ((with_reducible show wpList _ _ _ (⟨some 51, _, _, _, _, _⟩ :: _) _ _); refine wpList_loadM (op := ⟨some 51, _, _, _, _, _⟩) 25 _ rfl (by rfl) G2 0 (by rfl) (adL I6) (Blk_10.range (HO5.out.below HO5.out.lt HH6.out)) _ Try.underlying25 rfl (sizeAdL rfl) ?_))
  refine TO.out.mono ?_
  rintro e w7 ⟨hy, hno, hb7⟩
  have HB7 := Lib.hid (HB6.out.trans (hb7.mono HB6.out.size))
  clear hb7
  by_cases hm : K ≤ 65535
  · have e0 := HE0.out hm
    obtain ⟨v, rfl, ho⟩ := hy e0
    obtain ⟨A7, c7, rfl, _, _, _⟩ := ho.formN HXLL.out
    have hg1 : ¬ (65535 : Int) < (K : Int) := by omega
    have hg2 : decide ((65535 : Int) < (K : Int)) = false := decide_eq_false hg1
    have hw3 := HW3.out
    have hw4 := HW4.out
    clear hy hno ho hm e0
    go_wp2_with fail
    go_ret
    exact ⟨rfl, HB7.out⟩
  · have e4 := HE4.out hm
    have hx := hno (by rw [e4]; decide)
    rw [e4] at hx
    subst hx
    have hg1 : (65535 : Int) < (K : Int) := by omega
    have hg2 : decide ((65535 : Int) < (K : Int)) = true := decide_eq_true hg1
    clear hy hno hm e4
    go_wp2_with fail
    go_ret
    exact ⟨rfl, HB7.out⟩
theorem tunnelLong_walk (n : Nat) (hn : n < 65536) (i o : Bool) (w : World) : Calls Try.prog 7 #[.int .u16 (n : Int), .bool i, .bool o] w fun e w' => e = .returned (.bool true) ∧ Below w.heap.size w w' := by
  cases i <;> cases o
  · exact long_00 n hn w
  · exact long_01 n hn w
  · exact long_10 n hn w
  · exact long_11 n hn w

theorem tunnelLong_walks : WalksTrue 7 Try.f7 := by
  intro H enc W base args ds p hval hA
  rw [Try.params7] at hA hval
  obtain ⟨v0, vs0, d0, ds0, p0, q0, hargs, rfl, rfl, h0, r0⟩ := trodAll_cons hA
  obtain ⟨v1, vs1, d1, ds1, p1, q1, rfl, rfl, rfl, h1, r1⟩ := trodAll_cons r0
  obtain ⟨v2, vs2, d2, ds2, p2, q2, rfl, rfl, rfl, h2, r2⟩ := trodAll_cons r1
  obtain ⟨rfl, rfl, rfl⟩ := trodAll_nil r2
  obtain rfl : args = #[v0, v1, v2] := by cases args; simp_all
  obtain ⟨a0, rfl, rfl, rfl, w0⟩ := open_int Try.underlying48 (hval 0 48 v0 rfl rfl) h0
  obtain ⟨g0a, g0b⟩ := range_u16 w0
  obtain ⟨n0, rfl⟩ := Int.eq_ofNat_of_zero_le g0a
  obtain ⟨a1, rfl, rfl, rfl⟩ := open_bool Try.underlying4 (hval 1 4 v1 rfl rfl) h1
  obtain ⟨a2, rfl, rfl, rfl⟩ := open_bool Try.underlying4 (hval 2 4 v2 rfl rfl) h2
  exact tunnelLong_walk n0 (by omega) a1 a2 W

theorem tunnelLong_said : Rows.TunnelLongSaid :=
  OpenClaim.holds_of_wide 7 Try.f7 rfl rfl rfl rfl rfl rfl rfl ⟨rfl, rfl, rfl, rfl, rfl⟩ rfl rfl rfl rfl rfl (by kernel_rfl) Try.func7 (by kernel_rfl)
    (of_decide_eq_true (by kernel_rfl)) (by unfold Func.isWrapper; first | (rw [if_pos (by decide +kernel)]; kernel_rfl) | (rw [if_neg (by decide +kernel)]; exact ⟨rfl, rfl⟩))
    (fun os started H enc _ => law_lift (s := Rows.tunnelLongSpec) Try.func7 (by kernel_rfl) rfl rfl (by intro H ds hd; match ds, hd with | [_, _, _], _ => exact ⟨rfl, rfl, rfl⟩) (by kernel_rfl) tunnelLong_walks os started H enc
      (ChangeSpec.witness6 (enc := enc) (C := Try.checked) false ⟨#[], #[.int .u16 0, .bool false, .bool false], []⟩ 8 (by kernel_rfl) (by kernel_rfl) (by kernel_rfl) (by kernel_rfl)))

end Go.Proofs.Ytomkfcpellcncaa
