/-
  The document's Make.
-/
import Derived.Test.YtomkfcpellcncaaKForm
import Derived.Test.YtomkfcpellcncaaKRef2
namespace Go.Proofs.Ytomkfcpellcncaa
set_option maxRecDepth 100000
open Go.RowKit Go.Lib
theorem ports_cells (S D : Nat) (hS : S ≤ 65535) (hD : D ≤ 65535) : ((be2 S ++ be2 D).map v8).toArray = #[.int .u8 ((S : Int) / 256), .int .u8 ((S : Int) % 256), .int .u8 ((D : Int) / 256), .int .u8 ((D : Int) % 256)] := by
  simp only [be2, List.cons_append, List.nil_append, List.map_cons, List.map_nil]
  rw [v8_of (S / 256) (by omega), v8_of (S % 256) (by omega), v8_of (D / 256) (by omega), v8_of (D % 256) (by omega)]
  rfl
theorem udp_cells (M : Nat) (hM : M ≤ 65535) : ((be2 M ++ [0, 0]).map v8).toArray = #[.int .u8 ((M : Int) / 256), .int .u8 ((M : Int) % 256), .int .u8 0, .int .u8 0] := by
  simp only [be2, List.cons_append, List.nil_append, List.map_cons, List.map_nil]
  rw [v8_of (M / 256) (by omega), v8_of (M % 256) (by omega)]
  rfl
theorem tcp_cells (F : Nat) (hF : F ≤ 63) : (([0, 0, 0, 0, 0, 0, 0, 0, 80, UInt8.ofNat F, 0, 0, 0, 0, 0, 0] : List UInt8).map v8).toArray = #[.int .u8 0, .int .u8 0, .int .u8 0, .int .u8 0, .int .u8 0, .int .u8 0, .int .u8 0, .int .u8 0, .int .u8 80, .int .u8 (F : Int), .int .u8 0, .int .u8 0, .int .u8 0, .int .u8 0, .int .u8 0, .int .u8 0] := by
  simp only [List.map_cons, List.map_nil]
  rw [v8_of F (by omega)]
  rfl
theorem built_4r (T pr : Int) (s d : Ad) (hs : s.b.length = 16) (hd : d.b.length = 16) : Try.prog.built 68 [(0, .int .i64 20), (1, .int .i64 T), (5, .bool true), (6, .int .i64 64), (7, .int .i64 pr), (8, adC s), (9, adC d)] = some (frL_8 ⟨20, T, 0, 0, false, true, 64, pr, s, d⟩).toArray := by
  obtain ⟨s6, sb⟩ := s
  obtain ⟨d6, db⟩ := d
  obtain ⟨a0, a1, a2, a3, a4, a5, a6, a7, a8, a9, a10, a11, a12, a13, a14, a15, rfl⟩ := sixteen hs
  obtain ⟨b0, b1, b2, b3, b4, b5, b6, b7, b8, b9, b10, b11, b12, b13, b14, b15, rfl⟩ := sixteen hd
  kernel_rfl
set_option maxHeartbeats 8000000 in
theorem rmake_U4 {L : Lk} (h6 : L.Six) {A : Option Addr} {n cap : Nat} (hn : n ≤ 1000) {t : Tu} (ho : t.Ok) {f : Int} (hm : MakeOk L t f) {B : Option Addr} {len cb : Nat} {load : List UInt8} (hl : ihN t + (shN_ t + len) ≤ 65535) (w : World) (hT : TagsAt w w.heap.size A n L.ts) (hI : Rd w w.heap.size B len load) (hpr : t.pr = 17) (hsx : t.s.six = false) :
    Calls Try.prog 18 #[lkC L (.slice A n cap), tuC t, .int .i64 f, .slice B len cb] w fun e w' => ∃ v, e = .returned v ∧ Own8 w' w.heap.size v (makeK L t f load) ∧ Below w.heap.size w w' := by
  have hlen := hI.len
  have hsh : shN_ t = 8 := by unfold shN_; rw [hpr]; rfl
  have hih : ihN t = 20 := by unfold ihN; rw [hsx]; rfl
  rw [hsh, hih] at hl
  obtain ⟨S, hS⟩ := Int.eq_ofNat_of_zero_le hm.s0
  obtain ⟨D, hD⟩ := Int.eq_ofNat_of_zero_le hm.d0
  obtain ⟨F, hF⟩ := Int.eq_ofNat_of_zero_le hm.f0
  have hS1 := hm.s1
  have hD1 := hm.d1
  have hF1 := hm.f1
  rw [hS] at hS1
  rw [hD] at hD1
  rw [hF] at hF1
  have hSEG : segK t f load = ((be2 S ++ be2 D) ++ (be2 (8 + len) ++ [0, 0])) ++ load := by
    unfold segK
    rw [if_pos hpr, hS, hD, hlen]
    simp only [List.append_assoc]
    rfl
  have hFL := seg_fault (load := load) hm (by omega)
  have hfk : fillK t f load = fillS t.s.six t.s.b t.d.b true (segK t f load) := by unfold fillK udpT; rw [hpr]; rfl
  have hud : udpT t = true := by unfold udpT; rw [hpr]; rfl
  rw [hud] at hFL
  have hd6 : t.d.six = t.s.six := by
    have := hm.fam
    unfold famB at this
    cases h1 : t.s.six <;> cases h2 : t.d.six <;> rw [h1, h2] at this <;> first | rfl | cases this
  obtain ⟨SL, hSL⟩ : ∃ k, 8 + len = k := ⟨_, rfl⟩
  have hsegl : (segK t f load).length = SL := by rw [segK_len, hsh, hlen]; exact hSL
  have hri := four_right hm hsx (n := SL) (by omega)
  have hfv : four4 t SL = ⟨20, 20 + (SL : Int), 0, 0, false, true, 64, 17, t.s, t.d⟩ := by unfold four4; rw [hpr]; congr 1
  have hfin : makeK L t f load = (lkB (typedL L t) ++ putF (four4 t SL)) ++ fillK t f load := by unfold makeK ipK headK; rw [hsegl, hsx, List.append_assoc]; rfl
  have hpl : (putF (four4 t SL)).length = 20 := putF_len (f := four4 t SL) ⟨ho.s, ho.d⟩
  rw [hfv] at hri hfin hpl
  have HPF := Lib.hid (fun W => rput_any_8 (f := ⟨20, 20 + (SL : Int), 0, 0, false, true, 64, 17, t.s, t.d⟩) ⟨ho.s, ho.d⟩ hri W)
  have HFIN := Lib.hid hfin
  have HPL := Lib.hid hpl
  have FI := Lib.hid (fun (W : World) (A' : Option Addr) (c' : Nat) (hR : Rd W W.heap.size A' SL (segK t f load)) => show Calls Try.prog 35 #[adC t.s, adC t.d, .int .i64 17, .slice A' SL c'] W fun e w' => ∃ v, e = .returned v ∧ Own8 w' W.heap.size v (fillK t f load) ∧ Below W.heap.size W w' by
    have := rfill_any t.s.six t.s.b t.d.b ho.s ho.d (by omega) W (cap := c') hR true hFL
    rw [hfk]
    have e : t.d = ⟨t.s.six, t.d.b⟩ := by rw [← hd6]
    rw [e]
    exact this)
  have HFKL := Lib.hid (show (fillK t f load).length = SL by rw [fillK_len, hsh, hlen]; exact hSL)
  obtain ⟨Y, hY, hbl, hbt, hb⟩ : ∃ Y : World, (w.alloc (.cells (lkL L (.slice A n cap)).toArray 41)).alloc (.cells (tuL t).toArray 51) = Y ∧ Blk Y 41 w.heap.size (lkL L (.slice A n cap)) ∧ Blk Y 51 (w.heap.size + 1) (tuL t) ∧ Below w.heap.size w Y := by
    refine ⟨_, rfl, (Blk_10.new w 41 _).alloc _, ?_, ((Below.refl w.heap.size w).alloc (Nat.le_refl _) _).alloc (by simp) _⟩
    have := Blk_10.new (w.alloc (.cells (lkL L (.slice A n cap)).toArray 41)) 51 (tuL t)
    rwa [World.size_alloc] at this
  have HTY := Lib.hid (fun W => typed_any h6 (.slice A n cap) rfl t W)
  have HPUT := Lib.hid (fun W (hB : Below w.heap.size w W) => rput_any7 (typedL L t) (typed_six h6 t) (A := A) (n := n) cap ((hT.below hB).more hB.size) hm.link)
  have HLK := Lib.hid (show (lkB (typedL L t)).length = 14 + 4 * n by rw [lkB_len (typed_six h6 t)]; show 14 + 4 * L.ts.length = _; rw [hT.size])
  have HRB := Lib.hid (fun W (hB : Below w.heap.size w W) => hI.below hB)
  have HNUM := Lib.hid (fun W (hB : Blk W 51 (w.heap.size + 1) (tuL t)) => show W.cell? ⟨w.heap.size + 1, 0, none⟩ = some (.bool false) ∧ W.cell? ⟨w.heap.size + 1, 34, none⟩ = some (.int .i64 17) ∧ W.cell? ⟨w.heap.size + 1, 35, none⟩ = some (.int .i64 (S : Int)) ∧ W.cell? ⟨w.heap.size + 1, 36, none⟩ = some (.int .i64 (D : Int)) by
    obtain ⟨q1, q2, q3⟩ := tu_num hB ho
    rw [hpr] at q1
    rw [hS] at q2
    rw [hD] at q3
    exact ⟨hsx ▸ tu_six hB, q1, q2, q3⟩)
  have HO := Lib.hid ho
  have H6 := Lib.hid h6
  have HFF := Lib.hid hF
  have HSEG := Lib.hid hSEG
  have HSGL := Lib.hid hsegl
  have HLEN := Lib.hid hlen
  have HSL := Lib.hid hSL
  have HBL := Lib.hid hbl
  have HBT := Lib.hid hbt
  have HB := Lib.hid hb
  have E0 := Lib.hid (show lkC L (.slice A n cap) = .agg (lkL L (.slice A n cap)).toArray from rfl)
  have E1 := Lib.hid (show tuC t = .agg (tuL t).toArray from rfl)
  have hYs : w.heap.size + 1 < Y.heap.size := hbt.lt
  rw [E0.out, E1.out]
  rw [E0.out, E1.out] at HTY
  have EQ := Lib.hid hY
  clear hS hD hpr hsx hlen hbl hbt hb h6 ho hm hT hI hY hsh hih hSEG hFL hfk hud hd6 hsegl hri hfv hfin hpl
  obtain ⟨C0, hC0⟩ : ∃ C, (lkL L (.slice A n cap)).toArray = C := ⟨_, rfl⟩
  obtain ⟨C1, hC1⟩ : ∃ C, (tuL t).toArray = C := ⟨_, rfl⟩
  rw [hC0, hC1] at HTY EQ
  rw [hC0, hC1]
  have HC0 := Lib.hid hC0
  have HC1 := Lib.hid hC1
  clear hC0 hC1
  rw [hF]
  clear hF
  go_enter Try.func18, Try.ntmps18
  go_wp2_with (first
    | ((with_reducible show wpList _ _ _ (⟨some 12, _, _, _, _, _⟩ :: _) _ _); rw [EQ.out]; refine wpList_loadM 41 _ rfl (by rfl) w.heap.size 0 (by rfl) (lkL L (.slice A n cap)) (Blk_10.range HBL.out) _ Try.underlying41 rfl (sizeLkL H6.out _) ?_; rw [HC0.out])
    | ((with_reducible show wpList _ _ _ (⟨some 13, _, _, _, _, _⟩ :: _) _ _); refine wpList_loadM 51 _ rfl (by rfl) (w.heap.size + 1) 0 (by rfl) (tuL t) (Blk_10.range HBT.out) _ Try.underlying51 rfl (sizeTuL HO.out) ?_; rw [HC1.out]))
  refine (HTY.out _).mono ?_
  rintro e w2 ⟨rfl, hb2⟩
  have HB2 := Lib.hid (HB.out.trans (hb2.mono HB.out.size))
  have HBT2 := Lib.hid (HBT.out.below HBT.out.lt hb2)
  have hs2 : w.heap.size + 1 < w2.heap.size := Nat.lt_of_lt_of_le hYs hb2.size
  clear hb2
  go_wp2_with fail
  refine (HPUT.out _ HB2.out).mono ?_
  rintro e w3 ⟨v3, rfl, ho3, hb3⟩
  obtain ⟨g3, c3, rfl, hc3, hm3, hg3, hgl3, _⟩ := ho3.formG HLK.out (by omega)
  have B3 := Lib.hid hb3
  have HB3 := Lib.hid (HB2.out.trans (hb3.mono HB2.out.size))
  have HBT3 := Lib.hid (HBT2.out.below HBT2.out.lt hb3)
  have HO3 := Lib.hid ho3
  have hs3 : w.heap.size + 1 < w3.heap.size := Nat.lt_of_lt_of_le hs2 hb3.size
  obtain ⟨q0, q34, q35, q36⟩ := HNUM.out w3 HBT3.out
  have q34a : ∀ o, (w3.alloc o).cell? ⟨w.heap.size + 1, 34, none⟩ = some (.int .i64 17) := fun o => (World.cell?_alloc_lt _ _ _ hs3).trans q34
  clear hb3 ho3
  have w1 : IntKind.i64.wrap ((S : Int) / 256) = (S : Int) / 256 := by rw [IntKind.wrap_i64]; omega
  have w2' : IntKind.u8.wrap ((S : Int) / 256) = (S : Int) / 256 := by rw [IntKind.wrap_u8]; omega
  have w3' : IntKind.u8.wrap ((S : Int) % 256) = (S : Int) % 256 := by rw [IntKind.wrap_u8]; omega
  have w4' : Int.tdiv (S : Int) 256 = (S : Int) / 256 := Int.tdiv_eq_ediv_of_nonneg (by omega)
  have w5' : Int.tmod (S : Int) 256 = (S : Int) % 256 := Int.tmod_eq_emod_of_nonneg (by omega)
  have x1 : IntKind.i64.wrap ((D : Int) / 256) = (D : Int) / 256 := by rw [IntKind.wrap_i64]; omega
  have x2 : IntKind.u8.wrap ((D : Int) / 256) = (D : Int) / 256 := by rw [IntKind.wrap_u8]; omega
  have x3 : IntKind.u8.wrap ((D : Int) % 256) = (D : Int) % 256 := by rw [IntKind.wrap_u8]; omega
  have x4 : Int.tdiv (D : Int) 256 = (D : Int) / 256 := Int.tdiv_eq_ediv_of_nonneg (by omega)
  have x5 : Int.tmod (D : Int) 256 = (D : Int) % 256 := Int.tmod_eq_emod_of_nonneg (by omega)
  have y1 : IntKind.i64.wrap ((8 + (len : Int)) / 256) = (8 + (len : Int)) / 256 := by rw [IntKind.wrap_i64]; omega
  have y2 : IntKind.u8.wrap ((8 + (len : Int)) / 256) = (8 + (len : Int)) / 256 := by rw [IntKind.wrap_u8]; omega
  have y3 : IntKind.u8.wrap ((8 + (len : Int)) % 256) = (8 + (len : Int)) % 256 := by rw [IntKind.wrap_u8]; omega
  have y4 : Int.tdiv (8 + (len : Int)) 256 = (8 + (len : Int)) / 256 := Int.tdiv_eq_ediv_of_nonneg (by omega)
  have y5 : Int.tmod (8 + (len : Int)) 256 = (8 + (len : Int)) % 256 := Int.tmod_eq_emod_of_nonneg (by omega)
  have y6 : IntKind.i64.wrap (8 + (len : Int)) = 8 + (len : Int) := by rw [IntKind.wrap_i64]; omega
  have y9 : IntKind.i64.wrap (20 + (SL : Int)) = 20 + (SL : Int) := by rw [IntKind.wrap_i64]; omega
  obtain ⟨V, hV, hv1, hv2, hvb, hvs⟩ : ∃ V : World, (w3.alloc (.cells ((be2 S ++ be2 D).map v8).toArray 5)).alloc (.cells ((be2 (8 + len) ++ [0, 0]).map v8).toArray 5) = V ∧ V.heap[w3.heap.size]? = some (.cells ((be2 S ++ be2 D).map v8).toArray 5 (0, 0)) ∧ Rd V V.heap.size (some ⟨w3.heap.size + 1, 0, none⟩) 4 (be2 (8 + len) ++ [0, 0]) ∧ Below w3.heap.size w3 V ∧ w3.heap.size < V.heap.size := by
    refine ⟨_, rfl, ?_, ?_, ((Below.refl _ w3).alloc (Nat.le_refl _) _).alloc (by simp) _, by simp; omega⟩
    · exact (Below.heap_alloc _ _ w3.heap.size (by simp)).trans (heap_alloc_new w3 _)
    · have := Rd.laid (w3.alloc (.cells ((be2 S ++ be2 D).map v8).toArray 5)) (be2 (8 + len) ++ [0, 0]) 4 rfl
      rw [World.size_alloc] at this
      exact this.more (by simp)
  rw [ports_cells S D (by omega) (by omega), udp_cells (8 + len) (by omega), show (((8 + len : Nat) : Int)) = 8 + (len : Int) from Int.natCast_add 8 len] at hV
  have HV := Lib.hid hV
  have HX := Lib.hid (laid_own (base := w3.heap.size) (n := 4) hv1 (Nat.le_refl _) rfl (by omega))
  have HRX := Lib.hid hv2
  have BV := Lib.hid hvb
  have SVZ := Lib.hid hvs
  have LX := Lib.hid (show (be2 S ++ be2 D).length + 4 ≤ 2000000000 by show 4 + 4 ≤ _; decide)
  have LX2 := Lib.hid (show ((be2 S ++ be2 D) ++ (be2 (8 + len) ++ [0, 0])).length + len ≤ 2000000000 by show 4 + 4 + len ≤ _; omega)
  clear hV hv1 hv2 hvb hvs
  go_wp2_with (first
    | ((with_reducible show wpList _ _ _ (⟨some 47, _, _, _, _, _⟩ :: _) _ _); rw [HV.out]; refine wpList_append8 (o := ⟨some 47, _, _, _, _, _⟩) rfl _ _ rfl w3.heap.size _ (be2 S ++ be2 D) (by rfl) HX.out _ _ _ _ (be2 (8 + len) ++ [0, 0]) (by rfl) HRX.out LX.out (Nat.le_of_lt SVZ.out) ?_; intro v4 w4 ho4 hg4 hq4; clear hq4; have B4 := Lib.hid (BV.out.grown hg4 BV.out.size HX.out.lt); obtain ⟨A4, c4, rfl, _, _, _⟩ := ho4.formN (n := 8) rfl; have HO4 := Lib.hid ho4; clear ho4 hg4)
    | ((with_reducible show wpList _ _ _ (⟨some 55, _, _, _, _, _⟩ :: _) _ _); refine wpList_append8 (o := ⟨some 55, _, _, _, _, _⟩) rfl _ _ rfl w3.heap.size _ ((be2 S ++ be2 D) ++ (be2 (8 + len) ++ [0, 0])) (by rfl) HO4.out _ B len cb load (by rfl) (HRB.out _ (HB3.out.trans (B4.out.mono HB3.out.size))) LX2.out B4.out.size ?_; intro v5 w5 ho5 hg5 hq5; clear hq5; have B5 := Lib.hid (B4.out.grown hg5 B4.out.size HO4.out.lt); rw [← HSEG.out] at ho5; obtain ⟨A5, c5, rfl, _, _, _⟩ := ho5.formN HSGL.out; have HO5 := Lib.hid ho5; have HBT5 := Lib.hid (HBT3.out.below hs3 B5.out); clear q0 q34 q35 q36 q34a ho5 hg5; obtain ⟨q0, q34, q35, q36⟩ := HNUM.out w5 HBT5.out)
    | ((with_reducible show wpList _ _ _ (⟨some 79, _, _, _, _, _⟩ :: _) _ _); refine wpList_loadAd (op := ⟨some 79, _, _, _, _, _⟩) _ rfl (by rfl) (w.heap.size + 1) 0 (by rfl) t.s HO.out.s (tu_src HBT5.out) ?_)
    | ((with_reducible show wpList _ _ _ (⟨some 81, _, _, _, _, _⟩ :: _) _ _); refine wpList_loadAd (op := ⟨some 81, _, _, _, _, _⟩) _ rfl (by rfl) (w.heap.size + 1) 17 (by rfl) t.d HO.out.d (tu_dst HBT5.out HO.out) ?_)
    | ((with_reducible show wpList _ _ _ (⟨some 82, _, _, _, _, _⟩ :: _) _ _); refine wpList_buildw (op := ⟨some 82, _, _, _, _, _⟩) 68 _ rfl (by rfl) _ (by kernel_rfl) (frL_8 ⟨20, 20 + (SL : Int), 0, 0, false, true, 64, 17, t.s, t.d⟩).toArray (built_4r _ _ _ _ HO.out.s HO.out.d) ?_))
  refine (HPF.out _).mono ?_
  rintro e w6 ⟨A6, c6, rfl, hr6, hb6⟩
  have HR6 := Lib.hid hr6
  have B6 := Lib.hid (B5.out.trans (hb6.mono B5.out.size))
  have HO6 := Lib.hid (HO5.out.below hb6)
  have HU6 := Lib.hid (HO3.out.below B6.out)
  have HBT6 := Lib.hid (HBT3.out.below hs3 B6.out)
  have HS6 := Lib.hid (Nat.le_trans B3.out.size B6.out.size)
  have LX3 := Lib.hid (show (lkB (typedL L t)).length + 20 ≤ 2000000000 by rw [HLK.out]; omega)
  clear hr6 hb6 q0 q34 q35 q36
  go_wp2_with (first
    | ((with_reducible show wpList _ _ _ (⟨some 84, _, _, _, _, _⟩ :: _) _ _); refine wpList_append8 (o := ⟨some 84, _, _, _, _, _⟩) rfl _ _ rfl w2.heap.size _ (lkB (typedL L t)) (by rfl) HU6.out _ A6 20 c6 _ (by rfl) HR6.out LX3.out HS6.out ?_; intro v7 w7 ho7 hg7 hq7; clear hq7; have B7 := Lib.hid (B3.out.trans (B6.out.mono B3.out.size) |>.grown hg7 HS6.out HU6.out.lt); have HO7 := Lib.hid (HO6.out.kept hg7 (own_off HO6.out hgl3)); have HU7 := Lib.hid ho7; have HBT7 := Lib.hid (HBT2.out.below hs2 B7.out); obtain ⟨_, _, hr7⟩ := HO7.out.rdN HSGL.out; have HR7 := Lib.hid hr7; obtain ⟨q0, q34, q35, q36⟩ := HNUM.out w7 HBT7.out; clear ho7 hg7 hr7)
    | ((with_reducible show wpList _ _ _ (⟨some 87, _, _, _, _, _⟩ :: _) _ _); refine wpList_loadAd (op := ⟨some 87, _, _, _, _, _⟩) _ rfl (by rfl) (w.heap.size + 1) 0 (by rfl) t.s HO.out.s (tu_src HBT7.out) ?_)
    | ((with_reducible show wpList _ _ _ (⟨some 89, _, _, _, _, _⟩ :: _) _ _); refine wpList_loadAd (op := ⟨some 89, _, _, _, _, _⟩) _ rfl (by rfl) (w.heap.size + 1) 17 (by rfl) t.d HO.out.d (tu_dst HBT7.out HO.out) ?_))
  refine (FI.out _ A5 c5 HR7.out).mono ?_
  rintro e w8 ⟨vz, rfl, ho8, hb8⟩
  obtain ⟨A8, c8, rfl, _, _, hr8⟩ := ho8.formN HFKL.out
  have HR8 := Lib.hid hr8
  have B8 := Lib.hid (B7.out.trans (hb8.mono B7.out.size))
  have HU8 := Lib.hid (HU7.out.below hb8)
  have LX4 := Lib.hid (show (lkB (typedL L t) ++ putF ⟨20, 20 + (SL : Int), 0, 0, false, true, 64, 17, t.s, t.d⟩).length + SL ≤ 2000000000 by rw [List.length_append, HLK.out, HPL.out]; omega)
  clear ho8 hr8 hb8
  go_wp2_with (((with_reducible show wpList _ _ _ (⟨some 94, _, _, _, _, _⟩ :: _) _ _); refine wpList_append8 (o := ⟨some 94, _, _, _, _, _⟩) rfl _ _ rfl w2.heap.size _ (lkB (typedL L t) ++ putF ⟨20, 20 + (SL : Int), 0, 0, false, true, 64, 17, t.s, t.d⟩) (by rfl) HU8.out _ A8 SL c8 _ (by rfl) HR8.out LX4.out B8.out.size ?_; intro v9 w9 ho9 hg9 hq9; clear hq9; have B9 := Lib.hid (B8.out.grown hg9 B8.out.size HU8.out.lt); rw [← HFIN.out] at ho9; have HU9 := Lib.hid ho9; clear ho9 hg9))
  go_ret
  exact ⟨v9, rfl, by rw [← HFF.out]; exact HU9.out.base_le HB2.out.size, HB2.out.trans (B9.out.mono HB2.out.size)⟩
set_option maxHeartbeats 8000000 in
theorem rmake_U6 {L : Lk} (h6 : L.Six) {A : Option Addr} {n cap : Nat} (hn : n ≤ 1000) {t : Tu} (ho : t.Ok) {f : Int} (hm : MakeOk L t f) {B : Option Addr} {len cb : Nat} {load : List UInt8} (hl : ihN t + (shN_ t + len) ≤ 65575) (w : World) (hT : TagsAt w w.heap.size A n L.ts) (hI : Rd w w.heap.size B len load) (hpr : t.pr = 17) (hsx : t.s.six = true) :
    Calls Try.prog 18 #[lkC L (.slice A n cap), tuC t, .int .i64 f, .slice B len cb] w fun e w' => ∃ v, e = .returned v ∧ Own8 w' w.heap.size v (makeK L t f load) ∧ Below w.heap.size w w' := by
  have hlen := hI.len
  have hsh : shN_ t = 8 := by unfold shN_; rw [hpr]; rfl
  have hih : ihN t = 40 := by unfold ihN; rw [hsx]; rfl
  rw [hsh, hih] at hl
  obtain ⟨S, hS⟩ := Int.eq_ofNat_of_zero_le hm.s0
  obtain ⟨D, hD⟩ := Int.eq_ofNat_of_zero_le hm.d0
  obtain ⟨F, hF⟩ := Int.eq_ofNat_of_zero_le hm.f0
  have hS1 := hm.s1
  have hD1 := hm.d1
  have hF1 := hm.f1
  rw [hS] at hS1
  rw [hD] at hD1
  rw [hF] at hF1
  have hSEG : segK t f load = ((be2 S ++ be2 D) ++ (be2 (8 + len) ++ [0, 0])) ++ load := by
    unfold segK
    rw [if_pos hpr, hS, hD, hlen]
    simp only [List.append_assoc]
    rfl
  have hFL := seg_fault (load := load) hm (by omega)
  have hfk : fillK t f load = fillS t.s.six t.s.b t.d.b true (segK t f load) := by unfold fillK udpT; rw [hpr]; rfl
  have hud : udpT t = true := by unfold udpT; rw [hpr]; rfl
  rw [hud] at hFL
  have hd6 : t.d.six = t.s.six := by
    have := hm.fam
    unfold famB at this
    cases h1 : t.s.six <;> cases h2 : t.d.six <;> rw [h1, h2] at this <;> first | rfl | cases this
  obtain ⟨SL, hSL⟩ : ∃ k, 8 + len = k := ⟨_, rfl⟩
  have hsegl : (segK t f load).length = SL := by rw [segK_len, hsh, hlen]; exact hSL
  have hri := six_right hm hsx (n := SL) (by omega)
  have hfv : six6 t SL = ⟨40, 40 + (SL : Int), 64, false, 0, 17, t.s, t.d⟩ := by unfold six6; rw [hpr]; congr 1
  have hfin : makeK L t f load = (lkB (typedL L t) ++ putF_9 (six6 t SL)) ++ fillK t f load := by unfold makeK ipK headK; rw [hsegl, hsx, List.append_assoc]; rfl
  have hpl : (putF_9 (six6 t SL)).length = 40 := putF_len_9 (f := six6 t SL) ⟨ho.s, ho.d⟩
  rw [hfv] at hri hfin hpl
  have HPF := Lib.hid (fun W => rput_any_9 (f := ⟨40, 40 + (SL : Int), 64, false, 0, 17, t.s, t.d⟩) ⟨ho.s, ho.d⟩ hri W)
  have HFIN := Lib.hid hfin
  have HPL := Lib.hid hpl
  have FI := Lib.hid (fun (W : World) (A' : Option Addr) (c' : Nat) (hR : Rd W W.heap.size A' SL (segK t f load)) => show Calls Try.prog 35 #[adC t.s, adC t.d, .int .i64 17, .slice A' SL c'] W fun e w' => ∃ v, e = .returned v ∧ Own8 w' W.heap.size v (fillK t f load) ∧ Below W.heap.size W w' by
    have := rfill_any t.s.six t.s.b t.d.b ho.s ho.d (by omega) W (cap := c') hR true hFL
    rw [hfk]
    have e : t.d = ⟨t.s.six, t.d.b⟩ := by rw [← hd6]
    rw [e]
    exact this)
  have HFKL := Lib.hid (show (fillK t f load).length = SL by rw [fillK_len, hsh, hlen]; exact hSL)
  obtain ⟨Y, hY, hbl, hbt, hb⟩ : ∃ Y : World, (w.alloc (.cells (lkL L (.slice A n cap)).toArray 41)).alloc (.cells (tuL t).toArray 51) = Y ∧ Blk Y 41 w.heap.size (lkL L (.slice A n cap)) ∧ Blk Y 51 (w.heap.size + 1) (tuL t) ∧ Below w.heap.size w Y := by
    refine ⟨_, rfl, (Blk_10.new w 41 _).alloc _, ?_, ((Below.refl w.heap.size w).alloc (Nat.le_refl _) _).alloc (by simp) _⟩
    have := Blk_10.new (w.alloc (.cells (lkL L (.slice A n cap)).toArray 41)) 51 (tuL t)
    rwa [World.size_alloc] at this
  have HTY := Lib.hid (fun W => typed_any h6 (.slice A n cap) rfl t W)
  have HPUT := Lib.hid (fun W (hB : Below w.heap.size w W) => rput_any7 (typedL L t) (typed_six h6 t) (A := A) (n := n) cap ((hT.below hB).more hB.size) hm.link)
  have HLK := Lib.hid (show (lkB (typedL L t)).length = 14 + 4 * n by rw [lkB_len (typed_six h6 t)]; show 14 + 4 * L.ts.length = _; rw [hT.size])
  have HRB := Lib.hid (fun W (hB : Below w.heap.size w W) => hI.below hB)
  have HNUM := Lib.hid (fun W (hB : Blk W 51 (w.heap.size + 1) (tuL t)) => show W.cell? ⟨w.heap.size + 1, 0, none⟩ = some (.bool true) ∧ W.cell? ⟨w.heap.size + 1, 34, none⟩ = some (.int .i64 17) ∧ W.cell? ⟨w.heap.size + 1, 35, none⟩ = some (.int .i64 (S : Int)) ∧ W.cell? ⟨w.heap.size + 1, 36, none⟩ = some (.int .i64 (D : Int)) by
    obtain ⟨q1, q2, q3⟩ := tu_num hB ho
    rw [hpr] at q1
    rw [hS] at q2
    rw [hD] at q3
    exact ⟨hsx ▸ tu_six hB, q1, q2, q3⟩)
  have HO := Lib.hid ho
  have H6 := Lib.hid h6
  have HFF := Lib.hid hF
  have HSEG := Lib.hid hSEG
  have HSGL := Lib.hid hsegl
  have HLEN := Lib.hid hlen
  have HSL := Lib.hid hSL
  have HBL := Lib.hid hbl
  have HBT := Lib.hid hbt
  have HB := Lib.hid hb
  have E0 := Lib.hid (show lkC L (.slice A n cap) = .agg (lkL L (.slice A n cap)).toArray from rfl)
  have E1 := Lib.hid (show tuC t = .agg (tuL t).toArray from rfl)
  have hYs : w.heap.size + 1 < Y.heap.size := hbt.lt
  rw [E0.out, E1.out]
  rw [E0.out, E1.out] at HTY
  have EQ := Lib.hid hY
  clear hS hD hpr hsx hlen hbl hbt hb h6 ho hm hT hI hY hsh hih hSEG hFL hfk hud hd6 hsegl hri hfv hfin hpl
  obtain ⟨C0, hC0⟩ : ∃ C, (lkL L (.slice A n cap)).toArray = C := ⟨_, rfl⟩
  obtain ⟨C1, hC1⟩ : ∃ C, (tuL t).toArray = C := ⟨_, rfl⟩
  rw [hC0, hC1] at HTY EQ
  rw [hC0, hC1]
  have HC0 := Lib.hid hC0
  have HC1 := Lib.hid hC1
  clear hC0 hC1
  rw [hF]
  clear hF
  go_enter Try.func18, Try.ntmps18
  go_wp2_with (first
    | ((with_reducible show wpList _ _ _ (⟨some 12, _, _, _, _, _⟩ :: _) _ _); rw [EQ.out]; refine wpList_loadM 41 _ rfl (by rfl) w.heap.size 0 (by rfl) (lkL L (.slice A n cap)) (Blk_10.range HBL.out) _ Try.underlying41 rfl (sizeLkL H6.out _) ?_; rw [HC0.out])
    | ((with_reducible show wpList _ _ _ (⟨some 13, _, _, _, _, _⟩ :: _) _ _); refine wpList_loadM 51 _ rfl (by rfl) (w.heap.size + 1) 0 (by rfl) (tuL t) (Blk_10.range HBT.out) _ Try.underlying51 rfl (sizeTuL HO.out) ?_; rw [HC1.out]))
  refine (HTY.out _).mono ?_
  rintro e w2 ⟨rfl, hb2⟩
  have HB2 := Lib.hid (HB.out.trans (hb2.mono HB.out.size))
  have HBT2 := Lib.hid (HBT.out.below HBT.out.lt hb2)
  have hs2 : w.heap.size + 1 < w2.heap.size := Nat.lt_of_lt_of_le hYs hb2.size
  clear hb2
  go_wp2_with fail
  refine (HPUT.out _ HB2.out).mono ?_
  rintro e w3 ⟨v3, rfl, ho3, hb3⟩
  obtain ⟨g3, c3, rfl, hc3, hm3, hg3, hgl3, _⟩ := ho3.formG HLK.out (by omega)
  have B3 := Lib.hid hb3
  have HB3 := Lib.hid (HB2.out.trans (hb3.mono HB2.out.size))
  have HBT3 := Lib.hid (HBT2.out.below HBT2.out.lt hb3)
  have HO3 := Lib.hid ho3
  have hs3 : w.heap.size + 1 < w3.heap.size := Nat.lt_of_lt_of_le hs2 hb3.size
  obtain ⟨q0, q34, q35, q36⟩ := HNUM.out w3 HBT3.out
  have q34a : ∀ o, (w3.alloc o).cell? ⟨w.heap.size + 1, 34, none⟩ = some (.int .i64 17) := fun o => (World.cell?_alloc_lt _ _ _ hs3).trans q34
  clear hb3 ho3
  have w1 : IntKind.i64.wrap ((S : Int) / 256) = (S : Int) / 256 := by rw [IntKind.wrap_i64]; omega
  have w2' : IntKind.u8.wrap ((S : Int) / 256) = (S : Int) / 256 := by rw [IntKind.wrap_u8]; omega
  have w3' : IntKind.u8.wrap ((S : Int) % 256) = (S : Int) % 256 := by rw [IntKind.wrap_u8]; omega
  have w4' : Int.tdiv (S : Int) 256 = (S : Int) / 256 := Int.tdiv_eq_ediv_of_nonneg (by omega)
  have w5' : Int.tmod (S : Int) 256 = (S : Int) % 256 := Int.tmod_eq_emod_of_nonneg (by omega)
  have x1 : IntKind.i64.wrap ((D : Int) / 256) = (D : Int) / 256 := by rw [IntKind.wrap_i64]; omega
  have x2 : IntKind.u8.wrap ((D : Int) / 256) = (D : Int) / 256 := by rw [IntKind.wrap_u8]; omega
  have x3 : IntKind.u8.wrap ((D : Int) % 256) = (D : Int) % 256 := by rw [IntKind.wrap_u8]; omega
  have x4 : Int.tdiv (D : Int) 256 = (D : Int) / 256 := Int.tdiv_eq_ediv_of_nonneg (by omega)
  have x5 : Int.tmod (D : Int) 256 = (D : Int) % 256 := Int.tmod_eq_emod_of_nonneg (by omega)
  have y1 : IntKind.i64.wrap ((8 + (len : Int)) / 256) = (8 + (len : Int)) / 256 := by rw [IntKind.wrap_i64]; omega
  have y2 : IntKind.u8.wrap ((8 + (len : Int)) / 256) = (8 + (len : Int)) / 256 := by rw [IntKind.wrap_u8]; omega
  have y3 : IntKind.u8.wrap ((8 + (len : Int)) % 256) = (8 + (len : Int)) % 256 := by rw [IntKind.wrap_u8]; omega
  have y4 : Int.tdiv (8 + (len : Int)) 256 = (8 + (len : Int)) / 256 := Int.tdiv_eq_ediv_of_nonneg (by omega)
  have y5 : Int.tmod (8 + (len : Int)) 256 = (8 + (len : Int)) % 256 := Int.tmod_eq_emod_of_nonneg (by omega)
  have y6 : IntKind.i64.wrap (8 + (len : Int)) = 8 + (len : Int) := by rw [IntKind.wrap_i64]; omega
  have y9 : IntKind.i64.wrap (40 + (SL : Int)) = 40 + (SL : Int) := by rw [IntKind.wrap_i64]; omega
  obtain ⟨V, hV, hv1, hv2, hvb, hvs⟩ : ∃ V : World, (w3.alloc (.cells ((be2 S ++ be2 D).map v8).toArray 5)).alloc (.cells ((be2 (8 + len) ++ [0, 0]).map v8).toArray 5) = V ∧ V.heap[w3.heap.size]? = some (.cells ((be2 S ++ be2 D).map v8).toArray 5 (0, 0)) ∧ Rd V V.heap.size (some ⟨w3.heap.size + 1, 0, none⟩) 4 (be2 (8 + len) ++ [0, 0]) ∧ Below w3.heap.size w3 V ∧ w3.heap.size < V.heap.size := by
    refine ⟨_, rfl, ?_, ?_, ((Below.refl _ w3).alloc (Nat.le_refl _) _).alloc (by simp) _, by simp; omega⟩
    · exact (Below.heap_alloc _ _ w3.heap.size (by simp)).trans (heap_alloc_new w3 _)
    · have := Rd.laid (w3.alloc (.cells ((be2 S ++ be2 D).map v8).toArray 5)) (be2 (8 + len) ++ [0, 0]) 4 rfl
      rw [World.size_alloc] at this
      exact this.more (by simp)
  rw [ports_cells S D (by omega) (by omega), udp_cells (8 + len) (by omega), show (((8 + len : Nat) : Int)) = 8 + (len : Int) from Int.natCast_add 8 len] at hV
  have HV := Lib.hid hV
  have HX := Lib.hid (laid_own (base := w3.heap.size) (n := 4) hv1 (Nat.le_refl _) rfl (by omega))
  have HRX := Lib.hid hv2
  have BV := Lib.hid hvb
  have SVZ := Lib.hid hvs
  have LX := Lib.hid (show (be2 S ++ be2 D).length + 4 ≤ 2000000000 by show 4 + 4 ≤ _; decide)
  have LX2 := Lib.hid (show ((be2 S ++ be2 D) ++ (be2 (8 + len) ++ [0, 0])).length + len ≤ 2000000000 by show 4 + 4 + len ≤ _; omega)
  clear hV hv1 hv2 hvb hvs
  go_wp2_with (first
    | ((with_reducible show wpList _ _ _ (⟨some 47, _, _, _, _, _⟩ :: _) _ _); rw [HV.out]; refine wpList_append8 (o := ⟨some 47, _, _, _, _, _⟩) rfl _ _ rfl w3.heap.size _ (be2 S ++ be2 D) (by rfl) HX.out _ _ _ _ (be2 (8 + len) ++ [0, 0]) (by rfl) HRX.out LX.out (Nat.le_of_lt SVZ.out) ?_; intro v4 w4 ho4 hg4 hq4; clear hq4; have B4 := Lib.hid (BV.out.grown hg4 BV.out.size HX.out.lt); obtain ⟨A4, c4, rfl, _, _, _⟩ := ho4.formN (n := 8) rfl; have HO4 := Lib.hid ho4; clear ho4 hg4)
    | ((with_reducible show wpList _ _ _ (⟨some 55, _, _, _, _, _⟩ :: _) _ _); refine wpList_append8 (o := ⟨some 55, _, _, _, _, _⟩) rfl _ _ rfl w3.heap.size _ ((be2 S ++ be2 D) ++ (be2 (8 + len) ++ [0, 0])) (by rfl) HO4.out _ B len cb load (by rfl) (HRB.out _ (HB3.out.trans (B4.out.mono HB3.out.size))) LX2.out B4.out.size ?_; intro v5 w5 ho5 hg5 hq5; clear hq5; have B5 := Lib.hid (B4.out.grown hg5 B4.out.size HO4.out.lt); rw [← HSEG.out] at ho5; obtain ⟨A5, c5, rfl, _, _, _⟩ := ho5.formN HSGL.out; have HO5 := Lib.hid ho5; have HBT5 := Lib.hid (HBT3.out.below hs3 B5.out); clear q0 q34 q35 q36 q34a ho5 hg5; obtain ⟨q0, q34, q35, q36⟩ := HNUM.out w5 HBT5.out)
    | ((with_reducible show wpList _ _ _ (⟨some 66, _, _, _, _, _⟩ :: _) _ _); refine wpList_loadAd (op := ⟨some 66, _, _, _, _, _⟩) _ rfl (by rfl) (w.heap.size + 1) 0 (by rfl) t.s HO.out.s (tu_src HBT5.out) ?_)
    | ((with_reducible show wpList _ _ _ (⟨some 68, _, _, _, _, _⟩ :: _) _ _); refine wpList_loadAd (op := ⟨some 68, _, _, _, _, _⟩) _ rfl (by rfl) (w.heap.size + 1) 17 (by rfl) t.d HO.out.d (tu_dst HBT5.out HO.out) ?_)
    | ((with_reducible show wpList _ _ _ (⟨some 69, _, _, _, _, _⟩ :: _) _ _); refine wpList_buildw (op := ⟨some 69, _, _, _, _, _⟩) 65 _ rfl (by rfl) _ (by kernel_rfl) (frL_9 ⟨40, 40 + (SL : Int), 64, false, 0, 17, t.s, t.d⟩).toArray (built_at_9 _ _ _ _ _ _ HO.out.s HO.out.d) ?_))
  refine (HPF.out _).mono ?_
  rintro e w6 ⟨v6, rfl, ho6, hb6⟩
  obtain ⟨A6, c6, rfl, _, _, hr6⟩ := ho6.formN HPL.out
  clear ho6
  have HR6 := Lib.hid hr6
  have B6 := Lib.hid (B5.out.trans (hb6.mono B5.out.size))
  have HO6 := Lib.hid (HO5.out.below hb6)
  have HU6 := Lib.hid (HO3.out.below B6.out)
  have HBT6 := Lib.hid (HBT3.out.below hs3 B6.out)
  have HS6 := Lib.hid (Nat.le_trans B3.out.size B6.out.size)
  have LX3 := Lib.hid (show (lkB (typedL L t)).length + 40 ≤ 2000000000 by rw [HLK.out]; omega)
  clear hr6 hb6 q0 q34 q35 q36
  go_wp2_with (first
    | ((with_reducible show wpList _ _ _ (⟨some 71, _, _, _, _, _⟩ :: _) _ _); refine wpList_append8 (o := ⟨some 71, _, _, _, _, _⟩) rfl _ _ rfl w2.heap.size _ (lkB (typedL L t)) (by rfl) HU6.out _ A6 40 c6 _ (by rfl) HR6.out LX3.out HS6.out ?_; intro v7 w7 ho7 hg7 hq7; clear hq7; have B7 := Lib.hid (B3.out.trans (B6.out.mono B3.out.size) |>.grown hg7 HS6.out HU6.out.lt); have HO7 := Lib.hid (HO6.out.kept hg7 (own_off HO6.out hgl3)); have HU7 := Lib.hid ho7; have HBT7 := Lib.hid (HBT2.out.below hs2 B7.out); obtain ⟨_, _, hr7⟩ := HO7.out.rdN HSGL.out; have HR7 := Lib.hid hr7; obtain ⟨q0, q34, q35, q36⟩ := HNUM.out w7 HBT7.out; clear ho7 hg7 hr7)
    | ((with_reducible show wpList _ _ _ (⟨some 87, _, _, _, _, _⟩ :: _) _ _); refine wpList_loadAd (op := ⟨some 87, _, _, _, _, _⟩) _ rfl (by rfl) (w.heap.size + 1) 0 (by rfl) t.s HO.out.s (tu_src HBT7.out) ?_)
    | ((with_reducible show wpList _ _ _ (⟨some 89, _, _, _, _, _⟩ :: _) _ _); refine wpList_loadAd (op := ⟨some 89, _, _, _, _, _⟩) _ rfl (by rfl) (w.heap.size + 1) 17 (by rfl) t.d HO.out.d (tu_dst HBT7.out HO.out) ?_))
  refine (FI.out _ A5 c5 HR7.out).mono ?_
  rintro e w8 ⟨vz, rfl, ho8, hb8⟩
  obtain ⟨A8, c8, rfl, _, _, hr8⟩ := ho8.formN HFKL.out
  have HR8 := Lib.hid hr8
  have B8 := Lib.hid (B7.out.trans (hb8.mono B7.out.size))
  have HU8 := Lib.hid (HU7.out.below hb8)
  have LX4 := Lib.hid (show (lkB (typedL L t) ++ putF_9 ⟨40, 40 + (SL : Int), 64, false, 0, 17, t.s, t.d⟩).length + SL ≤ 2000000000 by rw [List.length_append, HLK.out, HPL.out]; omega)
  clear ho8 hr8 hb8
  go_wp2_with (((with_reducible show wpList _ _ _ (⟨some 94, _, _, _, _, _⟩ :: _) _ _); refine wpList_append8 (o := ⟨some 94, _, _, _, _, _⟩) rfl _ _ rfl w2.heap.size _ (lkB (typedL L t) ++ putF_9 ⟨40, 40 + (SL : Int), 64, false, 0, 17, t.s, t.d⟩) (by rfl) HU8.out _ A8 SL c8 _ (by rfl) HR8.out LX4.out B8.out.size ?_; intro v9 w9 ho9 hg9 hq9; clear hq9; have B9 := Lib.hid (B8.out.grown hg9 B8.out.size HU8.out.lt); rw [← HFIN.out] at ho9; have HU9 := Lib.hid ho9; clear ho9 hg9))
  go_ret
  exact ⟨v9, rfl, by rw [← HFF.out]; exact HU9.out.base_le HB2.out.size, HB2.out.trans (B9.out.mono HB2.out.size)⟩
set_option maxHeartbeats 8000000 in
theorem rmake_T4 {L : Lk} (h6 : L.Six) {A : Option Addr} {n cap : Nat} (hn : n ≤ 1000) {t : Tu} (ho : t.Ok) {f : Int} (hm : MakeOk L t f) {B : Option Addr} {len cb : Nat} {load : List UInt8} (hl : ihN t + (shN_ t + len) ≤ 65535) (w : World) (hT : TagsAt w w.heap.size A n L.ts) (hI : Rd w w.heap.size B len load) (hpr : t.pr = 6) (hsx : t.s.six = false) :
    Calls Try.prog 18 #[lkC L (.slice A n cap), tuC t, .int .i64 f, .slice B len cb] w fun e w' => ∃ v, e = .returned v ∧ Own8 w' w.heap.size v (makeK L t f load) ∧ Below w.heap.size w w' := by
  have hlen := hI.len
  have hsh : shN_ t = 20 := by unfold shN_; rw [hpr]; rfl
  have hih : ihN t = 20 := by unfold ihN; rw [hsx]; rfl
  rw [hsh, hih] at hl
  obtain ⟨S, hS⟩ := Int.eq_ofNat_of_zero_le hm.s0
  obtain ⟨D, hD⟩ := Int.eq_ofNat_of_zero_le hm.d0
  obtain ⟨F, hF⟩ := Int.eq_ofNat_of_zero_le hm.f0
  have hS1 := hm.s1
  have hD1 := hm.d1
  have hF1 := hm.f1
  rw [hS] at hS1
  rw [hD] at hD1
  rw [hF] at hF1
  have hSEG : segK t f load = ((be2 S ++ be2 D) ++ ([0, 0, 0, 0, 0, 0, 0, 0, 80, UInt8.ofNat F, 0, 0, 0, 0, 0, 0])) ++ load := by
    unfold segK
    rw [if_neg (by rw [hpr]; decide), hS, hD, hF]
    simp only [List.append_assoc]
    rfl
  have hFL := seg_fault (load := load) hm (by omega)
  have hfk : fillK t f load = fillS t.s.six t.s.b t.d.b false (segK t f load) := by unfold fillK udpT; rw [hpr]; rfl
  have hud : udpT t = false := by unfold udpT; rw [hpr]; rfl
  rw [hud] at hFL
  have hd6 : t.d.six = t.s.six := by
    have := hm.fam
    unfold famB at this
    cases h1 : t.s.six <;> cases h2 : t.d.six <;> rw [h1, h2] at this <;> first | rfl | cases this
  obtain ⟨SL, hSL⟩ : ∃ k, 20 + len = k := ⟨_, rfl⟩
  have hsegl : (segK t f load).length = SL := by rw [segK_len, hsh, hlen]; exact hSL
  have hri := four_right hm hsx (n := SL) (by omega)
  have hfv : four4 t SL = ⟨20, 20 + (SL : Int), 0, 0, false, true, 64, 6, t.s, t.d⟩ := by unfold four4; rw [hpr]; congr 1
  have hfin : makeK L t f load = (lkB (typedL L t) ++ putF (four4 t SL)) ++ fillK t f load := by unfold makeK ipK headK; rw [hsegl, hsx, List.append_assoc]; rfl
  have hpl : (putF (four4 t SL)).length = 20 := putF_len (f := four4 t SL) ⟨ho.s, ho.d⟩
  rw [hfv] at hri hfin hpl
  have HPF := Lib.hid (fun W => rput_any_8 (f := ⟨20, 20 + (SL : Int), 0, 0, false, true, 64, 6, t.s, t.d⟩) ⟨ho.s, ho.d⟩ hri W)
  have HFIN := Lib.hid hfin
  have HPL := Lib.hid hpl
  have FI := Lib.hid (fun (W : World) (A' : Option Addr) (c' : Nat) (hR : Rd W W.heap.size A' SL (segK t f load)) => show Calls Try.prog 35 #[adC t.s, adC t.d, .int .i64 6, .slice A' SL c'] W fun e w' => ∃ v, e = .returned v ∧ Own8 w' W.heap.size v (fillK t f load) ∧ Below W.heap.size W w' by
    have := rfill_any t.s.six t.s.b t.d.b ho.s ho.d (by omega) W (cap := c') hR false hFL
    rw [hfk]
    have e : t.d = ⟨t.s.six, t.d.b⟩ := by rw [← hd6]
    rw [e]
    exact this)
  have HFKL := Lib.hid (show (fillK t f load).length = SL by rw [fillK_len, hsh, hlen]; exact hSL)
  obtain ⟨Y, hY, hbl, hbt, hb⟩ : ∃ Y : World, (w.alloc (.cells (lkL L (.slice A n cap)).toArray 41)).alloc (.cells (tuL t).toArray 51) = Y ∧ Blk Y 41 w.heap.size (lkL L (.slice A n cap)) ∧ Blk Y 51 (w.heap.size + 1) (tuL t) ∧ Below w.heap.size w Y := by
    refine ⟨_, rfl, (Blk_10.new w 41 _).alloc _, ?_, ((Below.refl w.heap.size w).alloc (Nat.le_refl _) _).alloc (by simp) _⟩
    have := Blk_10.new (w.alloc (.cells (lkL L (.slice A n cap)).toArray 41)) 51 (tuL t)
    rwa [World.size_alloc] at this
  have HTY := Lib.hid (fun W => typed_any h6 (.slice A n cap) rfl t W)
  have HPUT := Lib.hid (fun W (hB : Below w.heap.size w W) => rput_any7 (typedL L t) (typed_six h6 t) (A := A) (n := n) cap ((hT.below hB).more hB.size) hm.link)
  have HLK := Lib.hid (show (lkB (typedL L t)).length = 14 + 4 * n by rw [lkB_len (typed_six h6 t)]; show 14 + 4 * L.ts.length = _; rw [hT.size])
  have HRB := Lib.hid (fun W (hB : Below w.heap.size w W) => hI.below hB)
  have HNUM := Lib.hid (fun W (hB : Blk W 51 (w.heap.size + 1) (tuL t)) => show W.cell? ⟨w.heap.size + 1, 0, none⟩ = some (.bool false) ∧ W.cell? ⟨w.heap.size + 1, 34, none⟩ = some (.int .i64 6) ∧ W.cell? ⟨w.heap.size + 1, 35, none⟩ = some (.int .i64 (S : Int)) ∧ W.cell? ⟨w.heap.size + 1, 36, none⟩ = some (.int .i64 (D : Int)) by
    obtain ⟨q1, q2, q3⟩ := tu_num hB ho
    rw [hpr] at q1
    rw [hS] at q2
    rw [hD] at q3
    exact ⟨hsx ▸ tu_six hB, q1, q2, q3⟩)
  have HO := Lib.hid ho
  have H6 := Lib.hid h6
  have HFF := Lib.hid hF
  have HSEG := Lib.hid hSEG
  have HSGL := Lib.hid hsegl
  have HLEN := Lib.hid hlen
  have HSL := Lib.hid hSL
  have HBL := Lib.hid hbl
  have HBT := Lib.hid hbt
  have HB := Lib.hid hb
  have E0 := Lib.hid (show lkC L (.slice A n cap) = .agg (lkL L (.slice A n cap)).toArray from rfl)
  have E1 := Lib.hid (show tuC t = .agg (tuL t).toArray from rfl)
  have hYs : w.heap.size + 1 < Y.heap.size := hbt.lt
  rw [E0.out, E1.out]
  rw [E0.out, E1.out] at HTY
  have EQ := Lib.hid hY
  clear hS hD hpr hsx hlen hbl hbt hb h6 ho hm hT hI hY hsh hih hSEG hFL hfk hud hd6 hsegl hri hfv hfin hpl
  obtain ⟨C0, hC0⟩ : ∃ C, (lkL L (.slice A n cap)).toArray = C := ⟨_, rfl⟩
  obtain ⟨C1, hC1⟩ : ∃ C, (tuL t).toArray = C := ⟨_, rfl⟩
  rw [hC0, hC1] at HTY EQ
  rw [hC0, hC1]
  have HC0 := Lib.hid hC0
  have HC1 := Lib.hid hC1
  clear hC0 hC1
  rw [hF]
  clear hF
  go_enter Try.func18, Try.ntmps18
  go_wp2_with (first
    | ((with_reducible show wpList _ _ _ (⟨some 12, _, _, _, _, _⟩ :: _) _ _); rw [EQ.out]; refine wpList_loadM 41 _ rfl (by rfl) w.heap.size 0 (by rfl) (lkL L (.slice A n cap)) (Blk_10.range HBL.out) _ Try.underlying41 rfl (sizeLkL H6.out _) ?_; rw [HC0.out])
    | ((with_reducible show wpList _ _ _ (⟨some 13, _, _, _, _, _⟩ :: _) _ _); refine wpList_loadM 51 _ rfl (by rfl) (w.heap.size + 1) 0 (by rfl) (tuL t) (Blk_10.range HBT.out) _ Try.underlying51 rfl (sizeTuL HO.out) ?_; rw [HC1.out]))
  refine (HTY.out _).mono ?_
  rintro e w2 ⟨rfl, hb2⟩
  have HB2 := Lib.hid (HB.out.trans (hb2.mono HB.out.size))
  have HBT2 := Lib.hid (HBT.out.below HBT.out.lt hb2)
  have hs2 : w.heap.size + 1 < w2.heap.size := Nat.lt_of_lt_of_le hYs hb2.size
  clear hb2
  go_wp2_with fail
  refine (HPUT.out _ HB2.out).mono ?_
  rintro e w3 ⟨v3, rfl, ho3, hb3⟩
  obtain ⟨g3, c3, rfl, hc3, hm3, hg3, hgl3, _⟩ := ho3.formG HLK.out (by omega)
  have B3 := Lib.hid hb3
  have HB3 := Lib.hid (HB2.out.trans (hb3.mono HB2.out.size))
  have HBT3 := Lib.hid (HBT2.out.below HBT2.out.lt hb3)
  have HO3 := Lib.hid ho3
  have hs3 : w.heap.size + 1 < w3.heap.size := Nat.lt_of_lt_of_le hs2 hb3.size
  obtain ⟨q0, q34, q35, q36⟩ := HNUM.out w3 HBT3.out
  have q34a : ∀ o, (w3.alloc o).cell? ⟨w.heap.size + 1, 34, none⟩ = some (.int .i64 6) := fun o => (World.cell?_alloc_lt _ _ _ hs3).trans q34
  clear hb3 ho3
  have w1 : IntKind.i64.wrap ((S : Int) / 256) = (S : Int) / 256 := by rw [IntKind.wrap_i64]; omega
  have w2' : IntKind.u8.wrap ((S : Int) / 256) = (S : Int) / 256 := by rw [IntKind.wrap_u8]; omega
  have w3' : IntKind.u8.wrap ((S : Int) % 256) = (S : Int) % 256 := by rw [IntKind.wrap_u8]; omega
  have w4' : Int.tdiv (S : Int) 256 = (S : Int) / 256 := Int.tdiv_eq_ediv_of_nonneg (by omega)
  have w5' : Int.tmod (S : Int) 256 = (S : Int) % 256 := Int.tmod_eq_emod_of_nonneg (by omega)
  have x1 : IntKind.i64.wrap ((D : Int) / 256) = (D : Int) / 256 := by rw [IntKind.wrap_i64]; omega
  have x2 : IntKind.u8.wrap ((D : Int) / 256) = (D : Int) / 256 := by rw [IntKind.wrap_u8]; omega
  have x3 : IntKind.u8.wrap ((D : Int) % 256) = (D : Int) % 256 := by rw [IntKind.wrap_u8]; omega
  have x4 : Int.tdiv (D : Int) 256 = (D : Int) / 256 := Int.tdiv_eq_ediv_of_nonneg (by omega)
  have x5 : Int.tmod (D : Int) 256 = (D : Int) % 256 := Int.tmod_eq_emod_of_nonneg (by omega)
  have y1 : IntKind.u8.wrap (F : Int) = (F : Int) := by rw [IntKind.wrap_u8]; omega
  have y9 : IntKind.i64.wrap (20 + (SL : Int)) = 20 + (SL : Int) := by rw [IntKind.wrap_i64]; omega
  obtain ⟨V, hV, hv1, hv2, hvb, hvs⟩ : ∃ V : World, (w3.alloc (.cells ((be2 S ++ be2 D).map v8).toArray 5)).alloc (.cells (([0, 0, 0, 0, 0, 0, 0, 0, 80, UInt8.ofNat F, 0, 0, 0, 0, 0, 0]).map v8).toArray 5) = V ∧ V.heap[w3.heap.size]? = some (.cells ((be2 S ++ be2 D).map v8).toArray 5 (0, 0)) ∧ Rd V V.heap.size (some ⟨w3.heap.size + 1, 0, none⟩) 16 ([0, 0, 0, 0, 0, 0, 0, 0, 80, UInt8.ofNat F, 0, 0, 0, 0, 0, 0]) ∧ Below w3.heap.size w3 V ∧ w3.heap.size < V.heap.size := by
    refine ⟨_, rfl, ?_, ?_, ((Below.refl _ w3).alloc (Nat.le_refl _) _).alloc (by simp) _, by simp; omega⟩
    · exact (Below.heap_alloc _ _ w3.heap.size (by simp)).trans (heap_alloc_new w3 _)
    · have := Rd.laid (w3.alloc (.cells ((be2 S ++ be2 D).map v8).toArray 5)) ([0, 0, 0, 0, 0, 0, 0, 0, 80, UInt8.ofNat F, 0, 0, 0, 0, 0, 0]) 16 rfl
      rw [World.size_alloc] at this
      exact this.more (by simp)
  rw [ports_cells S D (by omega) (by omega), tcp_cells F (by omega)] at hV
  have HV := Lib.hid hV
  have HX := Lib.hid (laid_own (base := w3.heap.size) (n := 4) hv1 (Nat.le_refl _) rfl (by omega))
  have HRX := Lib.hid hv2
  have BV := Lib.hid hvb
  have SVZ := Lib.hid hvs
  have LX := Lib.hid (show (be2 S ++ be2 D).length + 16 ≤ 2000000000 by show 4 + 16 ≤ _; decide)
  have LX2 := Lib.hid (show ((be2 S ++ be2 D) ++ ([0, 0, 0, 0, 0, 0, 0, 0, 80, UInt8.ofNat F, 0, 0, 0, 0, 0, 0])).length + len ≤ 2000000000 by show 4 + 16 + len ≤ _; omega)
  clear hV hv1 hv2 hvb hvs
  go_wp2_with (first
    | ((with_reducible show wpList _ _ _ (⟨some 52, _, _, _, _, _⟩ :: _) _ _); rw [HV.out]; refine wpList_append8 (o := ⟨some 52, _, _, _, _, _⟩) rfl _ _ rfl w3.heap.size _ (be2 S ++ be2 D) (by rfl) HX.out _ _ _ _ ([0, 0, 0, 0, 0, 0, 0, 0, 80, UInt8.ofNat F, 0, 0, 0, 0, 0, 0]) (by rfl) HRX.out LX.out (Nat.le_of_lt SVZ.out) ?_; intro v4 w4 ho4 hg4 hq4; clear hq4; have B4 := Lib.hid (BV.out.grown hg4 BV.out.size HX.out.lt); obtain ⟨A4, c4, rfl, _, _, _⟩ := ho4.formN (n := 20) rfl; have HO4 := Lib.hid ho4; clear ho4 hg4)
    | ((with_reducible show wpList _ _ _ (⟨some 55, _, _, _, _, _⟩ :: _) _ _); refine wpList_append8 (o := ⟨some 55, _, _, _, _, _⟩) rfl _ _ rfl w3.heap.size _ ((be2 S ++ be2 D) ++ ([0, 0, 0, 0, 0, 0, 0, 0, 80, UInt8.ofNat F, 0, 0, 0, 0, 0, 0])) (by rfl) HO4.out _ B len cb load (by rfl) (HRB.out _ (HB3.out.trans (B4.out.mono HB3.out.size))) LX2.out B4.out.size ?_; intro v5 w5 ho5 hg5 hq5; clear hq5; have B5 := Lib.hid (B4.out.grown hg5 B4.out.size HO4.out.lt); rw [← HSEG.out] at ho5; obtain ⟨A5, c5, rfl, _, _, _⟩ := ho5.formN HSGL.out; have HO5 := Lib.hid ho5; have HBT5 := Lib.hid (HBT3.out.below hs3 B5.out); clear q0 q34 q35 q36 q34a ho5 hg5; obtain ⟨q0, q34, q35, q36⟩ := HNUM.out w5 HBT5.out)
    | ((with_reducible show wpList _ _ _ (⟨some 79, _, _, _, _, _⟩ :: _) _ _); refine wpList_loadAd (op := ⟨some 79, _, _, _, _, _⟩) _ rfl (by rfl) (w.heap.size + 1) 0 (by rfl) t.s HO.out.s (tu_src HBT5.out) ?_)
    | ((with_reducible show wpList _ _ _ (⟨some 81, _, _, _, _, _⟩ :: _) _ _); refine wpList_loadAd (op := ⟨some 81, _, _, _, _, _⟩) _ rfl (by rfl) (w.heap.size + 1) 17 (by rfl) t.d HO.out.d (tu_dst HBT5.out HO.out) ?_)
    | ((with_reducible show wpList _ _ _ (⟨some 82, _, _, _, _, _⟩ :: _) _ _); refine wpList_buildw (op := ⟨some 82, _, _, _, _, _⟩) 68 _ rfl (by rfl) _ (by kernel_rfl) (frL_8 ⟨20, 20 + (SL : Int), 0, 0, false, true, 64, 6, t.s, t.d⟩).toArray (built_4r _ _ _ _ HO.out.s HO.out.d) ?_))
  refine (HPF.out _).mono ?_
  rintro e w6 ⟨A6, c6, rfl, hr6, hb6⟩
  have HR6 := Lib.hid hr6
  have B6 := Lib.hid (B5.out.trans (hb6.mono B5.out.size))
  have HO6 := Lib.hid (HO5.out.below hb6)
  have HU6 := Lib.hid (HO3.out.below B6.out)
  have HBT6 := Lib.hid (HBT3.out.below hs3 B6.out)
  have HS6 := Lib.hid (Nat.le_trans B3.out.size B6.out.size)
  have LX3 := Lib.hid (show (lkB (typedL L t)).length + 20 ≤ 2000000000 by rw [HLK.out]; omega)
  clear hr6 hb6 q0 q34 q35 q36
  go_wp2_with (first
    | ((with_reducible show wpList _ _ _ (⟨some 84, _, _, _, _, _⟩ :: _) _ _); refine wpList_append8 (o := ⟨some 84, _, _, _, _, _⟩) rfl _ _ rfl w2.heap.size _ (lkB (typedL L t)) (by rfl) HU6.out _ A6 20 c6 _ (by rfl) HR6.out LX3.out HS6.out ?_; intro v7 w7 ho7 hg7 hq7; clear hq7; have B7 := Lib.hid (B3.out.trans (B6.out.mono B3.out.size) |>.grown hg7 HS6.out HU6.out.lt); have HO7 := Lib.hid (HO6.out.kept hg7 (own_off HO6.out hgl3)); have HU7 := Lib.hid ho7; have HBT7 := Lib.hid (HBT2.out.below hs2 B7.out); obtain ⟨_, _, hr7⟩ := HO7.out.rdN HSGL.out; have HR7 := Lib.hid hr7; obtain ⟨q0, q34, q35, q36⟩ := HNUM.out w7 HBT7.out; clear ho7 hg7 hr7)
    | ((with_reducible show wpList _ _ _ (⟨some 87, _, _, _, _, _⟩ :: _) _ _); refine wpList_loadAd (op := ⟨some 87, _, _, _, _, _⟩) _ rfl (by rfl) (w.heap.size + 1) 0 (by rfl) t.s HO.out.s (tu_src HBT7.out) ?_)
    | ((with_reducible show wpList _ _ _ (⟨some 89, _, _, _, _, _⟩ :: _) _ _); refine wpList_loadAd (op := ⟨some 89, _, _, _, _, _⟩) _ rfl (by rfl) (w.heap.size + 1) 17 (by rfl) t.d HO.out.d (tu_dst HBT7.out HO.out) ?_))
  refine (FI.out _ A5 c5 HR7.out).mono ?_
  rintro e w8 ⟨vz, rfl, ho8, hb8⟩
  obtain ⟨A8, c8, rfl, _, _, hr8⟩ := ho8.formN HFKL.out
  have HR8 := Lib.hid hr8
  have B8 := Lib.hid (B7.out.trans (hb8.mono B7.out.size))
  have HU8 := Lib.hid (HU7.out.below hb8)
  have LX4 := Lib.hid (show (lkB (typedL L t) ++ putF ⟨20, 20 + (SL : Int), 0, 0, false, true, 64, 6, t.s, t.d⟩).length + SL ≤ 2000000000 by rw [List.length_append, HLK.out, HPL.out]; omega)
  clear ho8 hr8 hb8
  go_wp2_with (((with_reducible show wpList _ _ _ (⟨some 94, _, _, _, _, _⟩ :: _) _ _); refine wpList_append8 (o := ⟨some 94, _, _, _, _, _⟩) rfl _ _ rfl w2.heap.size _ (lkB (typedL L t) ++ putF ⟨20, 20 + (SL : Int), 0, 0, false, true, 64, 6, t.s, t.d⟩) (by rfl) HU8.out _ A8 SL c8 _ (by rfl) HR8.out LX4.out B8.out.size ?_; intro v9 w9 ho9 hg9 hq9; clear hq9; have B9 := Lib.hid (B8.out.grown hg9 B8.out.size HU8.out.lt); rw [← HFIN.out] at ho9; have HU9 := Lib.hid ho9; clear ho9 hg9))
  go_ret
  exact ⟨v9, rfl, by rw [← HFF.out]; exact HU9.out.base_le HB2.out.size, HB2.out.trans (B9.out.mono HB2.out.size)⟩
set_option maxHeartbeats 8000000 in
theorem rmake_T6 {L : Lk} (h6 : L.Six) {A : Option Addr} {n cap : Nat} (hn : n ≤ 1000) {t : Tu} (ho : t.Ok) {f : Int} (hm : MakeOk L t f) {B : Option Addr} {len cb : Nat} {load : List UInt8} (hl : ihN t + (shN_ t + len) ≤ 65535) (w : World) (hT : TagsAt w w.heap.size A n L.ts) (hI : Rd w w.heap.size B len load) (hpr : t.pr = 6) (hsx : t.s.six = true) :
    Calls Try.prog 18 #[lkC L (.slice A n cap), tuC t, .int .i64 f, .slice B len cb] w fun e w' => ∃ v, e = .returned v ∧ Own8 w' w.heap.size v (makeK L t f load) ∧ Below w.heap.size w w' := by
  have hlen := hI.len
  have hsh : shN_ t = 20 := by unfold shN_; rw [hpr]; rfl
  have hih : ihN t = 40 := by unfold ihN; rw [hsx]; rfl
  rw [hsh, hih] at hl
  obtain ⟨S, hS⟩ := Int.eq_ofNat_of_zero_le hm.s0
  obtain ⟨D, hD⟩ := Int.eq_ofNat_of_zero_le hm.d0
  obtain ⟨F, hF⟩ := Int.eq_ofNat_of_zero_le hm.f0
  have hS1 := hm.s1
  have hD1 := hm.d1
  have hF1 := hm.f1
  rw [hS] at hS1
  rw [hD] at hD1
  rw [hF] at hF1
  have hSEG : segK t f load = ((be2 S ++ be2 D) ++ ([0, 0, 0, 0, 0, 0, 0, 0, 80, UInt8.ofNat F, 0, 0, 0, 0, 0, 0])) ++ load := by
    unfold segK
    rw [if_neg (by rw [hpr]; decide), hS, hD, hF]
    simp only [List.append_assoc]
    rfl
  have hFL := seg_fault (load := load) hm (by omega)
  have hfk : fillK t f load = fillS t.s.six t.s.b t.d.b false (segK t f load) := by unfold fillK udpT; rw [hpr]; rfl
  have hud : udpT t = false := by unfold udpT; rw [hpr]; rfl
  rw [hud] at hFL
  have hd6 : t.d.six = t.s.six := by
    have := hm.fam
    unfold famB at this
    cases h1 : t.s.six <;> cases h2 : t.d.six <;> rw [h1, h2] at this <;> first | rfl | cases this
  obtain ⟨SL, hSL⟩ : ∃ k, 20 + len = k := ⟨_, rfl⟩
  have hsegl : (segK t f load).length = SL := by rw [segK_len, hsh, hlen]; exact hSL
  have hri := six_right hm hsx (n := SL) (by omega)
  have hfv : six6 t SL = ⟨40, 40 + (SL : Int), 64, false, 0, 6, t.s, t.d⟩ := by unfold six6; rw [hpr]; congr 1
  have hfin : makeK L t f load = (lkB (typedL L t) ++ putF_9 (six6 t SL)) ++ fillK t f load := by unfold makeK ipK headK; rw [hsegl, hsx, List.append_assoc]; rfl
  have hpl : (putF_9 (six6 t SL)).length = 40 := putF_len_9 (f := six6 t SL) ⟨ho.s, ho.d⟩
  rw [hfv] at hri hfin hpl
  have HPF := Lib.hid (fun W => rput_any_9 (f := ⟨40, 40 + (SL : Int), 64, false, 0, 6, t.s, t.d⟩) ⟨ho.s, ho.d⟩ hri W)
  have HFIN := Lib.hid hfin
  have HPL := Lib.hid hpl
  have FI := Lib.hid (fun (W : World) (A' : Option Addr) (c' : Nat) (hR : Rd W W.heap.size A' SL (segK t f load)) => show Calls Try.prog 35 #[adC t.s, adC t.d, .int .i64 6, .slice A' SL c'] W fun e w' => ∃ v, e = .returned v ∧ Own8 w' W.heap.size v (fillK t f load) ∧ Below W.heap.size W w' by
    have := rfill_any t.s.six t.s.b t.d.b ho.s ho.d (by omega) W (cap := c') hR false hFL
    rw [hfk]
    have e : t.d = ⟨t.s.six, t.d.b⟩ := by rw [← hd6]
    rw [e]
    exact this)
  have HFKL := Lib.hid (show (fillK t f load).length = SL by rw [fillK_len, hsh, hlen]; exact hSL)
  obtain ⟨Y, hY, hbl, hbt, hb⟩ : ∃ Y : World, (w.alloc (.cells (lkL L (.slice A n cap)).toArray 41)).alloc (.cells (tuL t).toArray 51) = Y ∧ Blk Y 41 w.heap.size (lkL L (.slice A n cap)) ∧ Blk Y 51 (w.heap.size + 1) (tuL t) ∧ Below w.heap.size w Y := by
    refine ⟨_, rfl, (Blk_10.new w 41 _).alloc _, ?_, ((Below.refl w.heap.size w).alloc (Nat.le_refl _) _).alloc (by simp) _⟩
    have := Blk_10.new (w.alloc (.cells (lkL L (.slice A n cap)).toArray 41)) 51 (tuL t)
    rwa [World.size_alloc] at this
  have HTY := Lib.hid (fun W => typed_any h6 (.slice A n cap) rfl t W)
  have HPUT := Lib.hid (fun W (hB : Below w.heap.size w W) => rput_any7 (typedL L t) (typed_six h6 t) (A := A) (n := n) cap ((hT.below hB).more hB.size) hm.link)
  have HLK := Lib.hid (show (lkB (typedL L t)).length = 14 + 4 * n by rw [lkB_len (typed_six h6 t)]; show 14 + 4 * L.ts.length = _; rw [hT.size])
  have HRB := Lib.hid (fun W (hB : Below w.heap.size w W) => hI.below hB)
  have HNUM := Lib.hid (fun W (hB : Blk W 51 (w.heap.size + 1) (tuL t)) => show W.cell? ⟨w.heap.size + 1, 0, none⟩ = some (.bool true) ∧ W.cell? ⟨w.heap.size + 1, 34, none⟩ = some (.int .i64 6) ∧ W.cell? ⟨w.heap.size + 1, 35, none⟩ = some (.int .i64 (S : Int)) ∧ W.cell? ⟨w.heap.size + 1, 36, none⟩ = some (.int .i64 (D : Int)) by
    obtain ⟨q1, q2, q3⟩ := tu_num hB ho
    rw [hpr] at q1
    rw [hS] at q2
    rw [hD] at q3
    exact ⟨hsx ▸ tu_six hB, q1, q2, q3⟩)
  have HO := Lib.hid ho
  have H6 := Lib.hid h6
  have HFF := Lib.hid hF
  have HSEG := Lib.hid hSEG
  have HSGL := Lib.hid hsegl
  have HLEN := Lib.hid hlen
  have HSL := Lib.hid hSL
  have HBL := Lib.hid hbl
  have HBT := Lib.hid hbt
  have HB := Lib.hid hb
  have E0 := Lib.hid (show lkC L (.slice A n cap) = .agg (lkL L (.slice A n cap)).toArray from rfl)
  have E1 := Lib.hid (show tuC t = .agg (tuL t).toArray from rfl)
  have hYs : w.heap.size + 1 < Y.heap.size := hbt.lt
  rw [E0.out, E1.out]
  rw [E0.out, E1.out] at HTY
  have EQ := Lib.hid hY
  clear hS hD hpr hsx hlen hbl hbt hb h6 ho hm hT hI hY hsh hih hSEG hFL hfk hud hd6 hsegl hri hfv hfin hpl
  obtain ⟨C0, hC0⟩ : ∃ C, (lkL L (.slice A n cap)).toArray = C := ⟨_, rfl⟩
  obtain ⟨C1, hC1⟩ : ∃ C, (tuL t).toArray = C := ⟨_, rfl⟩
  rw [hC0, hC1] at HTY EQ
  rw [hC0, hC1]
  have HC0 := Lib.hid hC0
  have HC1 := Lib.hid hC1
  clear hC0 hC1
  rw [hF]
  clear hF
  go_enter Try.func18, Try.ntmps18
  go_wp2_with (first
    | ((with_reducible show wpList _ _ _ (⟨some 12, _, _, _, _, _⟩ :: _) _ _); rw [EQ.out]; refine wpList_loadM 41 _ rfl (by rfl) w.heap.size 0 (by rfl) (lkL L (.slice A n cap)) (Blk_10.range HBL.out) _ Try.underlying41 rfl (sizeLkL H6.out _) ?_; rw [HC0.out])
    | ((with_reducible show wpList _ _ _ (⟨some 13, _, _, _, _, _⟩ :: _) _ _); refine wpList_loadM 51 _ rfl (by rfl) (w.heap.size + 1) 0 (by rfl) (tuL t) (Blk_10.range HBT.out) _ Try.underlying51 rfl (sizeTuL HO.out) ?_; rw [HC1.out]))
  refine (HTY.out _).mono ?_
  rintro e w2 ⟨rfl, hb2⟩
  have HB2 := Lib.hid (HB.out.trans (hb2.mono HB.out.size))
  have HBT2 := Lib.hid (HBT.out.below HBT.out.lt hb2)
  have hs2 : w.heap.size + 1 < w2.heap.size := Nat.lt_of_lt_of_le hYs hb2.size
  clear hb2
  go_wp2_with fail
  refine (HPUT.out _ HB2.out).mono ?_
  rintro e w3 ⟨v3, rfl, ho3, hb3⟩
  obtain ⟨g3, c3, rfl, hc3, hm3, hg3, hgl3, _⟩ := ho3.formG HLK.out (by omega)
  have B3 := Lib.hid hb3
  have HB3 := Lib.hid (HB2.out.trans (hb3.mono HB2.out.size))
  have HBT3 := Lib.hid (HBT2.out.below HBT2.out.lt hb3)
  have HO3 := Lib.hid ho3
  have hs3 : w.heap.size + 1 < w3.heap.size := Nat.lt_of_lt_of_le hs2 hb3.size
  obtain ⟨q0, q34, q35, q36⟩ := HNUM.out w3 HBT3.out
  have q34a : ∀ o, (w3.alloc o).cell? ⟨w.heap.size + 1, 34, none⟩ = some (.int .i64 6) := fun o => (World.cell?_alloc_lt _ _ _ hs3).trans q34
  clear hb3 ho3
  have w1 : IntKind.i64.wrap ((S : Int) / 256) = (S : Int) / 256 := by rw [IntKind.wrap_i64]; omega
  have w2' : IntKind.u8.wrap ((S : Int) / 256) = (S : Int) / 256 := by rw [IntKind.wrap_u8]; omega
  have w3' : IntKind.u8.wrap ((S : Int) % 256) = (S : Int) % 256 := by rw [IntKind.wrap_u8]; omega
  have w4' : Int.tdiv (S : Int) 256 = (S : Int) / 256 := Int.tdiv_eq_ediv_of_nonneg (by omega)
  have w5' : Int.tmod (S : Int) 256 = (S : Int) % 256 := Int.tmod_eq_emod_of_nonneg (by omega)
  have x1 : IntKind.i64.wrap ((D : Int) / 256) = (D : Int) / 256 := by rw [IntKind.wrap_i64]; omega
  have x2 : IntKind.u8.wrap ((D : Int) / 256) = (D : Int) / 256 := by rw [IntKind.wrap_u8]; omega
  have x3 : IntKind.u8.wrap ((D : Int) % 256) = (D : Int) % 256 := by rw [IntKind.wrap_u8]; omega
  have x4 : Int.tdiv (D : Int) 256 = (D : Int) / 256 := Int.tdiv_eq_ediv_of_nonneg (by omega)
  have x5 : Int.tmod (D : Int) 256 = (D : Int) % 256 := Int.tmod_eq_emod_of_nonneg (by omega)
  have y1 : IntKind.u8.wrap (F : Int) = (F : Int) := by rw [IntKind.wrap_u8]; omega
  have y9 : IntKind.i64.wrap (40 + (SL : Int)) = 40 + (SL : Int) := by rw [IntKind.wrap_i64]; omega
  obtain ⟨V, hV, hv1, hv2, hvb, hvs⟩ : ∃ V : World, (w3.alloc (.cells ((be2 S ++ be2 D).map v8).toArray 5)).alloc (.cells (([0, 0, 0, 0, 0, 0, 0, 0, 80, UInt8.ofNat F, 0, 0, 0, 0, 0, 0]).map v8).toArray 5) = V ∧ V.heap[w3.heap.size]? = some (.cells ((be2 S ++ be2 D).map v8).toArray 5 (0, 0)) ∧ Rd V V.heap.size (some ⟨w3.heap.size + 1, 0, none⟩) 16 ([0, 0, 0, 0, 0, 0, 0, 0, 80, UInt8.ofNat F, 0, 0, 0, 0, 0, 0]) ∧ Below w3.heap.size w3 V ∧ w3.heap.size < V.heap.size := by
    refine ⟨_, rfl, ?_, ?_, ((Below.refl _ w3).alloc (Nat.le_refl _) _).alloc (by simp) _, by simp; omega⟩
    · exact (Below.heap_alloc _ _ w3.heap.size (by simp)).trans (heap_alloc_new w3 _)
    · have := Rd.laid (w3.alloc (.cells ((be2 S ++ be2 D).map v8).toArray 5)) ([0, 0, 0, 0, 0, 0, 0, 0, 80, UInt8.ofNat F, 0, 0, 0, 0, 0, 0]) 16 rfl
      rw [World.size_alloc] at this
      exact this.more (by simp)
  rw [ports_cells S D (by omega) (by omega), tcp_cells F (by omega)] at hV
  have HV := Lib.hid hV
  have HX := Lib.hid (laid_own (base := w3.heap.size) (n := 4) hv1 (Nat.le_refl _) rfl (by omega))
  have HRX := Lib.hid hv2
  have BV := Lib.hid hvb
  have SVZ := Lib.hid hvs
  have LX := Lib.hid (show (be2 S ++ be2 D).length + 16 ≤ 2000000000 by show 4 + 16 ≤ _; decide)
  have LX2 := Lib.hid (show ((be2 S ++ be2 D) ++ ([0, 0, 0, 0, 0, 0, 0, 0, 80, UInt8.ofNat F, 0, 0, 0, 0, 0, 0])).length + len ≤ 2000000000 by show 4 + 16 + len ≤ _; omega)
  clear hV hv1 hv2 hvb hvs
  go_wp2_with (first
    | ((with_reducible show wpList _ _ _ (⟨some 52, _, _, _, _, _⟩ :: _) _ _); rw [HV.out]; refine wpList_append8 (o := ⟨some 52, _, _, _, _, _⟩) rfl _ _ rfl w3.heap.size _ (be2 S ++ be2 D) (by rfl) HX.out _ _ _ _ ([0, 0, 0, 0, 0, 0, 0, 0, 80, UInt8.ofNat F, 0, 0, 0, 0, 0, 0]) (by rfl) HRX.out LX.out (Nat.le_of_lt SVZ.out) ?_; intro v4 w4 ho4 hg4 hq4; clear hq4; have B4 := Lib.hid (BV.out.grown hg4 BV.out.size HX.out.lt); obtain ⟨A4, c4, rfl, _, _, _⟩ := ho4.formN (n := 20) rfl; have HO4 := Lib.hid ho4; clear ho4 hg4)
    | ((with_reducible show wpList _ _ _ (⟨some 55, _, _, _, _, _⟩ :: _) _ _); refine wpList_append8 (o := ⟨some 55, _, _, _, _, _⟩) rfl _ _ rfl w3.heap.size _ ((be2 S ++ be2 D) ++ ([0, 0, 0, 0, 0, 0, 0, 0, 80, UInt8.ofNat F, 0, 0, 0, 0, 0, 0])) (by rfl) HO4.out _ B len cb load (by rfl) (HRB.out _ (HB3.out.trans (B4.out.mono HB3.out.size))) LX2.out B4.out.size ?_; intro v5 w5 ho5 hg5 hq5; clear hq5; have B5 := Lib.hid (B4.out.grown hg5 B4.out.size HO4.out.lt); rw [← HSEG.out] at ho5; obtain ⟨A5, c5, rfl, _, _, _⟩ := ho5.formN HSGL.out; have HO5 := Lib.hid ho5; have HBT5 := Lib.hid (HBT3.out.below hs3 B5.out); clear q0 q34 q35 q36 q34a ho5 hg5; obtain ⟨q0, q34, q35, q36⟩ := HNUM.out w5 HBT5.out)
    | ((with_reducible show wpList _ _ _ (⟨some 66, _, _, _, _, _⟩ :: _) _ _); refine wpList_loadAd (op := ⟨some 66, _, _, _, _, _⟩) _ rfl (by rfl) (w.heap.size + 1) 0 (by rfl) t.s HO.out.s (tu_src HBT5.out) ?_)
    | ((with_reducible show wpList _ _ _ (⟨some 68, _, _, _, _, _⟩ :: _) _ _); refine wpList_loadAd (op := ⟨some 68, _, _, _, _, _⟩) _ rfl (by rfl) (w.heap.size + 1) 17 (by rfl) t.d HO.out.d (tu_dst HBT5.out HO.out) ?_)
    | ((with_reducible show wpList _ _ _ (⟨some 69, _, _, _, _, _⟩ :: _) _ _); refine wpList_buildw (op := ⟨some 69, _, _, _, _, _⟩) 65 _ rfl (by rfl) _ (by kernel_rfl) (frL_9 ⟨40, 40 + (SL : Int), 64, false, 0, 6, t.s, t.d⟩).toArray (built_at_9 _ _ _ _ _ _ HO.out.s HO.out.d) ?_))
  refine (HPF.out _).mono ?_
  rintro e w6 ⟨v6, rfl, ho6, hb6⟩
  obtain ⟨A6, c6, rfl, _, _, hr6⟩ := ho6.formN HPL.out
  clear ho6
  have HR6 := Lib.hid hr6
  have B6 := Lib.hid (B5.out.trans (hb6.mono B5.out.size))
  have HO6 := Lib.hid (HO5.out.below hb6)
  have HU6 := Lib.hid (HO3.out.below B6.out)
  have HBT6 := Lib.hid (HBT3.out.below hs3 B6.out)
  have HS6 := Lib.hid (Nat.le_trans B3.out.size B6.out.size)
  have LX3 := Lib.hid (show (lkB (typedL L t)).length + 40 ≤ 2000000000 by rw [HLK.out]; omega)
  clear hr6 hb6 q0 q34 q35 q36
  go_wp2_with (first
    | ((with_reducible show wpList _ _ _ (⟨some 71, _, _, _, _, _⟩ :: _) _ _); refine wpList_append8 (o := ⟨some 71, _, _, _, _, _⟩) rfl _ _ rfl w2.heap.size _ (lkB (typedL L t)) (by rfl) HU6.out _ A6 40 c6 _ (by rfl) HR6.out LX3.out HS6.out ?_; intro v7 w7 ho7 hg7 hq7; clear hq7; have B7 := Lib.hid (B3.out.trans (B6.out.mono B3.out.size) |>.grown hg7 HS6.out HU6.out.lt); have HO7 := Lib.hid (HO6.out.kept hg7 (own_off HO6.out hgl3)); have HU7 := Lib.hid ho7; have HBT7 := Lib.hid (HBT2.out.below hs2 B7.out); obtain ⟨_, _, hr7⟩ := HO7.out.rdN HSGL.out; have HR7 := Lib.hid hr7; obtain ⟨q0, q34, q35, q36⟩ := HNUM.out w7 HBT7.out; clear ho7 hg7 hr7)
    | ((with_reducible show wpList _ _ _ (⟨some 87, _, _, _, _, _⟩ :: _) _ _); refine wpList_loadAd (op := ⟨some 87, _, _, _, _, _⟩) _ rfl (by rfl) (w.heap.size + 1) 0 (by rfl) t.s HO.out.s (tu_src HBT7.out) ?_)
    | ((with_reducible show wpList _ _ _ (⟨some 89, _, _, _, _, _⟩ :: _) _ _); refine wpList_loadAd (op := ⟨some 89, _, _, _, _, _⟩) _ rfl (by rfl) (w.heap.size + 1) 17 (by rfl) t.d HO.out.d (tu_dst HBT7.out HO.out) ?_))
  refine (FI.out _ A5 c5 HR7.out).mono ?_
  rintro e w8 ⟨vz, rfl, ho8, hb8⟩
  obtain ⟨A8, c8, rfl, _, _, hr8⟩ := ho8.formN HFKL.out
  have HR8 := Lib.hid hr8
  have B8 := Lib.hid (B7.out.trans (hb8.mono B7.out.size))
  have HU8 := Lib.hid (HU7.out.below hb8)
  have LX4 := Lib.hid (show (lkB (typedL L t) ++ putF_9 ⟨40, 40 + (SL : Int), 64, false, 0, 6, t.s, t.d⟩).length + SL ≤ 2000000000 by rw [List.length_append, HLK.out, HPL.out]; omega)
  clear ho8 hr8 hb8
  go_wp2_with (((with_reducible show wpList _ _ _ (⟨some 94, _, _, _, _, _⟩ :: _) _ _); refine wpList_append8 (o := ⟨some 94, _, _, _, _, _⟩) rfl _ _ rfl w2.heap.size _ (lkB (typedL L t) ++ putF_9 ⟨40, 40 + (SL : Int), 64, false, 0, 6, t.s, t.d⟩) (by rfl) HU8.out _ A8 SL c8 _ (by rfl) HR8.out LX4.out B8.out.size ?_; intro v9 w9 ho9 hg9 hq9; clear hq9; have B9 := Lib.hid (B8.out.grown hg9 B8.out.size HU8.out.lt); rw [← HFIN.out] at ho9; have HU9 := Lib.hid ho9; clear ho9 hg9))
  go_ret
  exact ⟨v9, rfl, by rw [← HFF.out]; exact HU9.out.base_le HB2.out.size, HB2.out.trans (B9.out.mono HB2.out.size)⟩
/-- The document's Make, of what may be made. -/
theorem rmake_any {L : Lk} (h6 : L.Six) {A : Option Addr} {n cap : Nat} (hn : n ≤ 1000) {t : Tu} (ho : t.Ok) {f : Int} (hm : MakeOk L t f) {B : Option Addr} {len cb : Nat} {load : List UInt8} (hl : ihN t + (shN_ t + len) ≤ 65535) (w : World) (hT : TagsAt w w.heap.size A n L.ts) (hI : Rd w w.heap.size B len load) :
    Calls Try.prog 18 #[lkC L (.slice A n cap), tuC t, .int .i64 f, .slice B len cb] w fun e w' => ∃ v, e = .returned v ∧ Own8 w' w.heap.size v (makeK L t f load) ∧ Below w.heap.size w w' := by
  cases hsx : t.s.six
  · rcases hm.pr with hp | hp
    · exact rmake_T4 h6 hn ho hm hl w hT hI hp hsx
    · exact rmake_U4 h6 hn ho hm hl w hT hI hp hsx
  · rcases hm.pr with hp | hp
    · exact rmake_T6 h6 hn ho hm hl w hT hI hp hsx
    · exact rmake_U6 h6 hn ho hm (Nat.le_trans hl (by decide)) w hT hI hp hsx
end Go.Proofs.Ytomkfcpellcncaa
