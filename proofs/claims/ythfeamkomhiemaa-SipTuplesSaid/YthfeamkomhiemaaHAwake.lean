/-
  The statements' 'awake', which answers true.
-/
import Derived.Test.YthfeamkomhiemaaHC
namespace Go.Proofs.Ythfeamkomhiemaa
set_option maxRecDepth 100000
open Go.RowKit Go.Lib

def TA : Tu := ⟨Ad.zero, Ad.zero, 6, 258, 772⟩
theorem ta_ok : TA.Ok := ⟨rfl, rfl⟩
theorem ta_fit : TA.Fit := ⟨rfl, ⟨by decide, by decide⟩, ⟨by decide, by decide⟩, ⟨by decide, by decide⟩⟩
theorem flat_one (x : List UInt8) : [x].flatten = x := by simp
theorem flat_two (x y : List UInt8) : [x, y].flatten = x ++ y := by simp
theorem size16h : (Try.prog.info? 22).map (·.size) = some 16 := by kernel_rfl
theorem key_size {key : List UInt8} (h : key.length = 16) : (Try.prog.info? 22).map (·.size) = some (key.map v8).length := by rw [List.length_map, h]; exact size16h
theorem key_one (key : List UInt8) : ∀ v ∈ key.map v8, v.oneCell' = true := by
  intro v hv
  obtain ⟨x, _, rfl⟩ := List.mem_map.1 hv
  rfl
/-- A key out of its box, in a region that draws. -/
theorem yields_key {ops : Array Oper} {S : World → Prop} {op : Oper} {a : Act} (hw : Region.wanted op (yielded ops a.tmps) = true) (x : Operand) (ho : op.op = .load 22 x) (g : Nat) (hx : a.eval x = .pointer (some ⟨g, 0, none⟩)) (key : List UInt8) (hk : key.length = 16)
    (hS : ∀ w, S w → Blk w 22 g (key.map v8)) : YieldsIf Try.prog ops S op (keyC key) a :=
  yieldsIf_load_mid hw 22 x ho g 0 hx (key.map v8) _ (fun w h => Blk_10.range (hS w h)) Try.underlying22 rfl (key_size hk)
theorem yields_tu {ops : Array Oper} {S : World → Prop} {op : Oper} {a : Act} (hw : Region.wanted op (yielded ops a.tmps) = true) (x : Operand) (ho : op.op = .load 34 x) (g : Nat) (hx : a.eval x = .pointer (some ⟨g, 0, none⟩)) (t : Tu) (h : t.Ok)
    (hS : ∀ w, S w → Blk w 34 g (tuL t)) : YieldsIf Try.prog ops S op (tuC t) a :=
  yieldsIf_load_mid hw 34 x ho g 0 hx (tuL t) _ (fun w h2 => Blk_10.range (hS w h2)) Try.underlying34 rfl (sizeTuL h)
/-- A whole value is stored into a cell that was just laid, its block's number a letter. -/
theorem wpList_storeNewN {arr : Array Value} {w : World} {ops : Array Oper} {rest : List Oper} {op : Oper} {a : Act} {Q : Exit → Act → World → Prop} (hgd : op.guard = none) (T : TypeId) (x y : Operand) (ho : op.op = .store T x y) (g : Nat) (hg : w.heap.size = g)
    (hx : a.eval x = .pointer (some ⟨g, 0, none⟩)) (cs : List Value) (hy : a.eval y = .agg cs.toArray) (hl : arr.size = cs.length) (hi : (Try.prog.info? T).map (·.size) = some cs.length) (h1 : ∀ v ∈ cs, v.oneCell' = true)
    (h : ∀ w', Blk w' T g cs → Below g w w' → w'.heap.size = g + 1 → wpList Try.prog ops Q rest (a.put op.dst undef) w') :
    wpList Try.prog ops Q (op :: rest) a (w.alloc (.cells arr T)) := by
  subst hg
  exact wpList_storeNewG hgd T x y ho hx cs hy hl hi h1 h
set_option maxHeartbeats 8000000 in
theorem awake_any (S : SipC) (w : World) : Calls Try.prog 8 #[] w fun e w' => e = .returned (.bool true) ∧ Below w.heap.size w w' := by
  have HO1 : Hid (∀ (A : Option Addr) (l : List (List UInt8)) (n : Nat) (_ : n ≤ 100) (_ : l.flatten = DB) (W : World) (_ : LsAt W W.heap.size A n l), Calls Try.prog 9 #[keyC KB, .slice A n n] W fun e w' => e = .returned (.int .u64 11613035633349379557) ∧ Below W.heap.size W w') := Lib.hid (fun A l n hn hl W hI => by
    have := S.of KB rfl A n n l hn (by rw [hl]; decide) W W.heap.size hI (Nat.le_refl _)
    rw [hl, hash_kb] at this
    exact this)
  have HO2 : Hid (∀ (A : Option Addr) (l : List (List UInt8)) (_ : l.flatten = tuB TA) (W : World) (_ : LsAt W W.heap.size A 1 l), Calls Try.prog 9 #[keyC KB, .slice A 1 1] W fun e w' => e = .returned (.int .u64 (hashW KB (tuB TA) : Nat)) ∧ Below W.heap.size W w') := Lib.hid (fun A l hl W hI => by
    have := S.of KB rfl A 1 1 l (by decide) (by rw [hl]; decide) W W.heap.size hI (Nat.le_refl _)
    rw [hl] at this
    exact this)
  have HH := Lib.hid (fun W => S.hash KB rfl TA ta_ok ta_fit W)
  have HBY := Lib.hid (fun W => S.bytes TA ta_ok ta_fit W)
  obtain ⟨hv, hhv⟩ : ∃ h, hashW KB (tuB TA) = h := ⟨_, rfl⟩
  rw [hhv] at HO2 HH
  clear hhv
  obtain ⟨TB, hTB⟩ : ∃ x, tuB TA = x := ⟨_, rfl⟩
  have HTL : Hid (TB.length = 38) := Lib.hid (by rw [← hTB]; rfl)
  have HT0 : Hid (TB[0]? = some 4 ∧ TB[33]? = some 6 ∧ TB[35]? = some 2) := Lib.hid (by rw [← hTB]; exact ⟨rfl, rfl, rfl⟩)
  rw [hTB] at HO2 HBY
  clear hTB
  go_enter Try.func8, Try.ntmps8
  go_wp2_with (first
    | ((with_reducible show wpList _ _ _ (⟨some 5, _, _, _, _, _⟩ :: _) _ _); refine wpList_buildw (op := ⟨some 5, _, _, _, _, _⟩) 22 _ rfl (by rfl) _ (by kernel_rfl) (KB.map v8).toArray (by kernel_rfl) ?_)
    | ((with_reducible show wpList _ _ _ (⟨none, .store 22 (.tmp 1) _, _, _, _, _⟩ :: _) _ _); refine wpList_storeNewG (op := ⟨none, .store 22 (.tmp 1) _, _, _, _, _⟩) rfl 22 _ _ rfl (by rfl) (KB.map v8) (by rfl) (by rfl) (key_size rfl) (key_one _) ?_; intro w1 hq_ hb_ hz_; have HK1 := Lib.hid hq_; have HB1 := Lib.hid hb_; clear hq_ hb_ hz_)
    | ((with_reducible show wpList _ _ _ (⟨some 7, _, _, _, _, _⟩ :: _) _ _); refine wpList_buildw (op := ⟨some 7, _, _, _, _, _⟩) 34 _ rfl (by rfl) _ (by kernel_rfl) (tuL TA).toArray (by kernel_rfl) ?_)
    | ((with_reducible show wpList _ _ _ (⟨none, .store 34 (.tmp 3) _, _, _, _, _⟩ :: _) _ _); refine wpList_storeNewN (op := ⟨none, .store 34 (.tmp 3) _, _, _, _, _⟩) rfl 34 _ _ rfl (w1.heap.size + 1) (World.size_alloc ..) (by rfl) (tuL TA) (by rfl) (by rfl) (sizeTuL ta_ok) (tuL_one _) ?_; intro w3 hq_ hb_ hz_; have HT3 : Hid (Blk w3 34 (w1.heap.size + 1) (tuL TA)) := Lib.hid hq_; have HB3 : Hid (Below w.heap.size w w3) := Lib.hid ((HB1.out.alloc HB1.out.size _).trans (hb_.mono (Nat.le_succ_of_le HB1.out.size))); have HK3 : Hid (Blk w3 22 w.heap.size (KB.map v8)) := Lib.hid (Blk_10.below (Blk_10.alloc HK1.out _) (Nat.lt_succ_of_lt (Blk_10.lt HK1.out)) hb_); have HD3 : Hid (Rd w3 (w1.heap.size + 1) (some ⟨w1.heap.size, 0, none⟩) 15 DB) := Lib.hid ((Rd.laid w1 DB 15 rfl).below hb_); clear hq_ hb_ hz_; generalize w1.heap.size = G at HT3 HD3 ⊢)
    | ((with_reducible show wpList _ _ _ (⟨some 8, _, _, _, _, _⟩ :: _) _ _); refine wpList_loadTu _ rfl (by rfl) (G + 1) 0 (by rfl) TA ta_ok (Blk_10.range HT3.out) ?_))
  refine (HBY.out w3).mono ?_
  rintro e w4 ⟨v4, rfl, ho4, hb4⟩
  have HB4 := Lib.hid (HB3.out.trans (hb4.mono HB3.out.size))
  have HT4 := Lib.hid (Blk_10.below HT3.out (Blk_10.lt HT3.out) hb4)
  have HK4 := Lib.hid (Blk_10.below HK3.out (Blk_10.lt HK3.out) hb4)
  have HG := Lib.hid (Blk_10.lt HT3.out)
  have HD4 := Lib.hid ((HD3.out.below (hb4.mono (Nat.le_of_lt HG.out))).more (Nat.le_trans (Nat.le_of_lt HG.out) hb4.size))
  obtain ⟨A4, c4, rfl, hc1, hc2, hr4, hg4⟩ := own_rdG ho4 HTL.out
  obtain ⟨g4, rfl, _⟩ := hg4 (by decide)
  have HR4 := Lib.hid hr4
  have HC4 := Lib.hid hc1
  have HM4 := Lib.hid hc2
  clear ho4 hb4 hc1 hc2 hr4 hg4 HB3 HT3 HK3 HD3 HBY
  go_wp2_with fail
  have HQ0 : Hid (∀ W : World, Below w4.heap.size w4 W → W.cell? ⟨g4, 0, none⟩ = some (.int .u8 4)) := Lib.hid (fun W hW => by have := (HR4.out.below hW).cell (k := 0) (by decide); have e := (List.getElem?_eq_some_iff.1 HT0.out.1).2; rw [e] at this; exact this)
  have HQ33 : Hid (∀ W : World, Below w4.heap.size w4 W → W.cell? ⟨g4, 33, none⟩ = some (.int .u8 6)) := Lib.hid (fun W hW => by have := (HR4.out.below hW).cell (k := 33) (by decide); have e := (List.getElem?_eq_some_iff.1 HT0.out.2.1).2; rw [e] at this; exact this)
  have HQ35 : Hid (∀ W : World, Below w4.heap.size w4 W → W.cell? ⟨g4, 35, none⟩ = some (.int .u8 2)) := Lib.hid (fun W hW => by have := (HR4.out.below hW).cell (k := 35) (by decide); have e := (List.getElem?_eq_some_iff.1 HT0.out.2.2).2; rw [e] at this; exact this)
  refine wp_region_held_drew (S := fun W => Below w4.heap.size w4 W) (by kernel_rfl) ((Below.refl _ _).drew) (fun hHeld => ?_)
  obtain ⟨X, hX⟩ : ∃ X, w4.drew = X := ⟨_, rfl⟩
  rw [hX] at hHeld ⊢
  clear hX
  refine tkY 0 10 (keyC KB) rfl (yields_key (by rfl) _ rfl w.heap.size rfl KB rfl (fun W hW => Blk_10.below HK4.out (Nat.lt_of_lt_of_le (Blk_10.lt HK4.out) (Nat.le_refl _)) hW)) hHeld ?_
  simp only [Act.put, sA, sZ, sS]
  refine tk 1 11 (.slice (some ⟨G, 0, none⟩) 15 15) rfl hHeld ?_
  simp only [Act.put, sA, sZ, sS]
  refine wpAnyH_ready (rs := [2]) (by kernel_rfl) (by simp) (AllReadyH.cons (o := ⟨some 12, _, _, _, _, _⟩) rfl (fun K hK => ?_) AllReadyH.nil)
  go_simp
  have HX1 := Lib.hid (hHeld.alloc hHeld.size (.cells #[.slice (some ⟨G, 0, none⟩) 15 15] 23))
  have HL1 := Lib.hid (LsAt.one (w := X) (B := X.heap.size) (n := 15) (c := 15) (((HD4.out).below hHeld).more hHeld.size) (Nat.le_refl _) (Nat.le_refl _) (by decide))
  obtain ⟨Y1, hY⟩ : ∃ Y, X.alloc (.cells #[.slice (some ⟨G, 0, none⟩) 15 15] 23) = Y := ⟨_, rfl⟩
  have hs := World.size_alloc X (.cells #[.slice (some ⟨G, 0, none⟩) 15 15] 23)
  rw [hY] at HX1 HL1 hs ⊢
  rw [← hs] at HL1
  clear hY hs
  generalize X.heap.size = g1 at HL1 ⊢
  refine hK.out _ _ (HX1.out) (fun hHeld => ?_)
  clear hK K 
  refine wpAnyH_ready (rs := [3]) (by kernel_rfl) (by simp) (AllReadyH.cons (o := ⟨some 13, _, _, _, _, _⟩) rfl (fun K hK => ?_) AllReadyH.nil)
  go_simp
  refine (HO1.out _ [DB] 1 (by decide) (flat_one _) _ HL1.out).mono ?_
  rintro e Z1 ⟨rfl, hb⟩
  have HZ1 := Lib.hid (hHeld.trans (hb.mono hHeld.size))
  refine hK.out _ _ (HZ1.out) (fun hHeld => ?_)
  clear hK K hb HL1 HX1
  refine tk 4 14 (.bool true) rfl hHeld ?_
  simp only [Act.put, sA, sZ, sS]
  refine tk 5 15 (.bool true) rfl hHeld ?_
  simp only [Act.put, sA, sZ, sS]
  refine tkY 6 16 (keyC KB) rfl (yields_key (by rfl) _ rfl w.heap.size rfl KB rfl (fun W hW => Blk_10.below HK4.out (Nat.lt_of_lt_of_le (Blk_10.lt HK4.out) (Nat.le_refl _)) hW)) hHeld ?_
  simp only [Act.put, sA, sZ, sS]
  refine tk 7 17 (.slice (some ⟨G, 0, none⟩) 15 15) rfl hHeld ?_
  simp only [Act.put, sA, sZ, sS]
  refine tk 8 18 (.slice (some ⟨G, 0, none⟩) 4 15) rfl hHeld ?_
  simp only [Act.put, sA, sZ, sS]
  refine tk 9 19 (.slice (some ⟨G, 0, none⟩) 15 15) rfl hHeld ?_
  simp only [Act.put, sA, sZ, sS]
  refine tk 10 20 (.slice (some ⟨G, 4, none⟩) 11 11) rfl hHeld ?_
  simp only [Act.put, sA, sZ, sS]
  refine wpAnyH_ready (rs := [11]) (by kernel_rfl) (by simp) (AllReadyH.cons (o := ⟨some 21, _, _, _, _, _⟩) rfl (fun K hK => ?_) AllReadyH.nil)
  go_simp
  have HX2 := Lib.hid (hHeld.alloc hHeld.size (.cells #[.slice (some ⟨G, 0, none⟩) 4 15, .slice (some ⟨G, 4, none⟩) 11 11] 23))
  have HL2 := Lib.hid (CellsAt.laid (w := Z1) (B := Z1.heap.size) (cs := [.slice (some ⟨G, 0, none⟩) 4 15, .slice (some ⟨G, 4, none⟩) 11 11]) (CellsAt.cons (((HD4.out.take (k := 4) (by decide)).below hHeld).more hHeld.size) (by decide) (by decide) (CellsAt.one (((HD4.out.at0 (l := 4) (m := 11) (by decide)).below hHeld).more hHeld.size) (Nat.le_refl _) (by decide))) (Nat.le_refl _) 2 rfl)
  obtain ⟨Y2, hY⟩ : ∃ Y, Z1.alloc (.cells #[.slice (some ⟨G, 0, none⟩) 4 15, .slice (some ⟨G, 4, none⟩) 11 11] 23) = Y := ⟨_, rfl⟩
  have hs := World.size_alloc Z1 (.cells #[.slice (some ⟨G, 0, none⟩) 4 15, .slice (some ⟨G, 4, none⟩) 11 11] 23)
  rw [hY] at HX2 hs ⊢
  rw [show [Value.slice (some ⟨G, 0, none⟩) 4 15, .slice (some ⟨G, 4, none⟩) 11 11].toArray = #[.slice (some ⟨G, 0, none⟩) 4 15, .slice (some ⟨G, 4, none⟩) 11 11] from rfl, hY, ← hs] at HL2
  clear hY hs
  generalize Z1.heap.size = g2 at HL2 ⊢
  refine hK.out _ _ (HX2.out) (fun hHeld => ?_)
  clear hK K 
  refine wpAnyH_ready (rs := [12]) (by kernel_rfl) (by simp) (AllReadyH.cons (o := ⟨some 22, _, _, _, _, _⟩) rfl (fun K hK => ?_) AllReadyH.nil)
  go_simp
  refine (HO1.out _ _ 2 (by decide) ((flat_two _ _).trans (by decide)) _ HL2.out).mono ?_
  rintro e Z2 ⟨rfl, hb⟩
  have HZ2 := Lib.hid (hHeld.trans (hb.mono hHeld.size))
  refine hK.out _ _ (HZ2.out) (fun hHeld => ?_)
  clear hK K hb HL2 HX2 HZ1
  refine tk 13 23 (.bool true) rfl hHeld ?_
  simp only [Act.put, sA, sZ, sS]
  refine tk 14 24 (.bool true) rfl hHeld ?_
  simp only [Act.put, sA, sZ, sS]
  refine tk 15 25 (.bool true) rfl hHeld ?_
  simp only [Act.put, sA, sZ, sS]
  refine tk 16 26 (.slice (some ⟨g4, 0, none⟩) 38 c4) rfl hHeld ?_
  simp only [Act.put, sA, sZ, sS]
  refine tk 17 27 (.int .i64 38) rfl hHeld ?_
  simp only [Act.put, sA, sZ, sS]
  refine tk 18 28 (.bool true) rfl hHeld ?_
  simp only [Act.put, sA, sZ, sS]
  refine tk 19 29 (.bool true) rfl hHeld ?_
  simp only [Act.put, sA, sZ, sS]
  refine tk 20 30 (.bool true) rfl hHeld ?_
  simp only [Act.put, sA, sZ, sS]
  refine tk 21 31 (.slice (some ⟨g4, 0, none⟩) 38 c4) rfl hHeld ?_
  simp only [Act.put, sA, sZ, sS]
  refine tk 22 32 (.pointer (some ⟨g4, 0, none⟩)) rfl hHeld ?_
  simp only [Act.put, sA, sZ, sS]
  refine tkY 23 33 (.int .u8 4) rfl (Or.inl ⟨by rfl, fun W hW => by have hc := HQ0.out W hW; go_simp⟩) hHeld ?_
  simp only [Act.put, sA, sZ, sS]
  refine tk 24 34 (.bool true) rfl hHeld ?_
  simp only [Act.put, sA, sZ, sS]
  refine tk 25 35 (.bool true) rfl hHeld ?_
  simp only [Act.put, sA, sZ, sS]
  refine tk 26 36 (.bool true) rfl hHeld ?_
  simp only [Act.put, sA, sZ, sS]
  refine tk 27 37 (.slice (some ⟨g4, 0, none⟩) 38 c4) rfl hHeld ?_
  simp only [Act.put, sA, sZ, sS]
  refine tk 28 38 (.pointer (some ⟨g4, 33, none⟩)) rfl hHeld ?_
  simp only [Act.put, sA, sZ, sS]
  refine tkY 29 39 (.int .u8 6) rfl (Or.inl ⟨by rfl, fun W hW => by have hc := HQ33.out W hW; go_simp⟩) hHeld ?_
  simp only [Act.put, sA, sZ, sS]
  refine tk 30 40 (.bool true) rfl hHeld ?_
  simp only [Act.put, sA, sZ, sS]
  refine tk 31 41 (.bool true) rfl hHeld ?_
  simp only [Act.put, sA, sZ, sS]
  refine tk 32 42 (.bool true) rfl hHeld ?_
  simp only [Act.put, sA, sZ, sS]
  refine tk 33 43 (.slice (some ⟨g4, 0, none⟩) 38 c4) rfl hHeld ?_
  simp only [Act.put, sA, sZ, sS]
  refine tk 34 44 (.pointer (some ⟨g4, 35, none⟩)) rfl hHeld ?_
  simp only [Act.put, sA, sZ, sS]
  refine tkY 35 45 (.int .u8 2) rfl (Or.inl ⟨by rfl, fun W hW => by have hc := HQ35.out W hW; go_simp⟩) hHeld ?_
  simp only [Act.put, sA, sZ, sS]
  refine tk 36 46 (.bool true) rfl hHeld ?_
  simp only [Act.put, sA, sZ, sS]
  refine tk 37 47 (.bool true) rfl hHeld ?_
  simp only [Act.put, sA, sZ, sS]
  refine tk 38 48 (.bool true) rfl hHeld ?_
  simp only [Act.put, sA, sZ, sS]
  refine tkY 39 49 (keyC KB) rfl (yields_key (by rfl) _ rfl w.heap.size rfl KB rfl (fun W hW => Blk_10.below HK4.out (Nat.lt_of_lt_of_le (Blk_10.lt HK4.out) (Nat.le_refl _)) hW)) hHeld ?_
  simp only [Act.put, sA, sZ, sS]
  refine tkY 40 50 (tuC TA) rfl (yields_tu (by rfl) _ rfl (G + 1) rfl TA ta_ok (fun W hW => Blk_10.below HT4.out (Blk_10.lt HT4.out) hW)) hHeld ?_
  simp only [Act.put, sA, sZ, sS]
  refine tkY 42 52 (keyC KB) rfl (yields_key (by rfl) _ rfl w.heap.size rfl KB rfl (fun W hW => Blk_10.below HK4.out (Nat.lt_of_lt_of_le (Blk_10.lt HK4.out) (Nat.le_refl _)) hW)) hHeld ?_
  simp only [Act.put, sA, sZ, sS]
  refine tk 43 53 (.slice (some ⟨g4, 0, none⟩) 38 c4) rfl hHeld ?_
  simp only [Act.put, sA, sZ, sS]
  refine wpAnyH_ready (rs := [41, 44]) (by kernel_rfl) (by simp) (AllReadyH.cons (o := ⟨some 51, _, _, _, _, _⟩) rfl (fun K hK => ?_) (AllReadyH.cons (o := ⟨some 54, _, _, _, _, _⟩) rfl (fun K hK => ?_) AllReadyH.nil))
  · go_simp
    refine (HH.out _).mono ?_
    rintro e Z3 ⟨rfl, hb⟩
    have HZ3 := Lib.hid (hHeld.trans (hb.mono hHeld.size))
    refine hK.out _ _ (HZ3.out) (fun hHeld => ?_)
    clear hK K hb HZ2
    refine wpAnyH_ready (rs := [44]) (by kernel_rfl) (by simp) (AllReadyH.cons (o := ⟨some 54, _, _, _, _, _⟩) rfl (fun K hK => ?_) AllReadyH.nil)
    go_simp
    have HX3 := Lib.hid (hHeld.alloc hHeld.size (.cells #[.slice (some ⟨g4, 0, none⟩) 38 c4] 23))
    have HL3 := Lib.hid (LsAt.one (w := Z3) (B := Z3.heap.size) (n := 38) (c := c4) ((HR4.out.below hHeld).more hHeld.size) (Nat.le_refl _) HC4.out HM4.out)
    obtain ⟨Y3, hY⟩ : ∃ Y, Z3.alloc (.cells #[.slice (some ⟨g4, 0, none⟩) 38 c4] 23) = Y := ⟨_, rfl⟩
    have hs := World.size_alloc Z3 (.cells #[.slice (some ⟨g4, 0, none⟩) 38 c4] 23)
    rw [hY] at HX3 HL3 hs ⊢
    rw [← hs] at HL3
    clear hY hs
    generalize Z3.heap.size = g3 at HL3 ⊢
    refine hK.out _ _ (HX3.out) (fun hHeld => ?_)
    clear hK K 
    refine wpAnyH_ready (rs := [45]) (by kernel_rfl) (by simp) (AllReadyH.cons (o := ⟨some 55, _, _, _, _, _⟩) rfl (fun K hK => ?_) AllReadyH.nil)
    go_simp
    refine (HO2.out _ [TB] (flat_one _) _ HL3.out).mono ?_
    rintro e Z4 ⟨rfl, hb⟩
    have HZ4 := Lib.hid (hHeld.trans (hb.mono hHeld.size))
    refine hK.out _ _ (HZ4.out) (fun hHeld => ?_)
    clear hK K hb HL3 HX3
    refine tk 46 56 (.bool true) rfl hHeld ?_
    simp only [Act.put, sA, sZ, sS]
    refine tk 47 57 (.bool true) rfl hHeld ?_
    simp only [Act.put, sA, sZ, sS]
    refine tk 48 0 (.bool true) rfl hHeld ?_
    simp only [Act.put, sA, sZ]
    refine wpAnyH_done (by kernel_rfl) ?_ _
    go_wp2_with fail
    go_ret
    exact ⟨rfl, HB4.out.trans (hHeld.mono HB4.out.size)⟩
  · go_simp
    have HX3 := Lib.hid (hHeld.alloc hHeld.size (.cells #[.slice (some ⟨g4, 0, none⟩) 38 c4] 23))
    have HL3 := Lib.hid (LsAt.one (w := Z2) (B := Z2.heap.size) (n := 38) (c := c4) ((HR4.out.below hHeld).more hHeld.size) (Nat.le_refl _) HC4.out HM4.out)
    obtain ⟨Y3, hY⟩ : ∃ Y, Z2.alloc (.cells #[.slice (some ⟨g4, 0, none⟩) 38 c4] 23) = Y := ⟨_, rfl⟩
    have hs := World.size_alloc Z2 (.cells #[.slice (some ⟨g4, 0, none⟩) 38 c4] 23)
    rw [hY] at HX3 HL3 hs ⊢
    rw [← hs] at HL3
    clear hY hs
    generalize Z2.heap.size = g3 at HL3 ⊢
    refine hK.out _ _ (HX3.out) (fun hHeld => ?_)
    clear hK K 
    refine wpAnyH_ready (rs := [41]) (by kernel_rfl) (by simp) (AllReadyH.cons (o := ⟨some 51, _, _, _, _, _⟩) rfl (fun K hK => ?_) AllReadyH.nil)
    go_simp
    refine (HH.out _).mono ?_
    rintro e Z3 ⟨rfl, hb⟩
    have HZ3 := Lib.hid (hHeld.trans (hb.mono hHeld.size))
    have HL3 := Lib.hid ((HL3.out.below hb).more hb.size)
    refine hK.out _ _ (HZ3.out) (fun hHeld => ?_)
    clear hK K hb HZ2
    refine wpAnyH_ready (rs := [45]) (by kernel_rfl) (by simp) (AllReadyH.cons (o := ⟨some 55, _, _, _, _, _⟩) rfl (fun K hK => ?_) AllReadyH.nil)
    go_simp
    refine (HO2.out _ [TB] (flat_one _) _ HL3.out).mono ?_
    rintro e Z4 ⟨rfl, hb⟩
    have HZ4 := Lib.hid (hHeld.trans (hb.mono hHeld.size))
    refine hK.out _ _ (HZ4.out) (fun hHeld => ?_)
    clear hK K hb HL3 HX3
    refine tk 46 56 (.bool true) rfl hHeld ?_
    simp only [Act.put, sA, sZ, sS]
    refine tk 47 57 (.bool true) rfl hHeld ?_
    simp only [Act.put, sA, sZ, sS]
    refine tk 48 0 (.bool true) rfl hHeld ?_
    simp only [Act.put, sA, sZ]
    refine wpAnyH_done (by kernel_rfl) ?_ _
    go_wp2_with fail
    go_ret
    exact ⟨rfl, HB4.out.trans (hHeld.mono HB4.out.size)⟩
end Go.Proofs.Ythfeamkomhiemaa
