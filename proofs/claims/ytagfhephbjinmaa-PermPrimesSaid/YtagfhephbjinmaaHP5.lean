/-
  The program's Of.
-/
import Derived.Test.YtagfhephbjinmaaHP3
import Derived.Test.YtagfhephbjinmaaHP4
import Derived.RangeFuncCalls
namespace Go.Proofs.Ytagfhephbjinmaa
set_option maxRecDepth 100000
open Go.RowKit Go.Shelf Go.Lib

attribute [local go_sem] Oper.semAt_some

def wdC (bs : List UInt8) (q x : Nat) : List UInt8 := if x < q then (bs.drop (8 * x)).take 8 else []
def foldC (bs : List UInt8) (q : Nat) (s0 : V4) (pre : List Nat) : V4 := pre.foldl (fun v x => takeV v (leN (wdC bs q x))) s0
theorem wdC_len (bs : List UInt8) (q x : Nat) : (wdC bs q x).length ≤ 8 := by
  unfold wdC
  split
  · rw [List.length_take]; omega
  · exact Nat.zero_le _
theorem foldC_snoc (bs : List UInt8) (q : Nat) (s0 : V4) (pre : List Nat) (x : Nat) : foldC bs q s0 (pre ++ [x]) = takeV (foldC bs q s0 pre) (leN (wdC bs q x)) := by
  unfold foldC
  rw [List.foldl_append]
  rfl
theorem foldC_ok (bs : List UInt8) (q : Nat) : ∀ (pre : List Nat) {s0 : V4} (_ : s0.Ok), (foldC bs q s0 pre).Ok
  | [], _, h => h
  | x :: pre, _, h => foldC_ok bs q pre (takeV_ok h (leN_lt _ (wdC_len bs q x)))
theorem foldC_upto (bs : List UInt8) (q : Nat) (hq : q = bs.length / 8) (s0 : V4) (k : Nat) (hk : k ≤ q) : foldC bs q s0 (upto id k) = stK (wordW bs) s0 k := by
  induction k with
  | zero => rw [stK_zero]; rfl
  | succ k ih =>
    rw [upto_id_succ, foldC_snoc, ih (by omega), stK_succ]
    congr 1
    unfold wdC wordW
    rw [if_pos (by omega), if_pos (by omega)]
theorem hash_fin (key bs : List UInt8) (q : Nat) (hq : q = bs.length / 8) (s0 : V4) (hs : begV key = s0) : hashW key bs = finV (takeV (stK (wordW bs) s0 q) (lastW bs)) := by
  have e : wordW bs q = lastW bs := by
    unfold wordW
    rw [if_neg (by omega)]
  unfold hashW
  rw [hs, ← hq, stK_succ, e]
theorem chV_rd {w : World} {B n : Nat} {A : Option Addr} {bs : List UInt8} (q x : Nat) (hq : 8 * q ≤ n) (h : Rd w B A n bs) : ∃ A' m, chV A q x = .slice A' m m ∧ m ≤ 8 ∧ Rd w B A' m (wdC bs q x) := by
  unfold chV wdC
  by_cases hx : x < q
  · rw [if_pos hx, if_pos hx]
    exact ⟨_, 8, rfl, Nat.le_refl _, h.part (by omega) (by omega)⟩
  · rw [if_neg hx, if_neg hx]
    exact ⟨none, 0, rfl, Nat.zero_le _, Rd.nil_ _⟩
/-- The block of the words, and what else lies below the loop's beginning. -/
theorem wb_own {α : Type} (w1 : World) (g B : Nat) (cs : α → List Value) (hB : w1.heap.size ≤ B) : OwnFrom B (fun (s : α) W => WB w1 g (cs s) W) := by
  intro s W W' row hs hg hr
  have hne : row ≠ some g := by
    intro e
    obtain ⟨_, ob, h1, h2⟩ := hr g e
    have h3 : W.heap[g]? = some (.cells (cs s).toArray 53 (0, 0)) := hs.1
    rw [h3] at h1
    cases h1
    cases h2
  exact ⟨Blk.gb hs.1 hg hne, World.grownBy.andThen hs.2 hg (fun j hj => Or.inl (Nat.le_trans hB (hr j hj).1))⟩
theorem keeps_below {A B : World} (C : Nat) (h : Below A.heap.size A B) : KeepsFrom C A B := ⟨h.size, fun k _ _ hk _ => (h.block k (Array.getElem?_eq_some_iff.1 hk).1).trans hk⟩
theorem keeps_wb {A B : World} (C g : Nat) {cs : List Value} {T : TypeId} (hb : Blk A T g cs) (h : A.grownBy B (some g)) : KeepsFrom C A B :=
  (KeepsOthers.of_grownBy h (fun j ob hj ho => by cases hj; have h3 : A.heap[g]? = some (.cells cs.toArray T (0, 0)) := hb; rw [h3] at ho; cases ho; rfl)).from C
/-- A whole value of many cells loaded, in the walk inside a fence. -/
theorem wpListIn_load_mid {F : Fence} {n : Nat} {P : Program} {ops : Array Oper} {rest : List Oper} {op : Oper} {a : Act} {w : World} {Q : Exit → Act → World → Prop} (hgd : op.guard = none) (ty : TypeId) (x : Operand) (ho : op.op = .load ty x)
    (b o : Nat) (hx : a.eval x = .pointer (some ⟨b, o, none⟩)) (cs : List Value) (d : TypeDesc) (hc : w.rangeAt b o cs)
    (hu : P.underlying ty = some d) (hd : d.isRow = true) (hi : (P.info? ty).map (·.size) = some cs.length)
    (h : wpListIn F n P ops Q rest (a.put op.dst (.agg cs.toArray)) w) : wpListIn F n P ops Q (op :: rest) a w := by
  refine wpListIn_plain hgd fun K hK => ?_
  have hl := run_loadAt_mid (P := P) w b o ty cs d hc hu hd hi
  unfold Oper.wpIn
  refine ⟨?_, ?_⟩
  · simp [Oper.about, ho]
  · rw [Oper.semAt_plain F _ _ (by rw [ho]; intro c hc'; cases hc')]
    simp [execOp, ho, hx, hl, Result.andThen]
    exact hK _ _ h
set_option maxHeartbeats 8000000 in
theorem pof_any (key : List UInt8) (hk : key.length = 16) (A : Option Addr) (n cap : Nat) (l : List (List UInt8)) (hn : n ≤ 100) (hl : l.flatten.length ≤ 100000) (w : World) (B : Nat) (hI : LsAt w B A n l) (hB : B ≤ w.heap.size) :
    Calls Try.prog 24 #[keyC key, .slice A n cap] w fun e w' => e = .returned (.int .u64 (hashW key l.flatten : Nat)) ∧ Below w.heap.size w w' := by
  obtain ⟨bs, hbs⟩ : ∃ bs, l.flatten = bs := ⟨_, rfl⟩
  rw [hbs] at hl ⊢
  obtain ⟨H, hH⟩ : ∃ H, hashW key bs = H := ⟨_, rfl⟩
  rw [hH]
  have HH := Lib.hid hH
  have HK := Lib.hid hk
  obtain ⟨C0, hC0⟩ : ∃ C, (key.map v8).toArray = C := ⟨_, rfl⟩
  have HC0 := Lib.hid hC0
  obtain ⟨q, hq⟩ : ∃ q, bs.length / 8 = q := ⟨_, rfl⟩
  obtain ⟨len, hlen⟩ : ∃ len, bs.length = len := ⟨_, rfl⟩
  obtain ⟨s0, hs0⟩ : ∃ s, begV key = s := ⟨_, rfl⟩
  have HS0 := Lib.hid hs0
  have hok := begV_ok hk
  rw [hs0] at hok
  have HOK := Lib.hid hok
  have HQ : Hid (q = bs.length / 8) := Lib.hid hq.symm
  have HL := Lib.hid hlen
  have HC : Hid (∀ W, Below w.heap.size w W → Calls Try.prog 28 #[.slice A n cap] W fun e W' => ∃ v, e = .returned v ∧ Own8 W' W.heap.size v bs ∧ Below W.heap.size W W') := Lib.hid (fun W hW => by
    have h := concat_all A n cap l (by omega) (by rw [hbs]; omega) W (hI.below (hW.mono hB)) (Nat.le_trans hB hW.size)
    rwa [hbs] at h)
  have HBG : Hid (∀ W, Calls Try.prog 29 #[.agg C0] W fun e w' => e = .returned (v4C s0) ∧ Below W.heap.size W w') := Lib.hid (fun W => by
    have h := pbegin_any key hk W
    unfold keyC at h
    rwa [hC0, hs0] at h)
  rw [hlen] at hl hq
  have hqi : (len : Int) / 8 = (q : Int) := by omega
  have hq8 : 8 * q ≤ len := by omega
  unfold keyC
  rw [hC0]
  obtain ⟨Y, hY⟩ : ∃ Y, w.alloc (.cells C0 28) = Y := ⟨_, rfl⟩
  have HK0 := Lib.hid (show Blk Y 28 w.heap.size (key.map v8) by rw [← hY, ← hC0]; exact Blk_10.new w _ _)
  have HB0 := Lib.hid (show Below w.heap.size w Y by rw [← hY]; exact (Below.refl w.heap.size w).alloc (Nat.le_refl _) _)
  have HS1 := Lib.hid (show Y.heap.size = w.heap.size + 1 by rw [← hY, World.size_alloc])
  have HY := Lib.hid hY
  obtain ⟨a, b, c, d⟩ := s0
  have HBG2 : Hid (∀ W, Calls Try.prog 29 #[.agg C0] W fun e w' => e = .returned (.agg #[.int .u64 (a : Int), .int .u64 (b : Int), .int .u64 (c : Int), .int .u64 (d : Int)]) ∧ Below W.heap.size W w') := Lib.hid (fun W => HBG.out W)
  clear hI hB hbs hH hk hC0 hs0 hok hlen hq hY HBG
  have f1 : Fence.wide.fn 28 := trivial
  have f2 : Fence.wide.fn 29 := trivial
  have f3 : Fence.wide.fn 30 := trivial
  have f4 : Fence.wide.fn 33 := trivial
  have f5 : Fence.wide.fn 31 := trivial
  have f6 : Fence.wide.fn 34 := trivial
  have f7 : Fence.wide.fn 32 := trivial
  refine (callsIn_wide (n := 6)).1 ?_
  refine callsIn_of_wp_marks Try.func24 rfl trivial ?_ rfl
  simp only [Try.ntmps24, List.size_toArray, List.length_cons, List.length_nil, Nat.reduceAdd, Nat.reduceSub, Array.replicate_succ, Array.replicate_zero, List.push_toArray, List.append_toArray, List.nil_append, List.cons_append]
  gi_wp2_with (first
    | (gi_at_call 28; rw [HY.out]; refine (callsIn_wide.2 (HC.out Y HB0.out)).mono ?_; rintro e W1 ⟨v1, rfl, ho1, hb1⟩; obtain ⟨A1, c1, rfl, h1c, h1m, h1r, _⟩ := ho1.rd; rw [HL.out] at h1c h1r ⊢; have HKB : Hid (Blk W1 28 w.heap.size (key.map v8)) := Lib.hid (Blk_10.below HK0.out (by rw [HS1.out]; omega) hb1); have HO1 := Lib.hid ho1; have HB1 := Lib.hid hb1; have H1C := Lib.hid h1c; have H1M := Lib.hid h1m; have H1R := Lib.hid h1r; have hqc : q * 8 ≤ c1 := (by omega); have hqc2 : (q : Int) * 8 ≤ (c1 : Int) := (by omega); clear ho1 hb1 h1c h1m h1r)
    | ((with_reducible show wpListIn _ _ _ _ _ (⟨some 10, _, _, _, _, _⟩ :: _) _ _); refine wpListIn_load_mid rfl 28 (.tmp 2) rfl w.heap.size 0 (by rfl) (key.map v8) _ (Blk_10.range HKB.out) Try.underlying28 rfl (by rw [List.length_map, HK.out]; kernel_rfl) ?_; rw [HC0.out])
    | (gi_at_call 29; refine (callsIn_wide.2 (HBG2.out W1)).mono ?_; rintro e W2 ⟨rfl, hb2⟩; have HB2 := Lib.hid hb2; clear hb2)
    | (gi_at_call 30; obtain ⟨W3, hW3⟩ : ∃ W3, W2.alloc (.cells #[.int .u64 (a : Int), .int .u64 (b : Int), .int .u64 (c : Int), .int .u64 (d : Int)] 53) = W3 := ⟨_, rfl⟩; rw [hW3]; have HW3 := Lib.hid hW3; clear hW3; refine (chunk_in Fence.wide 5 f3 rfl _ _ _ _).mono ?_; rintro e W4 ⟨rfl, hW4⟩; have HW4 := Lib.hid hW4.symm; clear hW4))
  obtain ⟨g, hg⟩ : ∃ g, W2.heap.size = g := ⟨_, rfl⟩
  have HG2 := Lib.hid hg
  have h3s : W3.heap.size = g + 1 := by rw [← HW3.out, World.size_alloc, hg]
  have h4s : W4.heap.size = g + 3 := by rw [← HW4.out, World.size_alloc, World.size_alloc, h3s]
  have h3b : Blk W3 53 g (v4L ⟨a, b, c, d⟩) := by rw [← HW3.out, ← hg]; exact Blk_10.new W2 _ _
  have h4b : Blk W4 53 g (v4L ⟨a, b, c, d⟩) := by rw [← HW4.out]; exact Blk_10.alloc (Blk_10.alloc h3b _) _
  have bS : W4.cell? ⟨W3.heap.size, 0, none⟩ = some (.slice A1 (q * 8) c1) := by
    rw [← HW4.out]
    exact Blk_10.cell (Blk_10.alloc (Blk_10.new W3 43 [.slice A1 (q * 8) c1]) _) rfl
  have bN : W4.cell? ⟨W3.heap.size + 1, 0, none⟩ = some (.int .i64 8) := by
    rw [← HW4.out]
    have := Blk_10.new (W3.alloc (.cells #[.slice A1 (q * 8) c1] 43)) 3 [.int .i64 8]
    rw [World.size_alloc] at this
    exact Blk_10.cell this rfl
  have hg1 : W1.heap.size ≤ g := by rw [← hg]; exact HB2.out.size
  have hg0 : w.heap.size ≤ g := Nat.le_trans (Nat.le_trans (by rw [HS1.out]; omega) HB1.out.size) hg1
  have h14 : Below W1.heap.size W1 W4 := by
    rw [← HW4.out, ← HW3.out]
    exact ((HB2.out.alloc HB2.out.size _).alloc (by rw [World.size_alloc]; exact Nat.le_succ_of_le HB2.out.size) _).alloc (by rw [World.size_alloc, World.size_alloc]; exact Nat.le_succ_of_le (Nat.le_succ_of_le HB2.out.size)) _
  have h04 : Below w.heap.size w W4 := (HB0.out.trans (HB1.out.mono (by rw [HS1.out]; omega))).trans (h14.mono (Nat.le_trans (by rw [HS1.out]; omega) HB1.out.size))
  have H4B := Lib.hid h4b
  have H14 := Lib.hid h14
  have H04 := Lib.hid h04
  have H4S := Lib.hid h4s
  have H3S := Lib.hid h3s
  have HG1 := Lib.hid hg1
  have HG0 := Lib.hid hg0
  have BS := Lib.hid bS
  have BN := Lib.hid bN
  clear hg h3b h4b h14 h04 h4s hg1 hg0 bS bN
  rw [HG2.out]
  rw [h3s]
  rw [h3s] at BS BN
  clear h3s
  refine wpIn_rangeFunc_ownG rfl (by omega) (gf := 37) (lb := #[.pointer (some ⟨g + 1, 0, none⟩), .pointer (some ⟨g + 1 + 1, 0, none⟩)]) rfl trivial (enters_of Try.func37 (by kernel_rfl) rfl)
    (chunk_stops Fence.wide _ trivial rfl (by omega) (g + 1) (g + 1 + 1) 0 A1 q (q * 8) c1 (by omega) (by have := H1C.out; omega) H1M.out W4 (by rw [H4S.out]; omega) (by rw [H4S.out]; omega) BS.out BN.out) (fun h k => h.trans k) (kpC_b (Nat.zero_le _) (by rw [H4S.out]; omega) (by rw [H4S.out]; omega)) (Below.refl _ _) (fun _ => rfl)
    (fun (pre : List Nat) W => WB W4 g (v4L (foldC bs q ⟨a, b, c, d⟩ pre)) W)
    (fun _ _ _ => False)
    (wb_own W4 g _ (fun pre => v4L (foldC bs q ⟨a, b, c, d⟩ pre)) (Nat.le_refl _))
    (fun _ _ _ _ _ hs _ _ => hs)
    (WB.refl H4B.out)
    (fun (x : Nat) => { tmps := #[.agg C0, .slice A n cap, .pointer (some ⟨w.heap.size, 0, none⟩), undef, .int .u64 0, .slice A1 len c1, .pointer (some ⟨g, 0, none⟩), chV A1 q x, .slice A n cap, .slice A1 len c1, .agg C0, .agg #[.int .u64 (a : Int), .int .u64 (b : Int), .int .u64 (c : Int), .int .u64 (d : Int)], .slice A1 len c1, .slice A1 len c1, .int .i64 (len : Int), .int .i64 (q : Int), .int .i64 ((q : Int) * 8), .slice A1 (q * 8) c1,
      .func (.func 37) #[] #[.pointer (some ⟨g + 1, 0, none⟩), .pointer (some ⟨g + 1 + 1, 0, none⟩)], chV A1 q x, undef, undef, undef, undef, undef, undef, undef], defers := [] }) ?assign ?body ?done ?stop
  case assign =>
    intro l x W K hK
    dsimp only [encC]
    gi_wp2
    exact hK
  case stop =>
    rintro D c pre W _ _ h _
    exact h.elim
  case body =>
    rintro l pre x W hw hlt
    have hbw : Below W1.heap.size W1 W := below_gb H14.out hw.2 HG1.out H14.out.size
    obtain ⟨A', m, hch, hm, hrd⟩ := chV_rd q x hq8 (H1R.out.below hbw)
    have hsz := hbw.size
    have hgt := get_any A' m m (wdC bs q x) false (by omega) (Nat.le_refl _) (by unfold maxLen; omega) W (hrd.more hsz)
    rw [get_leN (wdC_len bs q x)] at hgt
    have HGT := Lib.hid hgt
    have HTK := Lib.hid (fun W' (hb : Blk W' 53 g (v4L (foldC bs q ⟨a, b, c, d⟩ pre))) => ptake_any (foldC_ok bs q pre HOK.out) (leN (wdC bs q x)) (leN_lt _ (wdC_len bs q x)) g W' hb)
    rw [hch]
    have HW := Lib.hid hw
    have hgl := Blk_10.lt hw.1
    have HGL := Lib.hid hgl
    clear hch hm hrd hgt hbw hsz hw hgl hq8 hqi
    gi_wp2_with (first
      | (gi_at_call 32; refine (CallsIn.inRound l (callsIn_wide.2 HGT.out)).mono ?_; rintro e W6 ⟨rfl, hb6⟩; have HB6 := Lib.hid hb6; have HK6 := Lib.hid (show Blk W6 53 g (v4L (foldC bs q ⟨a, b, c, d⟩ pre)) from Blk_10.below (WB.b HW.out) HGL.out hb6); clear hb6)
      | (gi_at_call 31; refine (CallsIn.inRound l (callsIn_wide.2 (HTK.out W6 HK6.out))).mono ?_; rintro e W7 ⟨⟨u7, rfl⟩, hw7⟩))
    have hwt : W.grownBy W7 (some g) := by
      have h6 : W.grownBy W6 (some g) := ⟨HB6.out.os, HB6.out.tape, HB6.out.output, HB6.out.size, fun k hk _ => HB6.out.block k hk⟩
      exact gb_trans h6 hw7.2
    refine ⟨?_, ⟨?_, ?_, ?_⟩, ?_⟩
    · exact (keeps_below _ HB6.out).trans (keeps_wb _ g HK6.out hw7.2)
    · exact (Below.refl 0 W).grown hwt (Nat.zero_le _) (fun k _ => Nat.zero_le k)
    · exact hwt.block (g + 1) (by have := HW.out.2.size; rw [H4S.out] at this; omega) (fun e => by cases e)
    · exact hwt.block (g + 1 + 1) (by have := HW.out.2.size; rw [H4S.out] at this; omega) (fun e => by cases e)
    · show WB W4 g (v4L (foldC bs q ⟨a, b, c, d⟩ (pre ++ [x]))) W7
      rw [foldC_snoc]
      exact ⟨hw7.1, gb_trans HW.out.2 hwt⟩
  case done =>
    rintro D ys W hD rfl hw hK
    rw [foldC_upto bs q HQ.out _ q (Nat.le_refl _)] at hw
    have hv : (stK (wordW bs) ⟨a, b, c, d⟩ q).Ok := stK_ok (wordW_lt bs) HOK.out q
    have hfin : H = finV (takeV (stK (wordW bs) ⟨a, b, c, d⟩ q) (lastW bs)) := by
      rw [← HH.out]
      exact hash_fin key bs q HQ.out _ HS0.out
    obtain ⟨S, hS⟩ : ∃ S, stK (wordW bs) ⟨a, b, c, d⟩ q = S := ⟨_, rfl⟩
    rw [hS] at hw hv hfin
    have hbw : Below W1.heap.size W1 W := below_gb H14.out hw.2 HG1.out H14.out.size
    have h0w : Below w.heap.size w W := below_gb H04.out hw.2 HG0.out H04.out.size
    have HLA := Lib.hid (plast_any A1 len c1 bs hl H1C.out H1M.out W ((H1R.out.below hbw).more hbw.size))
    have hll := lastW_lt bs
    have HTK := Lib.hid (fun W' (hb : Blk W' 53 g (v4L S)) => ptake_any hv (lastW bs) hll g W' hb)
    have HEN := Lib.hid (fun W' (hb : Blk W' 53 g (v4L (takeV S (lastW bs)))) => pend_any (takeV_ok hv hll) g W' hb)
    rw [← hfin] at HEN
    have HW := Lib.hid hw
    have H0W := Lib.hid h0w
    have hgl := Blk_10.lt hw.1
    have HGL := Lib.hid hgl
    have HDK := Lib.hid hK
    have HDD := Lib.hid (show g < D by rw [H4S.out] at hD; omega)
    have HDW := Lib.hid (Nat.le_trans H04.out.size hD)
    clear hS hw hv hfin hbw h0w hll hgl hK hD hl hq8 hqi
    gi_wp2_with (first
      | (gi_at_call 33; refine (callsIn_wide.2 HLA.out).mono ?_; rintro e W6 ⟨rfl, hb6⟩; have HB6 := Lib.hid hb6; have HK6 := Lib.hid (show Blk W6 53 g (v4L S) from Blk_10.below (WB.b HW.out) HGL.out hb6); clear hb6)
      | (gi_at_call 31; refine (callsIn_wide.2 (HTK.out W6 HK6.out)).mono ?_; rintro e W7 ⟨⟨u7, rfl⟩, hw7⟩; have HW7 := Lib.hid hw7; clear hw7)
      | (gi_at_call 34; refine (callsIn_wide.2 (HEN.out W7 (WB.b HW7.out))).mono ?_; rintro e W8 ⟨rfl, hg8⟩))
    have hdl := (Array.getElem?_eq_some_iff.1 HDK.out).1
    have k6 : W6.heap[D]? = some (.deferred (some [])) := (HB6.out.block D hdl).trans HDK.out
    have k7 : W7.heap[D]? = some (.deferred (some [])) := (HW7.out.2.block D (Array.getElem?_eq_some_iff.1 k6).1 (fun e => by have := HDD.out; cases e; omega)).trans k6
    have k8 : W8.heap[D]? = some (.deferred (some [])) := (hg8.block D (Array.getElem?_eq_some_iff.1 k7).1 (fun e => by have := HDD.out; cases e; omega)).trans k7
    have b6 := H0W.out.trans (HB6.out.mono H0W.out.size)
    have b7 := below_gb b6 HW7.out.2 HG0.out b6.size
    have b8 := below_gb b7 hg8 HG0.out b7.size
    refine ⟨by simp, .inl ⟨_, _, rfl, run_takeDeferred k8, ?_⟩⟩
    refine ⟨_, results_tmp rfl _ _ _, rfl, b8.trans (belowK_b (w := w) (Nat.le_refl _) W8 D _ _ HDW.out k8 rfl rfl)⟩
end Go.Proofs.Ytagfhephbjinmaa
