/-
  Contracts: slices.Backward over bytes (the iterator: indexes from the last one down, with their bytes), octet.Turn (a new slice of the bytes, the last one first), octet.Get's loop.
-/
import Derived.Test.YtcimgbjliamaiaaBytes
import Derived.RangeFuncNested
import Derived.RangeFuncBound
import Derived.RangeFuncCalls
import Derived.RangeFuncLeaves
import Derived.RangeFuncBox
import Derived.Maps.AppendAt
import Derived.Shelf.Abstract
import Derived.Shelf.RegionOpen
import Derived.OwnWalkIn
import Derived.TacticsInMore
import Derived.LoopNIn
import Derived.LoopIn
namespace Go.Proofs.Ytcimgbjliamaiaa
open Go.RowKit Go.Shelf

attribute [local go_sem] Oper.semAt_some

/-- What has come when k rounds are over: f 0, .., f (k - 1). -/
def upto {α : Type} (f : Nat → α) (k : Nat) : List α := (List.range k).map f
theorem upto_succ {α : Type} (f : Nat → α) (k : Nat) : upto f (k + 1) = upto f k ++ [f k] := by simp [upto, List.range_succ]
theorem upto_length {α : Type} (f : Nat → α) (k : Nat) : (upto f k).length = k := by simp [upto]

/-- The j-th pair that Backward hands on: the index from behind, and its byte. -/
def backAt (xs : List UInt8) (j : Nat) : Nat × UInt8 := (xs.length - 1 - j, xs[xs.length - 1 - j]?.getD 0)
theorem backAt_all (xs : List UInt8) : (upto (backAt xs) xs.length).map (·.2) = xs.reverse := by
  apply List.ext_getElem
  · simp [upto]
  · intro i h1 h2
    have hi : i < xs.length := by simpa using h2
    have : xs.length - 1 - i < xs.length := by omega
    simp [upto, backAt, List.getElem_reverse, this]

/-- What a round that goes on keeps: all below n₀, and the box of the slice that is gone through. -/
def KpB (n₀ Bs : Nat) (W W' : World) : Prop := Below n₀ W W' ∧ W'.heap[Bs]? = W.heap[Bs]?
theorem KpB.refl (n₀ Bs : Nat) (W : World) : KpB n₀ Bs W W := ⟨Below.refl _ _, rfl⟩
theorem KpB.trans {n₀ Bs : Nat} {A B C : World} (h : KpB n₀ Bs A B) (k : KpB n₀ Bs B C) : KpB n₀ Bs A C := ⟨h.1.trans k.1, k.2.trans h.2⟩
theorem kpB_b {n₀ Bs : Nat} {w : World} (hn : n₀ ≤ w.heap.size) (hBs : Bs < w.heap.size) (W : World) (l : Nat) (o o' : Obj) (hl : w.heap.size ≤ l) (h : W.heap[l]? = some o) (h1 : o.isCells = false) (h2 : o.isWalk = false) : KpB n₀ Bs W (W.putObj l o') :=
  ⟨belowK_b hn W l o o' hl h h1 h2, (grownBy_putObj' W l o').block Bs (by have := (Array.getElem?_eq_some_iff.1 h).1; omega) (fun e => by cases e; omega)⟩

def encP (x : Nat × UInt8) : Array Value := #[.int .i64 (x.1 : Int), .int .u8 (x.2.toNat : Int)]

set_option maxRecDepth 100000 in
set_option maxHeartbeats 2000000 in
theorem back1_in (F : Fence) (n : Nat) (hF : F.fn 41) (hro : F.round = none) (hn : 1 ≤ n) (l Bs n₀ : Nat) (A : Option Addr) (len cap : Nat) (xs : List UInt8) (hlen : len ≤ 9223372036854775807) (J Jx : List (Nat × UInt8) → World → Prop)
    (hY : ∀ pre x W, J pre W → pre.length < len → YieldAt F (n - 1) Try.prog l (encP x) W fun e W' =>
      (e = .returned (.bool true) ∧ J (pre ++ [x]) W' ∧ KpB n₀ Bs W W') ∨ (e = .returned (.bool false) ∧ Jx (pre ++ [x]) W'))
    (W : World) (hBs : W.cell? ⟨Bs, 0, none⟩ = some (.slice A len cap)) (hc : Rd W n₀ A len xs) (h0 : J [] W) :
    CallsIn F n Try.prog 41 #[.func (.yield l) #[] #[], .pointer (some ⟨Bs, 0, none⟩)] W fun e W' => (∃ v, e = .returned v) ∧
      ((∃ ys, ys = upto (backAt xs) len ∧ J ys W') ∨ (∃ pre, (∃ k, k ≤ len ∧ pre = upto (backAt xs) k) ∧ Jx pre W')) := by
  refine callsIn_of_wp Try.func41 rfl hF ?_ hro
  simp only [Try.ntmps41, List.size_toArray, List.length_cons, List.length_nil, Nat.reduceAdd, Nat.reduceSub, Array.replicate_succ, Array.replicate_zero, List.push_toArray, List.append_toArray, List.nil_append, List.cons_append]
  have HL := Lib.hid hc.len
  gi_wp2
  gi_loopw [3] (fun i wr => ∃ r : Nat, r ≤ len ∧ i = .int .i64 ((r : Int) - 1) ∧ J (upto (backAt xs) (len - r)) wr ∧ KpB n₀ Bs W wr)
    (fun i _ => (intOf i + 1).toNat)
  case atStart => exact ⟨len, Nat.le_refl _, rfl, by simpa [upto] using h0, KpB.refl _ _ _⟩
  case round =>
    obtain ⟨r, hr, rfl, hJs, hnx⟩ := hrel
    have hBx : wr.cell? ⟨Bs, 0, none⟩ = some (.slice A len cap) := (World.cell?_of_block (a := ⟨Bs, 0, none⟩) hnx.2).trans hBs
    rcases r with _ | q
    · have e0 : ((0 : Nat) : Int) - 1 = -1 := rfl
      rw [e0]
      clear e0
      gi_wp2
      go_end0
      exact ⟨⟨_, rfl⟩, .inl ⟨_, rfl, by simpa using hJs⟩⟩
    · have e0 : ((q + 1 : Nat) : Int) - 1 = (q : Int) := by omega
      rw [e0]
      clear e0
      have hxl : xs.length = len := HL.out
      obtain ⟨b, off, rfl, hb, hcs⟩ := hc.2 (by omega)
      have hq : q < xs.length := by omega
      have hbk : backAt xs (len - (q + 1)) = (q, xs[q]) := by
        have : xs.length - 1 - (len - (q + 1)) = q := by omega
        simp [backAt, this, hq]
      have HS : Hid (upto (backAt xs) (len - (q + 1)) ++ [(q, xs[q])] = upto (backAt xs) (len - q)) := by
        show _ = _
        rw [← hbk, ← upto_succ]
        congr 1
        omega
      obtain ⟨x, hx⟩ : ∃ x, xs[q] = x := ⟨_, rfl⟩
      have hcx : wr.cell? ⟨b, off + q, none⟩ = some (.int .u8 (x.toNat : Int)) := by
        rw [← hx]
        exact (hnx.1.cell (p := ⟨b, off + q, none⟩) hb).trans (hcs q _ (List.getElem?_eq_getElem hq))
      rw [hx] at HS
      obtain ⟨fn, tmps, assign, body, hy, hR⟩ := hY _ (q, x) wr hJs (by rw [upto_length]; omega)
      dsimp only [encP] at hy
      have hlt : (q : Int) < (len : Int) := by omega
      have hge : (0 : Int) ≤ (q : Int) := by omega
      clear hxl hx hbk hq
      gi_wp2
      refine hR.mono ?_
      rintro e W3 (⟨rfl, hJ3, hk3⟩ | ⟨rfl, hJx3⟩)
      · gi_wp2
        go_roundw
        case rel => exact ⟨q, by omega, rfl, by rw [← HS.out]; exact hJ3, hnx.trans hk3⟩
        case measure => simp [intOf]
      · gi_wp2
        refine bodyPost_ret (results_none rfl _ _ _) rfl ?_
        exact ⟨⟨_, rfl⟩, .inr ⟨_, ⟨len - q, by omega, HS.out⟩, hJx3⟩⟩

set_option maxHeartbeats 1000000 in
/-- slices.Backward(s): the slice value is boxed; the function value captures the box. -/
theorem back_in (F : Fence) (n : Nat) (hF : F.fn 40) (hro : F.round = none) (a : Option Addr) (len cap : Nat) (w : World) :
    CallsIn F n Try.prog 40 #[.slice a len cap] w fun e w' => e = .returned (.func (.func 41) #[] #[.pointer (some ⟨w.heap.size, 0, none⟩)]) ∧ w' = w.alloc (.cells #[.slice a len cap] 43) := by
  refine callsIn_of_wp Try.func40 rfl hF ?_ hro
  simp only [Try.ntmps40, List.size_toArray, List.length_cons, List.length_nil, Nat.reduceAdd, Nat.reduceSub, Array.replicate_succ, Array.replicate_zero, List.push_toArray, List.append_toArray, List.nil_append, List.cons_append]
  gi_wp2
  go_ret
  exact ⟨rfl, rfl⟩

/-- slices.Backward(s) hands back a value that goes through s from behind: all of it, or a part. -/
theorem back_stops (F : Fence) (n : Nat) (hF : F.fn 41) (hro : F.round = none) (hn : 1 ≤ n) (Bs n₀ : Nat) (A : Option Addr) (len cap : Nat) (xs : List UInt8) (hlen : len ≤ 9223372036854775807) (w : World) (hBs : Bs < w.heap.size) (hn₀ : n₀ ≤ w.heap.size)
    (hc : w.cell? ⟨Bs, 0, none⟩ = some (.slice A len cap)) (hI : Rd w n₀ A len xs) :
    SeqStopsK F n Try.prog 41 #[.pointer (some ⟨Bs, 0, none⟩)] encP (KpB n₀ Bs) (fun ys => ys = upto (backAt xs) len)
      (fun pre => ∃ k, k ≤ len ∧ pre = upto (backAt xs) k) len w := fun l J Jx W hW _ _ hY h0 =>
  back1_in F n hF hro hn l Bs n₀ A len cap xs hlen J Jx hY W ((hW.cell (p := ⟨Bs, 0, none⟩) hBs).trans hc) (hI.below (hW.mono hn₀)) h0

/-- make([]byte, l, c) -/
theorem run_make8 (l c : Nat) (hlc : l ≤ c) (hb : c ≤ 1000000000) (w : World) :
    (Instr.makeSlice 43 (.int .i64 (l : Int)) (.int .i64 (c : Int))).run Try.prog w = .ok (.slice (some ⟨w.heap.size, 0, none⟩) l c) (w.alloc (.cells (madeCells #[.int .u8 0] c) 5)) := by
  obtain ⟨i0, hi, hz0, hz1, hz2⟩ := info_parts info8
  have h := run_make (P := Try.prog) w 43 5 i0 (.int .u8 0) Try.underlying43 hi hz0 .i64 .i64 l c (by omega) (by omega) (by rw [hz2]; omega) (by omega)
  simp only [Int.toNat_natCast, hz1, Nat.mul_one] at h
  exact h

set_option maxRecDepth 100000 in
set_option maxHeartbeats 2000000 in
/-- octet.Turn: a new slice that owns the bytes, the last one first; nothing that lay has turned. -/
theorem turn_in (F : Fence) (n : Nat) (hT : F.fn 39) (hB1 : F.fn 40) (hB2 : F.fn 41) (hro : F.round = none) (hn : 3 ≤ n) (A : Option Addr) (len cap : Nat) (xs : List UInt8) (hlen : len ≤ 1000000000) (w : World) (hI : Rd w w.heap.size A len xs) :
    CallsIn F n Try.prog 39 #[.slice A len cap] w fun e W' => ∃ v, e = .returned v ∧ Own8 W' w.heap.size v xs.reverse ∧ Below w.heap.size w W' := by
  have h1 : 1 ≤ n := by omega
  obtain ⟨i0, hi, hz0, hz1, hz2⟩ := info_parts info8
  have hmk : ∀ W : World, (Instr.makeSlice 43 (.int .i64 0) (.int .i64 (len : Int))).run Try.prog W = _ := run_make8 0 len (Nat.zero_le _) hlen
  refine callsIn_of_wp_marks Try.func39 rfl hT ?_ hro
  simp only [Try.ntmps39, List.size_toArray, List.length_cons, List.length_nil, Nat.reduceAdd, Nat.reduceSub, Array.replicate_succ, Array.replicate_zero, List.push_toArray, List.append_toArray, List.nil_append, List.cons_append]
  gi_wp2_with (gi_at_call 40; refine (back_in F (n - 1) hB1 hro _ _ _ _).mono ?_; rintro e w' ⟨rfl, rfl⟩)
  have bT := Boxed.new (w.alloc (.cells (madeCells #[.int .u8 0] len) 5)) 43 (.slice (some ⟨w.heap.size, 0, none⟩) 0 len)
  rw [World.size_alloc] at bT
  have bS := Boxed.new ((w.alloc (.cells (madeCells #[.int .u8 0] len) 5)).alloc (.cells #[.slice (some ⟨w.heap.size, 0, none⟩) 0 len] 43)) 43 (.slice A len cap)
  simp only [World.size_alloc] at bS
  have hO : (w.alloc (.cells (madeCells #[.int .u8 0] len) 5)).ownsRow w.heap.size 5 1 (.slice (some ⟨w.heap.size, 0, none⟩) 0 len) 0 [] :=
    World.ownsRow_made w _ len (Nat.le_refl _) (by simp [maxLen]; omega) (by simp [size_madeCells])
  have hB0 : Below w.heap.size w (((w.alloc (.cells (madeCells #[.int .u8 0] len) 5)).alloc (.cells #[.slice (some ⟨w.heap.size, 0, none⟩) 0 len] 43)).alloc (.cells #[.slice A len cap] 43)) :=
    (((Below.refl _ w).alloc (Nat.le_refl _) _).alloc (by simp) _).alloc (by simp; omega) _
  refine wpIn_rangeFunc_ownG hro h1 (gf := 41) (lb := #[.pointer (some ⟨w.heap.size + 1 + 1, 0, none⟩)]) rfl hB2 (enters_of Try.func41 (by kernel_rfl) rfl)
    (back_stops F (n - 1) hB2 hro (by omega) (w.heap.size + 1 + 1) w.heap.size A len cap xs (by omega) _ (by simp) (by simp; omega) bS.cell (hI.below hB0)) (fun h k => h.trans k) (kpB_b (by simp; omega) (by simp)) (Below.refl _ _) (fun _ => rfl)
    (fun (pre : List (Nat × UInt8)) W => ((∃ v, Boxed W (w.heap.size + 1) 43 v ∧ W.ownsRow w.heap.size 5 1 v pre.length (pre.map fun p => v8 p.2) ∧ True) ∧ Boxed W (w.heap.size + 1 + 1) 43 (.slice A len cap)) ∧ Below w.heap.size w W)
    (fun _ _ _ => False)
    (OwnFrom.and (OwnFrom.and (Own.from (holdsRow_own w.heap.size (w.heap.size + 1) 43 5 1 (fun (pre : List (Nat × UInt8)) => pre.length) (fun (pre : List (Nat × UInt8)) => pre.map fun p => v8 p.2) (fun _ _ => True)) _) (Own.from (boxed_own _ _ _) _)) (ownFrom_below (Nat.le_refl _) (by simp; omega)))
    (fun _ _ _ _ _ hs _ _ => hs)
    ⟨⟨⟨_, bT.alloc _, (hO.alloc _).alloc _, trivial⟩, bS⟩, hB0⟩
    (fun (x : Nat × UInt8) => { tmps := #[.slice A len cap, undef, .slice none 0 0, .pointer (some ⟨w.heap.size + 1, 0, none⟩), undef, .int .u8 (x.2.toNat : Int), .slice A len cap, .int .i64 (len : Int), .slice (some ⟨w.heap.size, 0, none⟩) 0 len, .slice A len cap,
      .func (.func 41) #[] #[.pointer (some ⟨w.heap.size + 1 + 1, 0, none⟩)], .int .i64 (x.1 : Int), .int .u8 (x.2.toNat : Int), undef, undef, undef, undef, undef], defers := [] }) ?assign ?body ?done ?stop
  case assign =>
    intro l x W K hK
    dsimp only [encP]
    gi_wp2
    exact hK
  case body =>
    rintro l pre ⟨q, x⟩ W ⟨⟨⟨v, hv, hrow, -⟩, hS⟩, hB⟩ hlt
    have hc := hv.cell
    gi_wp2_with (gi_at_builtin; refine wpListIn_append_own _ rfl _ _ 43 rfl w.heap.size 5 i0 (.int .u8 0) 1 1 Try.underlying43 hi hz0 hz1 hz2 rfl (by decide) _ _ _ rfl (hrow.alloc _) ⟨W.heap.size, 0, none⟩ 1 1 [.int .u8 (x.toNat : Int)] rfl rfl (cell_one_new _ _ _) (by simp [Value.oneCell']) (by unfold maxLen; omega) (by omega) (by have := hB.size; simp; omega) ?_; intro v' w1 hown' hgrow _; obtain ⟨g', cap', rfl⟩ := ownsRow_succ hown'; obtain ⟨hv1, hv2, hr2, hk2, hb2⟩ := hv.appended (by decide) hrow hB.size (Nat.le_succ _) hown' hgrow; have hc1 := hv1.cell; have hf1 := hv1.frozen; have hS2 := ((hS.alloc (.cells #[.int .u8 (x.toNat : Int)] 5)).kept hgrow (hS.not_row (by decide) hrow)).other (B' := w.heap.size + 1) (by omega) (.slice (some ⟨g', 0, none⟩) (pre.length + 1) cap'))
    exact ⟨hk2.from _, ⟨hb2, hS2.trans hS.symm⟩, ⟨⟨_, hv2, by simpa [v8] using hr2⟩, hS2⟩, hB.trans hb2⟩
  case done =>
    rintro D ys W hD rfl ⟨⟨⟨v, hv, hrow, -⟩, hS⟩, hB⟩ hK
    have hc := hv.cell
    gi_wp2
    refine ⟨by simp, .inl ⟨_, _, rfl, run_takeDeferred hK, ?_⟩⟩
    refine ⟨_, results_tmp rfl _ _ _, v, rfl, ?_, hB.trans (belowK_b (w := w) (Nat.le_refl _) W D _ _ (by simp at hD; omega) hK rfl rfl)⟩
    have := ownsRow_putObj hrow (.deferred none) hK rfl
    unfold Own8
    rw [← hI.len, upto_length, hI.len] at this
    have e : (upto (backAt xs) len).map (fun p => v8 p.2) = xs.reverse.map v8 := by
      rw [← backAt_all, hI.len, List.map_map]
      rfl
    rw [e] at this
    simpa [hI.len] using this
  case stop =>
    rintro D c pre W _ _ h _
    exact h.elim

end Go.Proofs.Ytcimgbjliamaiaa
