/-
  slices.Values over names (the iterator: each name, from the first on), slices.AppendSeq of nil, slices.Collect.
-/
import Derived.Test.YteljijjebocbiaaYP1
import Derived.RangeFuncNested
import Derived.RangeFuncBound
import Derived.RangeFuncCalls
import Derived.RangeFuncLeaves
import Derived.RangeFuncBox
import Derived.Maps.AppendAt
import Derived.Shelf.Abstract
import Derived.Shelf.RegionOpen
import Derived.OwnWalkIn
import Derived.TacticsInMore
import Derived.LoopNIn
import Derived.LoopIn
namespace Go.Proofs.Yteljijjebocbiaa
set_option maxRecDepth 100000
open Go.RowKit Go.Shelf Go.Lib

attribute [local go_sem] Oper.semAt_some

/-- The first k that come. -/
def uptoY {α : Type} (f : Nat → α) (k : Nat) : List α := (List.range k).map f
theorem uptoY_succ {α : Type} (f : Nat → α) (k : Nat) : uptoY f (k + 1) = uptoY f k ++ [f k] := by simp [uptoY, List.range_succ]
theorem uptoY_length {α : Type} (f : Nat → α) (k : Nat) : (uptoY f k).length = k := by simp [uptoY]
def nameAt (xs : List (List UInt8)) (j : Nat) : List UInt8 := xs[j]?.getD []
theorem nameAt_all (xs : List (List UInt8)) : uptoY (nameAt xs) xs.length = xs := by
  apply List.ext_getElem
  · simp [uptoY]
  · intro i h1 h2
    simp [uptoY, nameAt, h2]
def KpN (n₀ : Nat) (W W' : World) : Prop := Below n₀ W W'
theorem kpN_b {n₀ : Nat} {w : World} (hn : n₀ ≤ w.heap.size) (W : World) (l : Nat) (o o' : Obj) (hl : w.heap.size ≤ l) (h : W.heap[l]? = some o) (h1 : o.isCells = false) (h2 : o.isWalk = false) : KpN n₀ W (W.putObj l o') :=
  belowK_b hn W l o o' hl h h1 h2
def encN (x : List UInt8) : Array Value := #[.string ⟨x.toArray⟩]

set_option maxHeartbeats 2000000 in
theorem values1_in (F : Fence) (n : Nat) (hF : F.fn 35) (hro : F.round = none) (hn : 1 ≤ n) (l Bs n₀ : Nat) (A : Option Addr) (len cap : Nat) (xs : List (List UInt8)) (hlen : len ≤ 1000000) (J Jx : List (List UInt8) → World → Prop)
    (hY : ∀ pre x W, J pre W → pre.length < len → YieldAt F (n - 1) Try.prog l (encN x) W fun e W' =>
      (e = .returned (.bool true) ∧ J (pre ++ [x]) W' ∧ KpN n₀ W W') ∨ (e = .returned (.bool false) ∧ Jx (pre ++ [x]) W'))
    (W : World) (hBs : W.cell? ⟨Bs, 0, none⟩ = some (.slice A len cap)) (hc : RdG eN W n₀ A len xs) (h0 : J [] W) :
    CallsIn F n Try.prog 35 #[.func (.yield l) #[] #[], .pointer (some ⟨Bs, 0, none⟩)] W fun e W' => (∃ v, e = .returned v) ∧
      ((∃ ys, ys = uptoY (nameAt xs) len ∧ J ys W') ∨ (∃ pre, (∃ k, k ≤ len ∧ pre = uptoY (nameAt xs) k) ∧ Jx pre W')) := by
  refine callsIn_of_wp Try.func35 rfl hF ?_ hro
  simp only [Try.ntmps35, List.size_toArray, List.length_cons, List.length_nil, Nat.reduceAdd, Nat.reduceSub, Array.replicate_succ, Array.replicate_zero, List.push_toArray, List.append_toArray, List.nil_append, List.cons_append]
  have HL := Lib.hid hc.len
  gi_wp2
  gi_loopw [7] (fun i wr => ∃ r : Nat, r ≤ len ∧ i = .int .i64 (r : Int) ∧ J (uptoY (nameAt xs) r) wr ∧ KpN n₀ W wr)
    (fun i _ => len - (intOf i).toNat)
  case atStart => exact ⟨0, Nat.zero_le _, rfl, by simpa [uptoY] using h0, Below.refl _ _⟩
  case round =>
    obtain ⟨r, hr, rfl, hJs, hnx⟩ := hrel
    by_cases hlt0 : r < len
    · have hxl : xs.length = len := HL.out
      obtain ⟨b, off, rfl, hb⟩ := hc.addr (by omega)
      obtain ⟨x, hx⟩ : ∃ x, xs[r]? = some x := ⟨_, List.getElem?_eq_getElem (by omega)⟩
      have hnk : nameAt xs r = x := by unfold nameAt; rw [hx]; rfl
      have HS : Hid (uptoY (nameAt xs) r ++ [x] = uptoY (nameAt xs) (r + 1)) := Lib.hid (by rw [uptoY_succ, hnk])
      have hcx : wr.cell? ⟨b, off + r, none⟩ = some (.string ⟨x.toArray⟩) := (hnx.cell (p := ⟨b, off + r, none⟩) hb).trans (hc.cell1 hx rfl)
      obtain ⟨fn, tmps, assign, body, hy, hR⟩ := hY _ x wr hJs (by rw [uptoY_length]; omega)
      dsimp only [encN] at hy
      have hlt : (r : Int) < (len : Int) := by omega
      have hge : (0 : Int) ≤ (r : Int) := by omega
      have HLT := Lib.hid hlt0
      have hr9 : r < 9223372036854775807 := by omega
      clear hxl hx hnk hlt0 hr
      gi_wp2
      refine hR.mono ?_
      rintro e W3 (⟨rfl, hJ3, hk3⟩ | ⟨rfl, hJx3⟩)
      · gi_wp2
        go_roundw
        case rel => exact ⟨r + 1, HLT.out, by go_num, by rw [← HS.out]; exact hJ3, hnx.trans hk3⟩
        case measure =>
          have := HLT.out
          simp [intOf]
          omega
      · gi_wp2
        refine bodyPost_ret (results_none rfl _ _ _) rfl ?_
        exact ⟨⟨_, rfl⟩, .inr ⟨_, ⟨r + 1, HLT.out, HS.out⟩, hJx3⟩⟩
    · obtain rfl : r = len := by omega
      have h1 : ¬ (r : Int) < (r : Int) := by omega
      clear hlt0 hr
      gi_wp2
      go_end0
      exact ⟨⟨_, rfl⟩, .inl hJs⟩
theorem values_stops (F : Fence) (n : Nat) (hF : F.fn 35) (hro : F.round = none) (hn : 1 ≤ n) (Bs n₀ : Nat) (A : Option Addr) (len cap : Nat) (xs : List (List UInt8)) (hlen : len ≤ 1000000) (w : World) (hBs : Bs < w.heap.size) (hn₀ : n₀ ≤ w.heap.size)
    (hc : w.cell? ⟨Bs, 0, none⟩ = some (.slice A len cap)) (hI : RdG eN w n₀ A len xs) :
    SeqStopsK F n Try.prog 35 #[.pointer (some ⟨Bs, 0, none⟩)] encN (KpN n₀) (fun ys => ys = uptoY (nameAt xs) len)
      (fun pre => ∃ k, k ≤ len ∧ pre = uptoY (nameAt xs) k) len w := fun l J Jx W hW _ _ hY h0 =>
  values1_in F n hF hro hn l Bs n₀ A len cap xs hlen J Jx hY W ((hW.cell (p := ⟨Bs, 0, none⟩) hBs).trans hc) (hI.below (hW.mono hn₀)) h0
theorem cells_eN : ∀ xs : List (List UInt8), eN.cells xs = xs.map strV
  | [] => rfl
  | x :: xs => by
    have ih := cells_eN xs
    show eN.f x ++ eN.cells xs = _
    rw [ih]
    rfl
set_option maxHeartbeats 2000000 in
/-- slices.AppendSeq(nil, slices.Values(names)): a new slice of the names. -/
theorem appendSeq_in (F : Fence) (n : Nat) (hT : F.fn 36) (hB2 : F.fn 35) (hro : F.round = none) (hn : 3 ≤ n) (Bs : Nat) (A : Option Addr) (len cap : Nat) (xs : List (List UInt8)) (hlen : len ≤ 1000000) (w : World)
    (hBs : Bs < w.heap.size) (hbx : w.cell? ⟨Bs, 0, none⟩ = some (.slice A len cap)) (hI : RdG eN w w.heap.size A len xs) :
    CallsIn F n Try.prog 36 #[.slice none 0 0, .func (.func 35) #[] #[.pointer (some ⟨Bs, 0, none⟩)]] w fun e W' => ∃ v, e = .returned v ∧ OwnG eN W' w.heap.size v xs ∧ Below w.heap.size w W' := by
  have h1 : 1 ≤ n := by omega
  obtain ⟨i0, hi, hz0, hz1, hz2⟩ := Enc.parts eN
  refine callsIn_of_wp_marks Try.func36 rfl hT ?_ hro
  simp only [Try.ntmps36, List.size_toArray, List.length_cons, List.length_nil, Nat.reduceAdd, Nat.reduceSub, Array.replicate_succ, Array.replicate_zero, List.push_toArray, List.append_toArray, List.nil_append, List.cons_append]
  gi_wp2
  have bT := Boxed.new w 35 (.slice none 0 0)
  have hO : (w.alloc (.cells #[.slice none 0 0] 35)).ownsRow w.heap.size 9 1 (.slice none 0 0) 0 [] := World.ownsRow_nil _ _ _ _
  have hB0 : Below w.heap.size w (w.alloc (.cells #[.slice none 0 0] 35)) := (Below.refl _ w).alloc (Nat.le_refl _) _
  refine wpIn_rangeFunc_ownG hro h1 (gf := 35) (lb := #[.pointer (some ⟨Bs, 0, none⟩)]) rfl hB2 (enters_of Try.func35 (by kernel_rfl) rfl)
    (values_stops F (n - 1) hB2 hro (by omega) Bs w.heap.size A len cap xs hlen _ (by simp; omega) (by simp) ((hB0.cell (p := ⟨Bs, 0, none⟩) hBs).trans hbx) (hI.below hB0)) (fun h k => h.trans k) (kpN_b (by simp)) (Below.refl _ _) (fun _ => rfl)
    (fun (pre : List (List UInt8)) W => (∃ v, Boxed W w.heap.size 35 v ∧ W.ownsRow w.heap.size 9 1 v pre.length (pre.map strV) ∧ True) ∧ Below w.heap.size w W)
    (fun _ _ _ => False)
    (OwnFrom.and (Own.from (holdsRow_own w.heap.size w.heap.size 35 9 1 (fun (pre : List (List UInt8)) => pre.length) (fun (pre : List (List UInt8)) => pre.map strV) (fun _ _ => True)) _) (ownFrom_below (Nat.le_refl _) (by simp)))
    (fun _ _ _ _ _ hs _ _ => hs)
    ⟨⟨_, bT, hO, trivial⟩, hB0⟩
    (fun (x : List UInt8) => { tmps := #[.slice none 0 0, .func (.func 35) #[] #[.pointer (some ⟨Bs, 0, none⟩)], .pointer (some ⟨w.heap.size, 0, none⟩), undef, .slice none 0 0, .string ⟨x.toArray⟩, .func (.func 35) #[] #[.pointer (some ⟨Bs, 0, none⟩)], .string ⟨x.toArray⟩, undef, undef, undef, undef, undef], defers := [] }) ?assign ?body ?done ?stop
  case assign =>
    intro l x W K hK
    dsimp only [encN]
    gi_wp2
    exact hK
  case body =>
    rintro l pre x W ⟨⟨v, hv, hrow, -⟩, hB⟩ hlt
    have hc := hv.cell
    gi_wp2_with (gi_at_builtin; refine wpListIn_append_own _ rfl _ _ 35 rfl w.heap.size 9 i0 (.string ⟨#[]⟩) 1 16 Try.underlying35 hi hz0 hz1 hz2 rfl (by decide) _ _ _ rfl (hrow.alloc _) ⟨W.heap.size, 0, none⟩ 1 1 [.string ⟨x.toArray⟩] rfl rfl (cell_one_new _ _ _) (by simp [Value.oneCell']) (by unfold maxLen; omega) (by omega) (by have := hB.size; simp; omega) ?_; intro v' w1 hown' hgrow _; obtain ⟨g', cap', rfl⟩ := ownsRow_succ hown'; obtain ⟨hv1, hv2, hr2, hk2, hb2⟩ := hv.appended (by decide) hrow hB.size (Nat.le_refl _) hown' hgrow; have hc1 := hv1.cell; have hf1 := hv1.frozen)
    exact ⟨hk2.from _, hb2, ⟨_, hv2, by simpa [strV] using hr2, trivial⟩, hB.trans hb2⟩
  case done =>
    rintro D ys W hD rfl ⟨⟨v, hv, hrow, -⟩, hB⟩ hK
    have hc := hv.cell
    gi_wp2
    refine ⟨by simp, .inl ⟨_, _, rfl, run_takeDeferred hK, ?_⟩⟩
    refine ⟨_, results_tmp rfl _ _ _, v, rfl, ?_, hB.trans (belowK_b (w := w) (Nat.le_refl _) W D _ _ (by simp at hD; omega) hK rfl rfl)⟩
    have := ownsRow_putObj hrow (.deferred none) hK rfl
    unfold OwnG
    rw [← hI.len, nameAt_all] at this
    rw [cells_eN]
    exact this
  case stop =>
    rintro D c pre W _ _ h _
    exact h.elim
set_option maxHeartbeats 1000000 in
theorem collect_any (Bs : Nat) (A : Option Addr) (len cap : Nat) (xs : List (List UInt8)) (hlen : len ≤ 1000000) (w : World) (hBs : Bs < w.heap.size) (hbx : w.cell? ⟨Bs, 0, none⟩ = some (.slice A len cap)) (hI : RdG eN w w.heap.size A len xs) :
    Calls Try.prog 33 #[.func (.func 35) #[] #[.pointer (some ⟨Bs, 0, none⟩)]] w fun e W' => ∃ v, e = .returned v ∧ OwnG eN W' w.heap.size v xs ∧ Below w.heap.size w W' := by
  have H := Lib.hid (callsIn_wide.1 (appendSeq_in Fence.wide 3 trivial trivial rfl (by omega) Bs A len cap xs hlen w hBs hbx hI))
  clear hlen hBs hbx hI
  go_enter Try.func33, Try.ntmps33
  go_wp2_with (go_at_call 36; refine H.out.mono ?_; rintro e w1 ⟨v, rfl, hown, hb1⟩)
  go_ret
  exact ⟨_, rfl, hown, hb1⟩
theorem values_any (A : Option Addr) (len cap : Nat) (w : World) : Calls Try.prog 30 #[.slice A len cap] w fun e W' => e = .returned (.func (.func 35) #[] #[.pointer (some ⟨w.heap.size, 0, none⟩)]) ∧ W' = w.alloc (.cells #[.slice A len cap] 35) := by
  go_enter Try.func30, Try.ntmps30
  go_wp2_with fail
  go_ret
  exact ⟨rfl, rfl⟩
end Go.Proofs.Yteljijjebocbiaa
