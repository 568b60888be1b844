/-
  The contract of octet.Get.
-/
import Derived.Test.YtcimgbjliamaiaaTurn
import Derived.Test.YtcimgbjliamaiaaNum
namespace Go.Proofs.Ytcimgbjliamaiaa
open Go.RowKit Go.Shelf

attribute [local go_sem] Oper.semAt_some

def firstRF : Code → Option Code
  | .rangeFunc g ps a b => some (.rangeFunc g ps a b)
  | .seq a b => match firstRF a with
    | some c => some c
    | none => firstRF b
  | .block _ c => firstRF c
  | .scope c => firstRF c
  | .cond _ a b => match firstRF a with
    | some c => some c
    | none => firstRF b
  | _ => none
noncomputable def getLoop : Code := (Try.f35.body.bind firstRF).getD .skip

set_option maxRecDepth 100000 in
set_option maxHeartbeats 2000000 in
theorem get_loop (F : Fence) (n : Nat) (hB2 : F.fn 41) (hro : F.round = none) (hn : 4 ≤ n) (A : Option Addr) (len cap : Nat) (xs : List UInt8) (hlen : len ≤ 8) (n₀ N S : Nat) (w w0 : World) (hn₀ : n₀ ≤ N) (hNS : N ≠ S) (hle : n₀ ≤ w.heap.size) (hle0 : n₀ ≤ w0.heap.size)
    (hI : Rd w n₀ A len xs) (bN : Boxed w N 22 (.int .u64 0)) (bS : Boxed w S 43 (.slice A len cap)) (hB0 : Below n₀ w0 w) (v0 v1 v2 v3 v4 v6 v7 v8 v9 v10 v11 v12 v13 v14 v15 : Value)
    (Q : Exit → Act → World → Prop)
    (hQ : ∀ (D : Nat) (W : World) (q : Nat), w.heap.size ≤ D → q = num xs.reverse → Boxed W N 22 (.int .u64 (q : Nat)) → Below n₀ w0 W → W.heap[D]? = some (.deferred (some [])) →
      Q .normal { tmps := #[v0, v1, v2, v3, v4, .pointer (some ⟨N, 0, none⟩), v6, v7, v8, v9, v10, v11, v12, v13, v14, v15, .slice A len cap,
        .func (.func 41) #[] #[.pointer (some ⟨S, 0, none⟩)], undef, undef, undef, undef, undef, undef, undef, undef], defers := [{ target := .collected D, args := #[] }] } W) :
    getLoop.wpIn F n Try.prog Q { tmps := #[v0, v1, v2, v3, v4, .pointer (some ⟨N, 0, none⟩), v6, v7, v8, v9, v10, v11, v12, v13, v14, v15, .slice A len cap,
      .func (.func 41) #[] #[.pointer (some ⟨S, 0, none⟩)], undef, undef, undef, undef, undef, undef, undef, undef], defers := [] } w := by
  have h1 : 1 ≤ n := by omega
  have hN := bN.lt
  have hSl := bS.lt
  refine wpIn_rangeFunc_ownG hro h1 (gf := 41) (lb := #[.pointer (some ⟨S, 0, none⟩)]) rfl hB2 (enters_of Try.func41 (by kernel_rfl) rfl)
    (back_stops F (n - 1) hB2 hro (by omega) S n₀ A len cap xs (by omega) _ hSl hle bS.cell hI) (fun h k => h.trans k) (kpB_b hle hSl) (Below.refl _ _) (fun _ => rfl)
    (fun (pre : List (Nat × UInt8)) W => (Boxed W N 22 (.int .u64 (num (pre.map (·.2)) : Nat)) ∧ Boxed W S 43 (.slice A len cap)) ∧ Below n₀ w0 W)
    (fun _ _ _ => False)
    (OwnFrom.and (OwnFrom.and (Own.from (boxed_own _ _ _) _) (Own.from (boxed_own _ _ _) _)) (ownFrom_below hle0 hle))
    (fun _ _ _ _ _ hs _ _ => hs)
    ⟨⟨bN, bS⟩, hB0⟩
    (fun (x : Nat × UInt8) => { tmps := #[v0, v1, v2, v3, v4, .pointer (some ⟨N, 0, none⟩), v6, .int .u8 (x.2.toNat : Int), v8, v9, v10, v11, v12, v13, v14, v15, .slice A len cap,
      .func (.func 41) #[] #[.pointer (some ⟨S, 0, none⟩)], .int .i64 (x.1 : Int), .int .u8 (x.2.toNat : Int), undef, undef, undef, undef, undef, undef], defers := [] }) ?assign ?body ?done ?stop
  case assign =>
    intro l x W K hK
    dsimp only [encP]
    gi_wp2
    exact hK
  case body =>
    rintro l pre ⟨q, x⟩ W ⟨⟨hv, hS⟩, hB⟩ hlt
    have hc := hv.cell
    have hf := hv.frozen
    have hx := x.toNat_lt
    have hm := num_snoc_lt (pre.map (·.2)) (by simp; omega)
    have hsn : num ((pre ++ [(q, x)]).map (·.2)) = 256 * num (pre.map (·.2)) + x.toNat := by simp [num_snoc]
    have HS := Lib.hid hsn
    clear hsn
    obtain ⟨m, hm0⟩ : ∃ m, num (pre.map (·.2)) = m := ⟨_, rfl⟩
    rw [hm0] at hm HS hc hv
    clear hm0
    have e2 : bits .or .u64 ((m : Int) * 256) (x.toNat : Int) = ((256 * m + x.toNat : Nat) : Int) := by
      have := u64_or_nat (m * 256) x.toNat (by omega) (by omega)
      rw [shl_or _ _ hx, Int.natCast_mul] at this
      exact this
    gi_wp2
    rw [show 256 * (m : Int) + (x.toNat : Int) = ((256 * m + x.toNat : Nat) : Int) from by omega]
    have hv2 : Boxed (W.setCell ⟨N, 0, none⟩ (.int .u64 ((256 * m + x.toNat : Nat) : Int))) N 22 (.int .u64 (num ((pre ++ [(q, x)]).map (·.2)) : Nat)) := by
      rw [HS.out]; exact hv.set _
    have hS2 := hS.other (B' := N) (fun e => hNS e.symm) (.int .u64 ((256 * m + x.toNat : Nat) : Int))
    have hb2 := (Below.refl n₀ W).setCell (p := ⟨N, 0, none⟩) hn₀ (.int .u64 ((256 * m + x.toNat : Nat) : Int))
    exact ⟨(KeepsOthers.setCell _ _ _).from _, ⟨hb2, hS2.trans hS.symm⟩, ⟨hv2, hS2⟩, hB.trans hb2⟩
  case done =>
    rintro D ys W hD rfl ⟨⟨hv, hS⟩, hB⟩ hK
    exact hQ D W _ hD (by rw [← hI.len, backAt_all]) hv hB hK
  case stop =>
    rintro D c pre W _ _ h _
    exact h.elim

theorem Rd.take {w : World} {B n : Nat} {A : Option Addr} {xs : List UInt8} (h : Rd w B A n xs) {k : Nat} (hk : k ≤ n) : Rd w B A k (xs.take k) := by
  refine ⟨by rw [List.length_take, h.1]; omega, fun h0 => ?_⟩
  obtain ⟨b, off, e, hb, hc⟩ := h.2 (by omega)
  refine ⟨b, off, e, hb, fun j x hx => hc j x ?_⟩
  rw [List.getElem?_take] at hx
  split at hx
  · exact hx
  · cases hx

/-- The number that bytes tell, in an order: that of the first eight. -/
def getOf (xs : List UInt8) (big : Bool) : Nat := num (if big then xs.take 8 else (xs.take 8).reverse)

theorem Own8.rd8 {w : World} {base : Nat} {v : Value} {xs : List UInt8} (h : Own8 w base v xs) {k : Nat} (hk : xs.length ≤ k) : ∃ A m c, v = .slice A m c ∧ m ≤ k ∧ Rd w w.heap.size A m xs := by
  obtain ⟨A, c, rfl, _, _, hr, _⟩ := h.rd
  exact ⟨A, _, c, rfl, hk, hr⟩

set_option maxRecDepth 100000 in
set_option maxHeartbeats 2000000 in
/-- octet.Get: the number that the first eight bytes tell. -/
theorem get_in (F : Fence) (n : Nat) (hG : F.fn 35) (hT : F.fn 39) (hB1 : F.fn 40) (hB2 : F.fn 41) (hro : F.round = none) (hn : 4 ≤ n) (A : Option Addr) (len cap : Nat) (xs : List UInt8) (big : Bool) (hlen : len ≤ 1000000000) (hcap : len ≤ cap) (hcap2 : cap ≤ maxLen) (w : World) (hI : Rd w w.heap.size A len xs) :
    CallsIn F n Try.prog 35 #[.slice A len cap, .bool big] w fun e W' => e = .returned (.int .u64 ((num (if big then xs.take 8 else (xs.take 8).reverse) : Nat) : Int)) ∧ Below w.heap.size w W' := by
  have h1 : 1 ≤ n := by omega
  unfold maxLen at hcap2
  have hR := hI.len
  by_cases h8 : len ≤ 8
  · have hI8 : Rd w w.heap.size A len (xs.take 8) := by
      rw [List.take_of_length_le (by omega)]; exact hI
    have h8' : (len : Int) ≤ 8 := by omega
    clear hI hR
    cases big
    · refine callsIn_of_wp_marks Try.func35 rfl hG ?_ hro
      simp only [Try.ntmps35, List.size_toArray, List.length_cons, List.length_nil, Nat.reduceAdd, Nat.reduceSub, Array.replicate_succ, Array.replicate_zero, List.push_toArray, List.append_toArray, List.nil_append, List.cons_append]
      gi_wp2_with (gi_at_call 40; refine (back_in F (n - 1) hB1 hro _ _ _ _).mono ?_; rintro e w' ⟨rfl, rfl⟩)
      have bN := (Boxed.new w 22 (.int .u64 0)).alloc (.cells #[.slice A len cap] 43)
      have bS := Boxed.new (w.alloc (.cells #[.int .u64 0] 22)) 43 (.slice A len cap)
      rw [World.size_alloc] at bS
      have hB0 : Below w.heap.size w ((w.alloc (.cells #[.int .u64 0] 22)).alloc (.cells #[.slice A len cap] 43)) := ((Below.refl _ w).alloc (Nat.le_refl _) _).alloc (by simp) _
      refine get_loop F n hB2 hro hn A len cap (xs.take 8) (by omega) w.heap.size w.heap.size (w.heap.size + 1) _ w (Nat.le_refl _) (by omega) (by simp; omega) (Nat.le_refl _) (hI8.below hB0) bN bS hB0 _ _ _ _ _ _ _ _ _ _ _ _ _ _ _ _ ?_
      intro D W q hD hq hv hB hK
      have HQ := Lib.hid hq
      clear hq
      have hc := hv.cell
      gi_wp2
      refine ⟨by simp, .inl ⟨_, _, rfl, run_takeDeferred hK, ?_⟩⟩
      refine ⟨_, results_tmp rfl _ _ _, ?_, hB.trans (belowK_b (w := w) (Nat.le_refl _) W D _ _ (by simp at hD; omega) hK rfl rfl)⟩
      rw [HQ.out]
      rfl
    · refine callsIn_of_wp_marks Try.func35 rfl hG ?_ hro
      simp only [Try.ntmps35, List.size_toArray, List.length_cons, List.length_nil, Nat.reduceAdd, Nat.reduceSub, Array.replicate_succ, Array.replicate_zero, List.push_toArray, List.append_toArray, List.nil_append, List.cons_append]
      gi_wp2_with (first
        | (gi_at_call 39; refine (turn_in F (n - 1) hT hB1 hB2 hro (by omega) _ _ _ (xs.take 8) (by omega) _ hI8).mono ?_; rintro e w1 ⟨v, rfl, hown, hb1⟩; obtain ⟨A1, m1, c1, rfl, hm1, hrd⟩ := hown.rd8 (k := 8) (by simp; omega))
        | (gi_at_call 40; refine (back_in F (n - 1) hB1 hro _ _ _ _).mono ?_; rintro e w' ⟨rfl, rfl⟩))
      have bN := (Boxed.new w1 22 (.int .u64 0)).alloc (.cells #[.slice A1 m1 c1] 43)
      have bS := Boxed.new (w1.alloc (.cells #[.int .u64 0] 22)) 43 (.slice A1 m1 c1)
      rw [World.size_alloc] at bS
      have hB0 : Below w1.heap.size w1 ((w1.alloc (.cells #[.int .u64 0] 22)).alloc (.cells #[.slice A1 m1 c1] 43)) := ((Below.refl _ w1).alloc (Nat.le_refl _) _).alloc (by simp) _
      have hsz := hb1.size
      refine get_loop F n hB2 hro hn A1 m1 c1 (xs.take 8).reverse (by omega) w1.heap.size w1.heap.size (w1.heap.size + 1) _ w1 (Nat.le_refl _) (by omega) (by simp; omega) (Nat.le_refl _) (hrd.below hB0) bN bS hB0 _ _ _ _ _ _ _ _ _ _ _ _ _ _ _ _ ?_
      intro D W q hD hq hv hB hK
      have HQ := Lib.hid hq
      clear hq
      have hc := hv.cell
      gi_wp2
      refine ⟨by simp, .inl ⟨_, _, rfl, run_takeDeferred hK, ?_⟩⟩
      refine ⟨_, results_tmp rfl _ _ _, ?_, (hb1.trans (hB.mono hsz)).trans (belowK_b (w := w) (Nat.le_refl _) W D _ _ (by simp at hD; omega) hK rfl rfl)⟩
      rw [HQ.out]
      simp
  · have hI8 : Rd w w.heap.size A 8 (xs.take 8) := hI.take (by omega)
    have h8' : (8 : Int) < (len : Int) := by omega
    clear hI hR
    cases big
    · refine callsIn_of_wp_marks Try.func35 rfl hG ?_ hro
      simp only [Try.ntmps35, List.size_toArray, List.length_cons, List.length_nil, Nat.reduceAdd, Nat.reduceSub, Array.replicate_succ, Array.replicate_zero, List.push_toArray, List.append_toArray, List.nil_append, List.cons_append]
      gi_wp2_with (gi_at_call 40; refine (back_in F (n - 1) hB1 hro _ _ _ _).mono ?_; rintro e w' ⟨rfl, rfl⟩)
      have bN := (Boxed.new w 22 (.int .u64 0)).alloc (.cells #[.slice A 8 cap] 43)
      have bS := Boxed.new (w.alloc (.cells #[.int .u64 0] 22)) 43 (.slice A 8 cap)
      rw [World.size_alloc] at bS
      have hB0 : Below w.heap.size w ((w.alloc (.cells #[.int .u64 0] 22)).alloc (.cells #[.slice A 8 cap] 43)) := ((Below.refl _ w).alloc (Nat.le_refl _) _).alloc (by simp) _
      refine get_loop F n hB2 hro hn A 8 cap (xs.take 8) (by omega) w.heap.size w.heap.size (w.heap.size + 1) _ w (Nat.le_refl _) (by omega) (by simp; omega) (Nat.le_refl _) (hI8.below hB0) bN bS hB0 _ _ _ _ _ _ _ _ _ _ _ _ _ _ _ _ ?_
      intro D W q hD hq hv hB hK
      have HQ := Lib.hid hq
      clear hq
      have hc := hv.cell
      gi_wp2
      refine ⟨by simp, .inl ⟨_, _, rfl, run_takeDeferred hK, ?_⟩⟩
      refine ⟨_, results_tmp rfl _ _ _, ?_, hB.trans (belowK_b (w := w) (Nat.le_refl _) W D _ _ (by simp at hD; omega) hK rfl rfl)⟩
      rw [HQ.out]
      rfl
    · refine callsIn_of_wp_marks Try.func35 rfl hG ?_ hro
      simp only [Try.ntmps35, List.size_toArray, List.length_cons, List.length_nil, Nat.reduceAdd, Nat.reduceSub, Array.replicate_succ, Array.replicate_zero, List.push_toArray, List.append_toArray, List.nil_append, List.cons_append]
      gi_wp2_with (first
        | (gi_at_call 39; refine (turn_in F (n - 1) hT hB1 hB2 hro (by omega) _ _ _ (xs.take 8) (by omega) _ hI8).mono ?_; rintro e w1 ⟨v, rfl, hown, hb1⟩; obtain ⟨A1, m1, c1, rfl, hm1, hrd⟩ := hown.rd8 (k := 8) (by simp; omega))
        | (gi_at_call 40; refine (back_in F (n - 1) hB1 hro _ _ _ _).mono ?_; rintro e w' ⟨rfl, rfl⟩))
      have bN := (Boxed.new w1 22 (.int .u64 0)).alloc (.cells #[.slice A1 m1 c1] 43)
      have bS := Boxed.new (w1.alloc (.cells #[.int .u64 0] 22)) 43 (.slice A1 m1 c1)
      rw [World.size_alloc] at bS
      have hB0 : Below w1.heap.size w1 ((w1.alloc (.cells #[.int .u64 0] 22)).alloc (.cells #[.slice A1 m1 c1] 43)) := ((Below.refl _ w1).alloc (Nat.le_refl _) _).alloc (by simp) _
      have hsz := hb1.size
      refine get_loop F n hB2 hro hn A1 m1 c1 (xs.take 8).reverse (by omega) w1.heap.size w1.heap.size (w1.heap.size + 1) _ w1 (Nat.le_refl _) (by omega) (by simp; omega) (Nat.le_refl _) (hrd.below hB0) bN bS hB0 _ _ _ _ _ _ _ _ _ _ _ _ _ _ _ _ ?_
      intro D W q hD hq hv hB hK
      have HQ := Lib.hid hq
      clear hq
      have hc := hv.cell
      gi_wp2
      refine ⟨by simp, .inl ⟨_, _, rfl, run_takeDeferred hK, ?_⟩⟩
      refine ⟨_, results_tmp rfl _ _ _, ?_, (hb1.trans (hB.mono hsz)).trans (belowK_b (w := w) (Nat.le_refl _) W D _ _ (by simp at hD; omega) hK rfl rfl)⟩
      rw [HQ.out]
      simp

end Go.Proofs.Ytcimgbjliamaiaa
