/-
  Plain mathematics of stage 20: flags of TCP, states of flows, ticks. No program is walked here.
  Six whole numbers as an argument.
  The document's tick (stage 20).
  The document's Stale (stage 20).
-/
import Derived.Test.YtfbiinipiklkaaaQB
import Derived.Test.YtfbiinipiklkaaaQ10
import Derived.Deep.Slices
import Derived.Deep.Fields
import Derived.BigQuiet
import Derived.Deep.QuietTactic
import Derived.Test.YtfbiinipiklkaaaGBlk
import Derived.Deep.DeepCutAuto
namespace Go.Proofs.Ytfbiinipiklkaaa
open Go.RowKit Go.Lib

/-- The lowest six bits. -/
def fl (z : Int) : Nat := (z % 64).toNat
theorem fl_lt (z : Int) : fl z < 64 := by unfold fl; omega
/-- Is the flag of this weight among them? -/
def bitB (z : Int) (w : Nat) : Bool := decide (fl z / w % 2 = 1)
def opB (z : Int) : Bool := bitB z 2 && !bitB z 16
/-- The state that begins; the state behind flags. -/
def stB (p z : Int) : Int := if p = 17 then 5 else if p ≠ 6 then 0 else if bitB z 4 = true then 4 else if bitB z 1 = true then 3 else if opB z = true then 1 else 2
def stN (s z : Int) : Int := if s = 5 then 5 else if s < 1 ∨ 5 < s then 0 else if bitB z 4 = true then 4 else if s = 4 then (if opB z = true then 1 else 4) else if s = 3 ∨ bitB z 1 = true then 3 else if s = 1 ∧ bitB z 16 = true ∧ bitB z 2 = false then 2 else s
def stR (s : Int) (l : List Int) : Int := l.foldl stN s
theorem stR_app (s : Int) (l m : List Int) : stR s (l ++ m) = stR (stR s l) m := List.foldl_append
theorem stR_succ {s : Int} {l : List Int} {k : Nat} {z : Int} (h : l[k]? = some z) : stR s (l.take (k + 1)) = stN (stR s (l.take k)) z := by
  rw [List.take_add_one, h]
  exact stR_app s _ _
def tickZ (n : Int) : Int := if n < 0 then 0 else if 1099511627776 < n then 1099511627776 else n
theorem tickZ_range (n : Int) : 0 ≤ tickZ n ∧ tickZ n ≤ 1099511627776 := by
  unfold tickZ
  split
  · omega
  · split
    · omega
    · omega
theorem tickZ_mono {a b : Int} (h : a ≤ b) : tickZ a ≤ tickZ b := by
  unfold tickZ
  repeat' split
  all_goals omega
/-- Is it stale? idle: six numbers. -/
def staleB (s seen now : Int) (l : List Int) : Bool := if s < 1 ∨ 5 < s then true else decide (l.getD s.toNat 0 < tickZ now - tickZ seen)
theorem staleB_out {s : Int} (h : s < 1 ∨ 5 < s) (seen now : Int) (l : List Int) : staleB s seen now l = true := by unfold staleB; rw [if_pos h]
theorem staleB_in {s : Int} (h : ¬ (s < 1 ∨ 5 < s)) (seen now : Int) {l : List Int} {x : Int} (hx : l[s.toNat]? = some x) : staleB s seen now l = decide (x < tickZ now - tickZ seen) := by
  unfold staleB
  rw [if_neg h, List.getD_eq_getElem?_getD, hx]
  rfl
/-- What is stale stays so: later, and for less. -/
theorem staleB_later {s seen now next : Int} {l m : List Int} (h : staleB s seen now l = true) (hn : now ≤ next) (hm : ∀ i, m.getD i 0 ≤ l.getD i 0) : staleB s seen next m = true := by
  unfold staleB at h ⊢
  by_cases h1 : s < 1 ∨ 5 < s
  · rw [if_pos h1]
  · rw [if_neg h1] at h ⊢
    have h2 := of_decide_eq_true h
    have h3 := hm s.toNat
    have h4 := tickZ_mono hn
    exact decide_eq_true (by omega)
-- the machine's bits
theorem nat_and_pow (n i : Nat) : n &&& 2 ^ i = if n / 2 ^ i % 2 = 1 then 2 ^ i else 0 := by
  apply Nat.eq_of_testBit_eq
  intro j
  rw [Nat.testBit_and, Nat.testBit_two_pow]
  by_cases hj : i = j
  · subst hj
    rw [Nat.testBit_eq_decide_div_mod_eq]
    by_cases h : n / 2 ^ i % 2 = 1
    · rw [if_pos h, Nat.testBit_two_pow]
      simp [h]
    · rw [if_neg h]
      simp [h]
  · by_cases h : n / 2 ^ i % 2 = 1
    · rw [if_pos h, Nat.testBit_two_pow]
      simp [hj]
    · rw [if_neg h]
      simp [hj]
theorem low64 (z : Int) : (BitVec.ofInt 64 z).toNat = (z % 18446744073709551616).toNat := by
  rw [BitVec.toNat_ofInt]
  rfl
theorem and_pow (z : Int) (i : Nat) (hi : i < 6) : bits .and .i64 z ((2 ^ i : Nat) : Int) = if bitB z (2 ^ i) = true then ((2 ^ i : Nat) : Int) else 0 := by
  have hp : 2 ^ i < 64 := Nat.pow_lt_pow_right (by decide) hi
  have h0 : 0 < 2 ^ i := Nat.two_pow_pos i
  have e1 : (BitVec.ofInt 64 ((2 ^ i : Nat) : Int)).toNat = 2 ^ i := by
    rw [low64]
    omega
  have e2 : ((BitVec.ofInt 64 z) &&& (BitVec.ofInt 64 ((2 ^ i : Nat) : Int))).toNat = if bitB z (2 ^ i) = true then 2 ^ i else 0 := by
    rw [BitVec.toNat_and, e1, nat_and_pow, low64]
    have e3 : (z % 18446744073709551616).toNat / 2 ^ i % 2 = fl z / 2 ^ i % 2 := by
      unfold fl
      have e4 : (z % 64).toNat = (z % 18446744073709551616).toNat % 64 := by omega
      rw [e4]
      obtain ⟨n, hn⟩ : ∃ n, (z % 18446744073709551616).toNat = n := ⟨_, rfl⟩
      rw [hn]
      have h5 : i = 0 ∨ i = 1 ∨ i = 2 ∨ i = 3 ∨ i = 4 ∨ i = 5 := by omega
      rcases h5 with rfl | rfl | rfl | rfl | rfl | rfl <;> simp only [Nat.reducePow] <;> omega
    rw [e3]
    unfold bitB
    by_cases h : fl z / 2 ^ i % 2 = 1
    · rw [if_pos h, if_pos (decide_eq_true h)]
    · rw [if_neg h, if_neg (by simp [h])]
  show IntKind.i64.wrap ((BitVec.ofInt 64 z &&& BitVec.ofInt 64 ((2 ^ i : Nat) : Int)).toNat : Int) = _
  rw [e2]
  split
  · rw [IntKind.wrap_i64]
    omega
  · rw [IntKind.wrap_i64]
    omega
theorem fl_congr {a b : Int} (h : fl a = fl b) (w : Nat) : bitB a w = bitB b w := by unfold bitB; rw [h]
theorem stN_congr {a b : Int} (h : fl a = fl b) (s : Int) : stN s a = stN s b := by unfold stN opB; simp only [fl_congr h]
theorem stB_congr {a b : Int} (h : fl a = fl b) (p : Int) : stB p a = stB p b := by unfold stB opB; simp only [fl_congr h]
theorem fl_wrap (n : Nat) : fl (IntKind.i64.wrap (n : Int)) = n % 64 := by
  unfold fl
  rw [IntKind.wrap_i64]
  omega
theorem and63 (x : BitVec 64) : (x &&& 63#64).toNat = x.toNat % 64 := by
  rw [BitVec.toNat_and]
  exact Nat.and_two_pow_sub_one_eq_mod x.toNat 6
/-- Other bits above the lowest six. -/
theorem fl_other (z h : Int) : fl (bits .or .i64 (bits .and .i64 z 63) (bits .andNot .i64 h 63)) = fl z := by
  have hw : ∀ n : Nat, n < 18446744073709551616 → BitVec.ofInt 64 (IntKind.i64.wrap (n : Int)) = BitVec.ofNat 64 n := fun n hn => by
    apply BitVec.eq_of_toNat_eq
    rw [low64, IntKind.wrap_i64, BitVec.toNat_ofNat]
    omega
  show fl (IntKind.i64.wrap ((BitVec.ofInt 64 (IntKind.i64.wrap ((BitVec.ofInt 64 z &&& BitVec.ofInt 64 63).toNat : Int)) ||| BitVec.ofInt 64 (IntKind.i64.wrap ((BitVec.ofInt 64 h &&& ~~~(BitVec.ofInt 64 63)).toNat : Int))).toNat : Int)) = fl z
  rw [hw _ (BitVec.isLt _), hw _ (BitVec.isLt _), fl_wrap, BitVec.ofNat_toNat, BitVec.ofNat_toNat, BitVec.setWidth_eq, BitVec.setWidth_eq]
  rw [← and63]
  have e : (BitVec.ofInt 64 z &&& BitVec.ofInt 64 63 ||| BitVec.ofInt 64 h &&& ~~~(BitVec.ofInt 64 63)) &&& 63#64 = BitVec.ofInt 64 z &&& 63#64 := by
    show (BitVec.ofInt 64 z &&& 63#64 ||| BitVec.ofInt 64 h &&& ~~~(63#64)) &&& 63#64 = BitVec.ofInt 64 z &&& 63#64
    generalize (63#64 : BitVec 64) = m
    apply BitVec.eq_of_getLsbD_eq
    intro i hi
    simp only [BitVec.getLsbD_and, BitVec.getLsbD_or, BitVec.getLsbD_not, hi, decide_true, Bool.true_and]
    cases (BitVec.ofInt 64 z).getLsbD i <;> cases (BitVec.ofInt 64 h).getLsbD i <;> cases m.getLsbD i <;> rfl
  rw [e, and63, low64]
  unfold fl
  omega
/-- A state of TCP, and what it comes to. -/
theorem stB_tcp (z : Int) : 1 ≤ stB 6 z ∧ stB 6 z ≤ 4 := by
  unfold stB
  rw [if_neg (by decide), if_neg (by decide)]
  repeat' split
  all_goals omega
theorem stN_tcp {s : Int} (h1 : 1 ≤ s) (h4 : s ≤ 4) (z : Int) : 1 ≤ stN s z ∧ stN s z ≤ 4 := by
  unfold stN
  rw [if_neg (by omega), if_neg (by omega)]
  repeat' split
  all_goals omega
theorem stN_rst {s : Int} (h1 : 1 ≤ s) (h4 : s ≤ 4) {z : Int} (h : bitB z 4 = true) : stN s z = 4 := by
  unfold stN
  rw [if_neg (by omega), if_neg (by omega), if_pos h]
theorem stN_udp (z : Int) : stN 5 z = 5 := by unfold stN; rw [if_pos rfl]
theorem stR_udp : ∀ l : List Int, stR 5 l = 5
  | [] => rfl
  | z :: l => by
    show stR (stN 5 z) l = 5
    rw [stN_udp]
    exact stR_udp l
end Go.Proofs.Ytfbiinipiklkaaa
namespace Go.Proofs.Ytfbiinipiklkaaa
set_option maxRecDepth 100000
open Go.RowKit Go.Lib Go.ChangeShapes Go.WideShapes Go.ChangeAt Go.Deep

section
variable {H : Type} {enc : TypeId × Value → H} {W : World}
def In64 (z : Int) : Prop := -9223372036854775808 ≤ z ∧ z ≤ 9223372036854775807
theorem cZ_int : Try.prog.cellsOf 3 = 1 := by kernel_rfl
theorem cZ_six : Try.prog.cellsOf 45 = 6 := by kernel_rfl
/-- Six numbers by value. -/
def zL (l : List Int) : List Value := l.map fun z => Value.int .i64 z
def zC (l : List Int) : Value := .agg (zL l).toArray
theorem open_idle {v : Value} {d : DataW H} {ps : List MemPlace} (hd : DataW.Trod enc Try.prog W 0 (fun _ => true) true 45 v d ps) :
    ∃ l : List Int, v = zC l ∧ l.length = 6 ∧ ∀ x, x ∈ l → In64 x := by
  obtain ⟨fuel, hf⟩ := hd
  obtain ⟨xs, m, _, _, hl, hxn, hx⟩ := DataW.trod_array Try.underlying45 hf
  rw [cZ_six] at hl
  have hv : ∃ cs, v = .agg cs := by
    cases v with
    | agg cs => exact ⟨cs, rfl⟩
    | _ => simp [Value.cells] at hl
  obtain ⟨cs, rfl⟩ := hv
  have each : ∀ i, ∃ z : Int, (i < 6 → cs.toList[i]? = some (.int .i64 z)) ∧ In64 z := by
    intro i
    by_cases hi : i < 6
    · have hxi := hx i hi
      obtain ⟨x, hxx⟩ : ∃ x, xs[i]? = some x := ⟨_, List.getElem?_eq_getElem (by rw [hxn]; exact hi)⟩
      rw [hxx] at hxi
      obtain ⟨z, hz, _, hw⟩ := DataW.trod_int Try.underlying3 hxi
      rw [cZ_int, Nat.mul_one] at hz
      exact ⟨z, fun _ => one_of_take hz, range_i64 hw⟩
    · exact ⟨0, fun h => absurd h hi, by decide, by decide⟩
  refine ⟨(List.range 6).map fun i => Classical.choose (each i), ?_, by simp, fun x hx => ?_⟩
  · unfold zC zL
    congr 1
    have : cs.toList = ((List.range 6).map fun i => Classical.choose (each i)).map fun z => Value.int .i64 z := by
      apply List.ext_getElem?
      intro i
      by_cases hi : i < 6
      · rw [(Classical.choose_spec (each i)).1 hi, List.getElem?_map, List.getElem?_map, List.getElem?_range hi]
        rfl
      · rw [List.getElem?_eq_none (by simp [Value.cells] at hl ⊢; omega), List.getElem?_eq_none (by simp; omega)]
    rw [← this]
  · obtain ⟨i, _, rfl⟩ := List.mem_map.1 hx
    exact (Classical.choose_spec (each i)).2
end
end Go.Proofs.Ytfbiinipiklkaaa
namespace Go.Proofs.Ytfbiinipiklkaaa
set_option maxRecDepth 100000
open Go.RowKit Go.Lib

theorem wZ (z : Int) (h1 : -9223372036854775808 ≤ z) (h2 : z ≤ 9223372036854775807) : IntKind.i64.wrap z = z := by rw [IntKind.wrap_i64]; omega
theorem rtick_any (z : Int) (W : World) : Calls Try.prog 63 #[.int .i64 z] W fun e w' => e = .returned (.int .i64 (tickZ z)) ∧ W = w' := by
  obtain ⟨t, ht⟩ : ∃ t, tickZ z = t := ⟨_, rfl⟩
  rw [ht]
  unfold tickZ at ht
  by_cases h1 : z < 0
  · rw [if_pos h1] at ht
    subst ht
    go_enter Try.func63, Try.ntmps63
    go_wp2_with fail
    go_ret
    exact ⟨rfl, rfl⟩
  · rw [if_neg h1] at ht
    by_cases h2 : 1099511627776 < z
    · rw [if_pos h2] at ht
      subst ht
      go_enter Try.func63, Try.ntmps63
      go_wp2_with fail
      go_ret
      exact ⟨rfl, rfl⟩
    · rw [if_neg h2] at ht
      subst ht
      go_enter Try.func63, Try.ntmps63
      go_wp2_with fail
      go_ret
      exact ⟨rfl, rfl⟩
end Go.Proofs.Ytfbiinipiklkaaa
namespace Go.Proofs.Ytfbiinipiklkaaa
set_option maxRecDepth 100000
open Go.RowKit Go.Lib

theorem size6 : (Try.prog.info? 45).map (·.size) = some 6 := by kernel_rfl
set_option maxHeartbeats 4000000 in
theorem rstale_any (s seen now : Int) (l : List Int) (hl : l.length = 6) (W : World) : Calls Try.prog 47 #[.int .i64 s, .int .i64 seen, .int .i64 now, zC l] W fun e w' => e = .returned (.bool (staleB s seen now l)) ∧ Below W.heap.size W w' := by
  obtain ⟨C0, hC0⟩ : ∃ C, (zL l).toArray = C := ⟨_, rfl⟩
  obtain ⟨Y, hY⟩ : ∃ Y, W.alloc (.cells C0 45) = Y := ⟨_, rfl⟩
  have HK0 := Lib.hid (show Blk_10 Y 45 W.heap.size (zL l) by rw [← hY, ← hC0]; exact Blk_10.new W _ _)
  have HB0 := Lib.hid (show Below W.heap.size W Y by rw [← hY]; exact (Below.refl W.heap.size W).alloc (Nat.le_refl _) _)
  have HY := Lib.hid hY
  have HKE : Hid (zC l = .agg C0) := Lib.hid (by rw [← hC0]; rfl)
  rw [HKE.out]
  have HT := Lib.hid (fun (z : Int) (W : World) => rtick_any z W)
  obtain ⟨r, hr⟩ : ∃ r, staleB s seen now l = r := ⟨_, rfl⟩
  rw [hr]
  clear hC0 hY HKE
  by_cases ho : s < 1 ∨ 5 < s
  · rw [staleB_out ho] at hr
    subst hr
    rcases ho with ho | ho
    · go_enter Try.func47, Try.ntmps47
      go_upto_region 1 with (fail)
      rw [HY.out]
      go_wp2_with fail
      go_ret
      exact ⟨rfl, HB0.out⟩
    · have h1 : ¬ s < 1 := by omega
      go_enter Try.func47, Try.ntmps47
      go_upto_region 1 with (fail)
      rw [HY.out]
      go_wp2_with fail
      go_ret
      exact ⟨rfl, HB0.out⟩
  · obtain ⟨k, rfl⟩ := Int.eq_ofNat_of_zero_le (show 0 ≤ s by omega)
    have hk6 : k < 6 := by omega
    obtain ⟨x, hx⟩ : ∃ x, l[k]? = some x := ⟨_, List.getElem?_eq_getElem (by rw [hl]; exact hk6)⟩
    rw [staleB_in ho seen now (show l[(k : Int).toNat]? = some x by rw [Int.toNat_natCast]; exact hx)] at hr
    have hc := HK0.out.cell (i := k) (v := .int .i64 x) (by unfold zL; rw [List.getElem?_map, hx]; rfl)
    have t1 := tickZ_range now
    have t2 := tickZ_range seen
    have HTN := Lib.hid (fun W => HT.out now W)
    have HTS := Lib.hid (fun W => HT.out seen W)
    generalize tickZ now = a at t1 hr HTN
    generalize tickZ seen = b at t2 hr HTS
    have kw := wZ (a - b) (by omega) (by omega)
    subst hr
    have k1 : ¬ (k : Int) < 1 := by omega
    have k2 : ¬ 5 < (k : Int) := by omega
    have k3 : (k : Int) < 6 := by omega
    have k4 : (0 : Int) ≤ (k : Int) := by omega
    clear ho hx hl t1 t2 hk6
    go_enter Try.func47, Try.ntmps47
    go_upto_region 1 with (fail)
    rw [HY.out]
    go_wp2_with fail
    go_quiet ((first | (go_at_call 63; exact quiet_same (HTN.out _)) | (go_at_call 63; exact quiet_same (HTS.out _))))
    go_wp2_with fail
    go_ret
    exact ⟨rfl, ⟨HB0.out.os, HB0.out.tape, HB0.out.output, HB0.out.size, HB0.out.block⟩⟩
end Go.Proofs.Ytfbiinipiklkaaa
