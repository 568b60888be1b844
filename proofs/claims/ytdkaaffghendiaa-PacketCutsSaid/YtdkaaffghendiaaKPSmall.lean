/-
  The small functions of packet: need, isPort, segHead, flagsOf, within, lay, Turn.
-/
import Derived.Test.YtdkaaffghendiaaKRef1
import Derived.WalkLawsBesides
namespace Go.Proofs.Ytdkaaffghendiaa
open Go.RowKit Go.Lib Go.ChangeShapes Go.WideShapes Go.ChangeAt

/-- The panic with which reading gives up. -/
def gave (k : Int) : List PanicEntry := [{ v := .iface 55 (.int .i64 k), recovered := false }]
set_option maxHeartbeats 400000 in
theorem need_yes (k : Int) (w : World) : Calls Try.prog 44 #[.bool true, .int .i64 k] w fun e w' => e = .returned (.tuple #[]) ∧ w = w' := by
  go_enter Try.func44, Try.ntmps44
  go_wp2_with fail
  go_end0
  exact ⟨rfl, rfl⟩
set_option maxHeartbeats 400000 in
theorem need_no (k : Int) (w : World) : Calls Try.prog 44 #[.bool false, .int .i64 k] w fun e w' => e = .panicked (gave k) ∧ w = w' := by
  go_enter Try.func44, Try.ntmps44
  go_wp2_with fail
  exact ⟨rfl, rfl, rfl⟩
def isPt (n : Int) : Bool := decide (n = 6 ∨ n = 17)
set_option maxHeartbeats 400000 in
theorem isport_any (n : Int) (w : World) : Calls Try.prog 46 #[.int .i64 n] w fun e w' => e = .returned (.bool (isPt n)) ∧ w = w' := by
  by_cases h1 : n = 6
  · subst h1
    go_enter Try.func46, Try.ntmps46
    go_wp2
    go_ret
    exact ⟨rfl, rfl⟩
  · have b1 : (n == 6) = false := beq_eq_false_iff_ne.2 h1
    by_cases h2 : n = 17
    · subst h2
      clear h1
      go_enter Try.func46, Try.ntmps46
      go_wp2
      go_ret
      exact ⟨rfl, rfl⟩
    · have b2 : (n == 17) = false := beq_eq_false_iff_ne.2 h2
      have e : isPt n = false := decide_eq_false (by omega)
      rw [e]
      clear h1 h2 e
      go_enter Try.func46, Try.ntmps46
      go_wp2
      go_ret
      exact ⟨rfl, rfl⟩
/-- How many bytes a segment's header has; all the flags that it may have. -/
def shI (n : Int) : Nat := if n = 6 then 20 else 8
def flI (n : Int) : Int := if n = 6 then 63 else 0
set_option maxHeartbeats 400000 in
theorem seghead_any (n : Int) (w : World) : Calls Try.prog 28 #[.int .i64 n] w fun e w' => e = .returned (.int .i64 (shI n : Nat)) ∧ w = w' := by
  by_cases h1 : n = 6
  · subst h1
    go_enter Try.func28, Try.ntmps28
    go_wp2
    go_ret
    exact ⟨rfl, rfl⟩
  · have b1 : (n == 6) = false := beq_eq_false_iff_ne.2 h1
    have e : shI n = 8 := if_neg h1
    rw [e]
    clear h1 e
    go_enter Try.func28, Try.ntmps28
    go_wp2
    go_ret
    exact ⟨rfl, rfl⟩
set_option maxHeartbeats 400000 in
theorem flagsof_any (n : Int) (w : World) : Calls Try.prog 59 #[.int .i64 n] w fun e w' => e = .returned (.int .i64 (flI n)) ∧ w = w' := by
  by_cases h1 : n = 6
  · subst h1
    go_enter Try.func59, Try.ntmps59
    go_wp2
    go_ret
    exact ⟨rfl, rfl⟩
  · have b1 : (n == 6) = false := beq_eq_false_iff_ne.2 h1
    have e : flI n = 0 := if_neg h1
    rw [e]
    clear h1 e
    go_enter Try.func59, Try.ntmps59
    go_wp2
    go_ret
    exact ⟨rfl, rfl⟩
set_option maxHeartbeats 1000000 in
theorem pwithin_any (n hi : Int) (w : World) : Calls Try.prog 58 #[.int .i64 n, .int .i64 hi] w fun e w' => e = .returned (.bool (inB n 0 hi)) ∧ w = w' := by
  by_cases h1 : 0 ≤ n
  · have d1 : decide (0 ≤ n) = true := decide_eq_true h1
    by_cases h2 : n ≤ hi
    · have e : inB n 0 hi = true := decide_eq_true ⟨h1, h2⟩
      rw [e]
      clear e
      go_enter Try.func58, Try.ntmps58
      go_wp2
      go_ret
      exact ⟨rfl, rfl⟩
    · have e : inB n 0 hi = false := decide_eq_false (fun h => h2 h.2)
      rw [e]
      clear e
      have b2 : decide (n ≤ hi) = false := decide_eq_false h2
      go_enter Try.func58, Try.ntmps58
      go_wp2
      go_ret
      exact ⟨rfl, rfl⟩
  · have e : inB n 0 hi = false := decide_eq_false (fun h => h1 h.1)
    rw [e]
    clear e
    have b2 : decide (0 ≤ n) = false := decide_eq_false h1
    go_enter Try.func58, Try.ntmps58
    go_wp2
    go_ret
    exact ⟨rfl, rfl⟩
set_option maxHeartbeats 2000000 in
/-- Two bytes laid into a slice of the call's own. -/
theorem play_any (n : Nat) (hn : n < 65536) {w : World} {g N C base : Nat} {ys : List UInt8} (hown : Own8 w base (.slice (some ⟨g, 0, none⟩) N C) ys) (hN : ys.length = N) (off : Nat) (h1 : off + 2 ≤ N) (hb : N ≤ 1000000) (z y : Int) (hz : z = (off : Int)) (hy : y = (n : Int)) :
    Calls Try.prog 63 #[.slice (some ⟨g, 0, none⟩) N C, .int .i64 z, .int .i64 y] w fun e w' => e = .returned (.tuple #[]) ∧ Own8 w' base (.slice (some ⟨g, 0, none⟩) N C) (put2_10 ys off n) ∧ Below g w w' := by
  subst hz hy
  have HO := Lib.hid hown
  have HL := Lib.hid hN
  have HHI := Lib.hid (show ((n : Int) / 256) = ((UInt8.ofNat (n / 256)).toNat : Int) by rw [UInt8.toNat_ofNat']; omega)
  have HLO := Lib.hid (show ((n : Int) % 256) = ((UInt8.ofNat (n % 256)).toNat : Int) by rw [UInt8.toNat_ofNat']; omega)
  have w1 : IntKind.u8.wrap ((n : Int) / 256) = (n : Int) / 256 := by rw [IntKind.wrap_u8]; omega
  have w2 : IntKind.u8.wrap (n : Int) = (n : Int) % 256 := by rw [IntKind.wrap_u8]
  have w3 : IntKind.i64.wrap ((off : Int) + 1) = ((off + 1 : Nat) : Int) := by rw [IntKind.wrap_i64]; omega
  have b1 : off < N := by omega
  have b2 : off + 1 < N := by omega
  have HL2 := Lib.hid (show (ys.set off (UInt8.ofNat (n / 256))).length = N by rw [List.length_set, hN])
  clear hown hN
  go_enter Try.func63, Try.ntmps63
  go_wp2_with (first
    | ((with_reducible show wpList _ _ _ (⟨none, .store 5 (.tmp 16) _, _, _, _, _⟩ :: _) _ _); refine wpList_storeO rfl (.tmp 16) _ rfl g off (by rfl) (UInt8.ofNat (n / 256)) ((n : Int) / 256) HHI.out (by rfl) ys N C base HL.out HO.out b1 ?_; intro wa hoa hba; have HOa := Lib.hid hoa; have HBa := Lib.hid hba; clear hoa hba)
    | ((with_reducible show wpList _ _ _ (⟨none, .store 5 (.tmp 17) _, _, _, _, _⟩ :: _) _ _); refine wpList_storeO rfl (.tmp 17) _ rfl g (off + 1) (by rfl) (UInt8.ofNat (n % 256)) ((n : Int) % 256) HLO.out (by rfl) (ys.set off (UInt8.ofNat (n / 256))) N C base HL2.out HOa.out b2 ?_; intro wb hob hbb; have HOb := Lib.hid hob; have HBb := Lib.hid hbb; clear hob hbb))
  go_end0
  exact ⟨rfl, HOb.out, HBa.out.trans HBb.out⟩

/-- A part of a block known whole is stored. -/
theorem Blk.setCells_mid {T : TypeId} {g : Nat} (post : List Value) : ∀ (vs pre old : List Value) (w : World) (o : Nat), pre.length = o → old.length = vs.length → Blk w T g (pre ++ (old ++ post)) → Blk (w.setCells g o vs) T g (pre ++ (vs ++ post))
  | [], pre, old, w, o, _, ho, h => by
    obtain rfl : old = [] := List.eq_nil_of_length_eq_zero (by simpa using ho)
    exact h
  | v :: vs, pre, [], _, _, _, ho, _ => by simp at ho
  | v :: vs, pre, u :: old, w, o, hp, ho, h => by
    have h1 := Blk_10.set h o v
    have e : (pre ++ (u :: old ++ post)).set o v = (pre ++ [v]) ++ (old ++ post) := by
      rw [List.set_append_right _ _ (by omega), hp, Nat.sub_self]
      simp
    rw [e] at h1
    have := Blk.setCells_mid post vs (pre ++ [v]) old _ (o + 1) (by simp [hp]) (by simpa using ho) h1
    show Blk ((w.setCell ⟨g, o, none⟩ v).setCells g (o + 1) vs) T g _
    simpa using this
theorem below_setCells {B : Nat} {w0 : World} {g : Nat} (hg : B ≤ g) : ∀ (vs : List Value) (w : World) (o : Nat), Below B w0 w → Below B w0 (w.setCells g o vs)
  | [], _, _, h => h
  | v :: vs, _, o, h => below_setCells hg vs _ (o + 1) (h.setCell (p := ⟨g, o, none⟩) hg v)
theorem Blk.there {w : World} {T : TypeId} {g : Nat} {cs : List Value} (h : Blk w T g cs) {o n : Nat} (hn : o + n ≤ cs.length) : w.there g o n := fun j hj => by
  have hv : cs[o + j]? = some (cs[o + j]'(by omega)) := List.getElem?_eq_getElem (by omega)
  exact ⟨by rw [Blk_10.cell h hv]; rfl, Blk_10.frozen h _⟩
theorem heap_setCells_far {g k : Nat} (hk : k ≠ g) : ∀ (vs : List Value) (w : World) (o : Nat), (w.setCells g o vs).heap[k]? = w.heap[k]?
  | [], _, _ => rfl
  | v :: vs, w, o => (heap_setCells_far hk vs _ (o + 1)).trans (Below.heap_setCell w ⟨g, o, none⟩ v k hk)
/-- An address stored into the middle of a block known whole. -/
theorem wpList_storeAd {w : World} {ops : Array Oper} {rest : List Oper} {op : Oper} {a : Act} {Q : Exit → Act → World → Prop} (hgd : op.guard = none) (x y : Operand) (ho : op.op = .store 26 x y)
    (g o : Nat) (hx : a.eval x = .pointer (some ⟨g, o, none⟩)) (A : Ad) (hA : A.b.length = 16) (hy : a.eval y = .agg (adL A).toArray) (T : TypeId) (cs pre old post : List Value) (hp : pre.length = o) (hl : old.length = 17) (hb : Blk w T g cs) (e : cs = pre ++ (old ++ post))
    (h : ∀ w', Blk w' T g (pre ++ (adL A ++ post)) → (∀ k, k ≠ g → w'.heap[k]? = w.heap[k]?) → Below g w w' → wpList Try.prog ops Q rest (a.put op.dst undef) w') : wpList Try.prog ops Q (op :: rest) a w := by
  subst e
  have hAl := adL_len hA
  refine wpList_store_mid hgd 26 x y ho g o (adL A).toArray hx hy ?_ ?_ (all_oneCell_toArray (adL_one A)) (h _ (Blk.setCells_mid post (adL A) pre old w o hp (by rw [hl, hAl]) hb) (fun k hk => heap_setCells_far hk _ _ _) (below_setCells (Nat.le_refl _) _ _ _ (Below.refl g w)))
  · have := Blk.there hb (o := o) (n := 17) (by rw [List.length_append, List.length_append, hp, hl]; omega)
    simpa [hAl] using this
  · simpa [hAl] using sizeAdL hA
set_option maxHeartbeats 4000000 in
theorem pturn_any {t : Tu} (h : t.Ok) (w : World) : Calls Try.prog 19 #[tuC t] w fun e w' => e = .returned (tuC (turnT t)) ∧ Below w.heap.size w w' := by
  obtain ⟨Y, hY, hq, hr, hb⟩ := box_tu w t (tuL Tu.zero) 28
  rw [← zeroT] at hY
  have k0 := tu_src hq
  have k1 := tu_dst hq h
  unfold tuC
  obtain ⟨C, hC⟩ : ∃ C, (tuL t).toArray = C := ⟨_, rfl⟩
  rw [hC] at hY ⊢
  have HY := Lib.hid hY
  have HQ := Lib.hid hq
  have K0 := Lib.hid k0
  have K1 := Lib.hid k1
  have HR := Lib.hid hr
  have HB := Lib.hid hb
  have HO := Lib.hid h
  have N1 := Lib.hid (fun (W : World) (hW : Blk W 28 w.heap.size (tuL ⟨t.d, t.s, t.pr, t.sp, t.dp⟩)) => tu_num hW (t := ⟨t.d, t.s, t.pr, t.sp, t.dp⟩) ⟨HO.out.d, HO.out.s⟩)
  have S35 := Lib.hid (show (tuL ⟨t.d, t.s, t.pr, t.sp, t.dp⟩).set 35 (.int .i64 t.dp) = tuL ⟨t.d, t.s, t.pr, t.dp, t.dp⟩ by
    obtain ⟨⟨s6, sb⟩, ⟨d6, db⟩, pr, sp, dp⟩ := t
    obtain ⟨a0, a1, a2, a3, a4, a5, a6, a7, a8, a9, a10, a11, a12, a13, a14, a15, rfl⟩ := sixteen HO.out.s
    obtain ⟨b0, b1, b2, b3, b4, b5, b6, b7, b8, b9, b10, b11, b12, b13, b14, b15, rfl⟩ := sixteen HO.out.d
    rfl)
  have S36 := Lib.hid (show (tuL ⟨t.d, t.s, t.pr, t.dp, t.dp⟩).set 36 (.int .i64 t.sp) = tuL (turnT t) by
    obtain ⟨⟨s6, sb⟩, ⟨d6, db⟩, pr, sp, dp⟩ := t
    obtain ⟨a0, a1, a2, a3, a4, a5, a6, a7, a8, a9, a10, a11, a12, a13, a14, a15, rfl⟩ := sixteen HO.out.s
    obtain ⟨b0, b1, b2, b3, b4, b5, b6, b7, b8, b9, b10, b11, b12, b13, b14, b15, rfl⟩ := sixteen HO.out.d
    rfl)
  have I35 := Lib.hid (show (tuL ⟨t.d, t.s, t.pr, t.sp, t.dp⟩)[35]? = some (.int .i64 t.sp) by
    obtain ⟨⟨s6, sb⟩, ⟨d6, db⟩, pr, sp, dp⟩ := t
    obtain ⟨a0, a1, a2, a3, a4, a5, a6, a7, a8, a9, a10, a11, a12, a13, a14, a15, rfl⟩ := sixteen HO.out.s
    obtain ⟨b0, b1, b2, b3, b4, b5, b6, b7, b8, b9, b10, b11, b12, b13, b14, b15, rfl⟩ := sixteen HO.out.d
    rfl)
  have I36 := Lib.hid (show (tuL ⟨t.d, t.s, t.pr, t.dp, t.dp⟩)[36]? = some (.int .i64 t.dp) by
    obtain ⟨⟨s6, sb⟩, ⟨d6, db⟩, pr, sp, dp⟩ := t
    obtain ⟨a0, a1, a2, a3, a4, a5, a6, a7, a8, a9, a10, a11, a12, a13, a14, a15, rfl⟩ := sixteen HO.out.s
    obtain ⟨b0, b1, b2, b3, b4, b5, b6, b7, b8, b9, b10, b11, b12, b13, b14, b15, rfl⟩ := sixteen HO.out.d
    rfl)
  clear hY k0 k1 hr hb hC hq h
  go_enter Try.func19, Try.ntmps19
  go_wp2_with (first
    | ((with_reducible show wpList _ _ _ (⟨some 4, _, _, _, _, _⟩ :: _) _ _); refine wpList_loadAd (op := ⟨some 4, _, _, _, _, _⟩) _ rfl (by rfl) w.heap.size 17 (by rfl) t.d HO.out.d (by rw [HY.out]; exact K1.out) ?_)
    | ((with_reducible show wpList _ _ _ (⟨some 6, _, _, _, _, _⟩ :: _) _ _); refine wpList_loadAd (op := ⟨some 6, _, _, _, _, _⟩) _ rfl (by rfl) w.heap.size 0 (by rfl) t.s HO.out.s (by rw [HY.out]; exact K0.out) ?_)
    | ((with_reducible show wpList _ _ _ (⟨none, .store 26 (.tmp 7) _, _, _, _, _⟩ :: _) _ _); rw [HY.out]; refine wpList_storeAd rfl (.tmp 7) _ rfl w.heap.size 0 (by rfl) t.d HO.out.d (by rfl) 28 (tuL t) [] (adL t.s) (adL t.d ++ tuE t) rfl (adL_len HO.out.s) HQ.out rfl ?_; intro wa hqa hna hba; have HQa := Lib.hid hqa; have HRa := Lib.hid (show Blk wa 28 (w.heap.size + 1) (tuL Tu.zero) from (hna _ (Nat.succ_ne_self _)).trans HR.out); have HBa := Lib.hid (HB.out.trans (hba.mono (Nat.le_refl _))); clear hqa hna hba)
    | ((with_reducible show wpList _ _ _ (⟨none, .store 26 (.tmp 8) _, _, _, _, _⟩ :: _) _ _); refine wpList_storeAd rfl (.tmp 8) _ rfl w.heap.size 17 (by rfl) t.s HO.out.s (by rfl) 28 ([] ++ (adL t.d ++ (adL t.d ++ tuE t))) (adL t.d) (adL t.d) (tuE t) (adL_len HO.out.d) (adL_len HO.out.d) HQa.out rfl ?_; intro wb hqb hnb hbb; have HQb := Lib.hid (show Blk wb 28 w.heap.size (tuL ⟨t.d, t.s, t.pr, t.sp, t.dp⟩) from hqb); have HRb := Lib.hid (show Blk wb 28 (w.heap.size + 1) (tuL Tu.zero) from (hnb _ (Nat.succ_ne_self _)).trans HRa.out); have HBb := Lib.hid (HBa.out.trans (hbb.mono (Nat.le_refl _))); obtain ⟨n0, n1, n2⟩ := N1.out wb HQb.out; clear hqb hnb hbb)
    | ((with_reducible show wpList _ _ _ (⟨none, .store 3 (.tmp 13) _, _, _, _, _⟩ :: _) _ _); refine wpList_storeI_10 rfl (.tmp 13) _ rfl w.heap.size 35 (by rfl) t.dp (by rfl) 28 _ HQb.out t.sp I35.out ?_; intro wc hqc hnc hbc; rw [S35.out] at hqc; have HQc := Lib.hid hqc; have HRc := Lib.hid (show Blk wc 28 (w.heap.size + 1) (tuL Tu.zero) from (hnc _ (Nat.succ_ne_self _)).trans HRb.out); have HBc := Lib.hid (HBb.out.trans (hbc.mono (Nat.le_refl _))); clear hqc hnc hbc)
    | ((with_reducible show wpList _ _ _ (⟨none, .store 3 (.tmp 14) _, _, _, _, _⟩ :: _) _ _); refine wpList_storeI_10 rfl (.tmp 14) _ rfl w.heap.size 36 (by rfl) t.sp (by rfl) 28 _ HQc.out t.dp I36.out ?_; intro wd hqd hnd hbd; rw [S36.out] at hqd; have HQd := Lib.hid hqd; have HRd := Lib.hid (show Blk wd 28 (w.heap.size + 1) (tuL Tu.zero) from (hnd _ (Nat.succ_ne_self _)).trans HRc.out); have HBd := Lib.hid (HBc.out.trans (hbd.mono (Nat.le_refl _))); clear hqd hnd hbd)
    | ((with_reducible show wpList _ _ _ (⟨some 15, _, _, _, _, _⟩ :: _) _ _); refine wpList_loadTu (op := ⟨some 15, _, _, _, _, _⟩) _ rfl (by rfl) w.heap.size 0 (by rfl) (turnT t) (turnT_ok HO.out) (Blk_10.range HQd.out) ?_)
    | ((with_reducible show wpList _ _ _ (⟨none, .store 28 (.tmp 2) _, _, _, _, _⟩ :: _) _ _); refine wpList_storeR_10 rfl 28 _ _ rfl (w.heap.size + 1) (by rfl) (tuL (turnT t)) (by rfl) _ HRd.out (by rw [tuL_len (turnT_ok HO.out)]; rfl) (sizeTuL (turnT_ok HO.out)) (tuL_one _) ?_))
  refine bodyPost_ret (v := tuC (turnT t)) (results_tu rfl _ _ (w.heap.size + 1) (by rfl) _ (turnT_ok HO.out) (Blk_10.setRow_ HRd.out _)) rfl ?_
  exact ⟨rfl, below_setRow HBd.out (Nat.le_succ _) _⟩
end Go.Proofs.Ytdkaaffghendiaa
